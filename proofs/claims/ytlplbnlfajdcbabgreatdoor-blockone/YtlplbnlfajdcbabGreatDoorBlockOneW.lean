/-
  The law BlockOne, as its row asks it. Conditions: as it says.
-/
import Derived.Test.YtlplbnlfajdcbabGreatDoorBkS
namespace Go.Proofs.YtlplbnlfajdcbabGreatDoor
open Go.RowKit
set_option linter.unusedVariables false
theorem blockOne_any (h0 h1 h2 h3 h4 h5 h6 h7 h8 : Int) (v1 : Value) (l : List Rec.Ln) (k0 k1 k2 k3 k4 k5 k6 k7 k8 : Int) (v2 : Value) (m : List Rec.Ln) (w : World)
    (qh0 : -9223372036854775808 ≤ h0 ∧ h0 ≤ 9223372036854775807) (qh1 : -9223372036854775808 ≤ h1 ∧ h1 ≤ 9223372036854775807) (qh5 : -9223372036854775808 ≤ h5 ∧ h5 ≤ 9223372036854775807) (qh6 : -9223372036854775808 ≤ h6 ∧ h6 ≤ 9223372036854775807) (hv1 : LsAt v1 l w) (hl : l.length ≤ 1125899906842624) (hls : ∀ x ∈ l, -9223372036854775808 ≤ x.1 ∧ x.1 ≤ 9223372036854775807 ∧ x.2.size ≤ 140737488351232)
    (qk0 : -9223372036854775808 ≤ k0 ∧ k0 ≤ 9223372036854775807) (qk1 : -9223372036854775808 ≤ k1 ∧ k1 ≤ 9223372036854775807) (qk5 : -9223372036854775808 ≤ k5 ∧ k5 ≤ 9223372036854775807) (qk6 : -9223372036854775808 ≤ k6 ∧ k6 ≤ 9223372036854775807) (hv2 : LsAt v2 m w) (hm : m.length ≤ 1125899906842624) (hms : ∀ x ∈ m, -9223372036854775808 ≤ x.1 ∧ x.1 ≤ 9223372036854775807 ∧ x.2.size ≤ 140737488351232) (ht : Tab w) :
    Calls Tryz.prog 3 #[.agg #[.int .i64 h0, .int .i64 h1, .int .i64 h2, .int .i64 h3, .int .i64 h4, .int .i64 h5, .int .i64 h6, .int .i64 h7, .int .i64 h8], v1, .agg #[.int .i64 k0, .int .i64 k1, .int .i64 k2, .int .i64 k3, .int .i64 k4, .int .i64 k5, .int .i64 k6, .int .i64 k7, .int .i64 k8], v2] w fun e w' => e = .returned (.bool true) ∧ Below w.heap.size w w' :=
  one_any h0 h1 h2 h3 h4 h5 h6 h7 h8 k0 k1 k2 k3 k4 k5 k6 k7 k8 v1 v2 l m w hv1 hv2 hl hls hm hms qh0 qh1 qh5 qh6 qk0 qk1 qk5 qk6 ht
end Go.Proofs.YtlplbnlfajdcbabGreatDoor
