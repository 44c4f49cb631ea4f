/-
  What the laws' pick does: it answers a number from 0 on, below n. Conditions: both are ints, n is above 0.
-/
import Derived.Test.YtlejfeapnnioeaaBas
namespace Go.Proofs.Ytlejfeapnnioeaa
open Go.RowKit
set_option linter.unusedVariables false
theorem ret_i64 {a b : Int} (h : a = b) : Ending.returned (.int .i64 a) = .returned (.int .i64 b) := by rw [h]
set_option maxHeartbeats 400000 in
theorem pick_any (c n : Int) (w : World) (h0 : 0 < n) (hn : n ≤ 9223372036854775807) (hl : -9223372036854775808 ≤ c) (hh : c ≤ 9223372036854775807) :
    Calls Try.prog 14 #[.int .i64 c, .int .i64 n] w fun e w' => (∃ r : Nat, (r : Int) < n ∧ e = .returned (.int .i64 (r : Int))) ∧ w' = w := by
  by_cases hc : c < 0
  · have h1 : 0 ≤ -(c + 1) % n := Int.emod_nonneg _ (by omega)
    have h2 : -(c + 1) % n < n := Int.emod_lt_of_pos _ h0
    have h3 : ¬ n = 0 := by omega
    go_enter Try.func14, Try.ntmps14
    go_wp2
    go_ret
    refine ⟨⟨(-(c + 1) % n).toNat, by omega, ret_i64 ?_⟩, rfl⟩
    rw [← Int.neg_tmod, Int.tmod_eq_emod_of_nonneg (by omega)]
    omega
  · have h1 : 0 ≤ c % n := Int.emod_nonneg _ (by omega)
    have h2 : c % n < n := Int.emod_lt_of_pos _ h0
    have h3 : ¬ n = 0 := by omega
    go_enter Try.func14, Try.ntmps14
    go_wp2
    go_ret
    refine ⟨⟨(c % n).toNat, by omega, ret_i64 ?_⟩, rfl⟩
    omega
end Go.Proofs.Ytlejfeapnnioeaa
