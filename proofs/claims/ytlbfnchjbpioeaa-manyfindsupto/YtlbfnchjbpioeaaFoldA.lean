/-
  What swar.split does. Conditions: as each says.
-/
import Derived.Test.YtlbfnchjbpioeaaSameFold
import Derived.Test.YtlbfnchjbpioeaaBldW
namespace Go.Proofs.Ytlbfnchjbpioeaa
open Go.RowKit
set_option linter.unusedVariables false
/-- a word's bytes -/
def spl (v : Nat) : List Nat := [Swar.byt v 0, Swar.byt v 1, Swar.byt v 2, Swar.byt v 3, Swar.byt v 4, Swar.byt v 5, Swar.byt v 6, Swar.byt v 7]
theorem split_any (v : Nat) (w : World) (hv : v < 18446744073709551616) :
    Calls Try.prog 44 #[.int .u64 (v : Int)] w fun e w' => e = .returned (.agg (byv (spl v)).toArray) ∧ Below w.heap.size w w' := by
  have hv2 : (v : Int) < 18446744073709551616 := by omega
  have HV := Hid.mk' hv
  clear hv
  go_enter Try.func44, Try.ntmps44
  go_wp2_with fail
  have h7 : Swar.byt v 7 = v / 72057594037927936 := by unfold Swar.byt; have := HV.out; rw [show 256 ^ 7 = 72057594037927936 by rfl]; omega
  have h0 : Swar.byt v 0 = v % 256 := by unfold Swar.byt; simp
  have hE : (#[.int .u8 ((v : Int) % 256), .int .u8 ((v : Int) / 256 % 256), .int .u8 ((v : Int) / 65536 % 256), .int .u8 ((v : Int) / 16777216 % 256), .int .u8 ((v : Int) / 4294967296 % 256), .int .u8 ((v : Int) / 1099511627776 % 256), .int .u8 ((v : Int) / 281474976710656 % 256), .int .u8 ((v : Int) / 72057594037927936)] : Array Value) = (byv (spl v)).toArray := by
    unfold spl byv
    rw [h7, h0]
    unfold Swar.byt
    simp
  exact bodyPost_ret (v := .agg #[.int .u8 ((v : Int) % 256), .int .u8 ((v : Int) / 256 % 256), .int .u8 ((v : Int) / 65536 % 256), .int .u8 ((v : Int) / 16777216 % 256), .int .u8 ((v : Int) / 4294967296 % 256), .int .u8 ((v : Int) / 1099511627776 % 256), .int .u8 ((v : Int) / 281474976710656 % 256), .int .u8 ((v : Int) / 72057594037927936)]) (by simp [results, Try.results44, go_sem]) rfl ⟨by rw [hE], (Below.refl _ _).alloc (Nat.le_refl _) _⟩
theorem bl_fold_take (s : ByteArray) (p : Nat) (h : p < s.size) : (Sums.bl (Swar.foldL s)).take (p + 8) = (Sums.bl (Swar.foldL s)).take p ++ (spl (Swar.lowerL (Swar.ldL s p))).take (min 8 (s.size - p)) := by
  have hz : (Sums.bl (Swar.foldL s)).length = s.size := by rw [Sums.bl_length, Swar.fold_size]
  rw [List.take_add]
  congr 1
  have hlen : (spl (Swar.lowerL (Swar.ldL s p))).length = 8 := rfl
  apply List.ext_getElem?
  intro j
  rw [List.getElem?_take, List.getElem?_drop, List.getElem?_take]
  by_cases hj : j < min 8 (s.size - p)
  · have hj8 : j < 8 := by omega
    have hjs : p + j < s.size := by omega
    rw [if_pos hj8, if_pos hj]
    have hb : Sums.bl (Swar.foldL s) = (Sums.bl (Swar.foldL s)) := rfl
    have e1 : (Sums.bl (Swar.foldL s))[p + j]? = some (Swar.bt (Swar.foldL s) (p + j)) := by
      have hl : p + j < (Swar.foldL s).size := by rw [Swar.fold_size]; exact hjs
      have := Sums.bl_get (Swar.foldL s) (p + j) hl
      rw [List.getD_eq_getElem?_getD, List.getElem?_eq_getElem (by rw [hz]; exact hjs)] at this
      rw [List.getElem?_eq_getElem (by rw [hz]; exact hjs)]
      unfold Swar.bt
      rw [dif_pos hl, ← this]
      rfl
    have e2 : (spl (Swar.lowerL (Swar.ldL s p)))[j]? = some (Swar.byt (Swar.lowerL (Swar.ldL s p)) j) := by
      have hj' : j = 0 ∨ j = 1 ∨ j = 2 ∨ j = 3 ∨ j = 4 ∨ j = 5 ∨ j = 6 ∨ j = 7 := by omega
      rcases hj' with rfl | rfl | rfl | rfl | rfl | rfl | rfl | rfl <;> rfl
    rw [e1, e2, Swar.byt_lower _ _ hj8, Swar.byt_at _ _ _ hj8, Swar.bt_fold]
  · rw [if_neg hj]
    by_cases hj8 : j < 8
    · rw [if_pos hj8]
      exact List.getElem?_eq_none (by rw [hz]; omega)
    · rw [if_neg hj8]
theorem fold_byt (s : ByteArray) (p : Nat) : ∀ z ∈ (Sums.bl (Swar.foldL s)).take p, z < 256 := fun z hz => Sums.bl_byt _ z (List.mem_of_mem_take hz)
end Go.Proofs.Ytlbfnchjbpioeaa
