/-
  Plain facts on texts made small. No conditions but those that each fact names.
-/
import Derived.Test.YtjodfdfegbbogaaDoorFoldS
import Derived.Test.YtjodfdfegbbogaaDoorCompare
namespace Swar
theorem small_small (b : Nat) : small (small b) = small b := by
  unfold small
  by_cases h : 65 ≤ b ∧ b ≤ 90
  · rw [if_pos h, if_neg (by omega)]
  · rw [if_neg h, if_neg h]
theorem fold_fold (a : ByteArray) : foldL (foldL a) = foldL a := by
  refine ext_bt _ _ (fold_size _) (fun i hi => ?_)
  rw [bt_fold, bt_fold, small_small]
theorem fold_append (a b : ByteArray) : foldL (a ++ b) = foldL a ++ foldL b := by
  apply ByteArray.ext
  rw [ByteArray.data_append]
  show (a ++ b).data.map _ = a.data.map _ ++ b.data.map _
  rw [ByteArray.data_append, Array.map_append]
theorem cell_fold (a : ByteArray) (i : Int) : cell (foldL a) i = small (cell a i) := by
  unfold cell
  split
  · rw [bt_fold]
  · rfl
theorem ld_fold (a : ByteArray) (i : Int) : ldL (foldL a) i = lowerL (ldL a i) := by
  refine byt_ext 8 _ _ (by have := ldL_lt (foldL a) i; simpa using this) (by have := lowerL_lt (ldL a i); simpa using this) (fun j hj => ?_)
  rw [byt_ldL _ _ _ hj, byt_lower _ _ hj, byt_ldL _ _ _ hj, cell_fold]
theorem same_fold (a : ByteArray) : sameL a (foldL a) = true := by rw [same_eq]; exact decide_eq_true (fold_fold a).symm
theorem same_k (a : ByteArray) : sameL (a ++ ⟨#[107]⟩) (foldL a ++ ⟨#[75]⟩) = true := by
  rw [same_eq]
  refine decide_eq_true ?_
  rw [fold_append, fold_append, fold_fold]
  congr 1
  decide +kernel
theorem same_more (a : ByteArray) : sameL a (a ++ ⟨#[107]⟩) = false := same_size _ _ (by rw [ByteArray.size_append]; show a.size ≠ a.size + 1; omega)
theorem cmp_self (a : ByteArray) : cmpL a a = 0 := by have := cmp_swap a a; omega
theorem cmp_zero (a b : ByteArray) (h : cmpL a b = 0) : a = b := by
  have s := com_spec a b
  unfold cmpL at h
  split at h
  · rename_i hc
    exact ext_bt _ _ (by omega) (fun i hi => s.2.2.1 i (by omega))
  · split at h
    · omega
    · split at h
      · omega
      · split at h <;> omega
theorem same_cmp (a b : ByteArray) : sameL a b = decide (cmpL (foldL a) (foldL b) = 0) := by
  rw [same_eq]
  refine decide_eq_decide.2 ⟨fun h => by rw [h]; exact cmp_self _, cmp_zero _ _⟩
end Swar
