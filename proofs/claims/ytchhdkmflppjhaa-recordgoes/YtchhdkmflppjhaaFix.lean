/-
  What code.Fixed writes. Conditions: the number is of 64 bits, the width an int.
-/
import Derived.Test.YtchhdkmflppjhaaInt
namespace Go.Proofs.Ytchhdkmflppjhaa
open Go.RowKit
set_option linter.unusedVariables false
/-- the first k bytes of a number -/
def fixL (k n : Nat) : List Nat := (List.range k).map fun q => n / 256 ^ q % 256
theorem fixL_len (k n : Nat) : (fixL k n).length = k := by simp [fixL]
theorem fixL_step (k n : Nat) : fixL (k + 1) n = fixL k n ++ [n / 256 ^ k % 256] := by
  unfold fixL
  rw [List.range_succ, List.map_append]
  rfl
theorem fixL_byt (k n : Nat) : ∀ z ∈ fixL k n, z < 256 := by
  intro z hz
  obtain ⟨q, _, rfl⟩ := List.mem_map.1 hz
  exact Nat.mod_lt _ (by decide)
theorem set_at (A : List Value) (r : Nat) (x z : Value) (j : Nat) (hj : A.length = j) : (A ++ List.replicate (r + 1) z).set j x = A ++ [x] ++ List.replicate r z := by
  subst hj
  rw [List.set_append_right _ _ (Nat.le_refl _), Nat.sub_self, List.replicate_succ, List.set_cons_zero, List.append_assoc]
  rfl
theorem ret_tup2 {a b c d : Value} (h : a = b) (h2 : c = d) : Ending.returned (.tuple #[a, c]) = .returned (.tuple #[b, d]) := by rw [h, h2]
/-- what Fixed answers -/
def fixR (n : Nat) (k : Int) : Ending :=
  if k < 1 ∨ 8 < k then .returned (.tuple #[.string ByteArray.empty, .int .i64 1])
  else if 0 < n / 256 ^ k.toNat then .returned (.tuple #[.string ByteArray.empty, .int .i64 32])
  else .returned (.tuple #[.string (nums (fixL k.toNat n)), .int .i64 0])
end Go.Proofs.Ytchhdkmflppjhaa
