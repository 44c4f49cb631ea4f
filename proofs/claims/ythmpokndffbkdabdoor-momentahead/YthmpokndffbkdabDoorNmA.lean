/-
  What is told of digits, one behind the other. No program is named here.
-/
import Derived.Test.YthmpokndffbkdabDoorMoW
namespace Go.Proofs.YthmpokndffbkdabDoor
open Go.RowKit
set_option linter.unusedVariables false
theorem numB_add : ∀ (j k : Nat) (l : List Nat), numB (j + k) l = (numB j l || numB k (numL j l))
  | 0, k, l => by simp [numB, numL]
  | j + 1, k, [] => by
    rw [show j + 1 + k = (j + k) + 1 by omega, numB, numB]; rfl
  | j + 1, k, x :: r => by
    rw [show j + 1 + k = (j + k) + 1 by omega, numB, numB, numL]
    split
    · exact numB_add j k r
    · rfl
theorem numL_add : ∀ (j k : Nat) (l : List Nat), numB j l = false → numL (j + k) l = numL k (numL j l)
  | 0, k, l, _ => by simp [numL]
  | j + 1, k, [], h => by simp [numB] at h
  | j + 1, k, x :: r, h => by
    rw [show j + 1 + k = (j + k) + 1 by omega, numL, numL]
    rw [numB] at h
    split
    · rename_i hx
      rw [if_pos hx] at h
      exact numL_add j k r h
    · rename_i hx
      rw [if_neg hx] at h
      cases h
theorem numN_add : ∀ (j k a : Nat) (l : List Nat), numB j l = false → numN (j + k) a l = numN k (numN j a l) (numL j l)
  | 0, k, a, l, _ => by simp [numL, numN]
  | j + 1, k, a, [], h => by simp [numB] at h
  | j + 1, k, a, x :: r, h => by
    rw [show j + 1 + k = (j + k) + 1 by omega, numN, numN, numL]
    rw [numB] at h
    split
    · rename_i hx
      rw [if_pos hx] at h
      exact numN_add j k _ r h
    · rename_i hx
      rw [if_neg hx] at h
      cases h
theorem numN_from : ∀ (k a : Nat) (l : List Nat), numB k l = false → numN k a l = a * 10 ^ k + numN k 0 l
  | 0, a, l, _ => by simp [numN]
  | k + 1, a, [], h => by simp [numB] at h
  | k + 1, a, x :: r, h => by
    rw [numB] at h
    rw [numN, numN]
    split
    · rename_i hx
      rw [if_pos hx] at h
      rw [numN_from k (a * 10 + (x - 48)) r h, numN_from k (0 * 10 + (x - 48)) r h, Nat.pow_succ, Nat.zero_mul, Nat.zero_add, Nat.add_mul, Nat.mul_assoc, Nat.mul_comm 10 (10 ^ k)]
      omega
    · rename_i hx
      rw [if_neg hx] at h
      cases h
theorem numB_head {k : Nat} {l : List Nat} (h : numB (k + 1) l = false) (c : Nat) (hc : c < 48 ∨ 57 < c) : hasF c l = false := by
  cases l with
  | nil => rfl
  | cons x r =>
    rw [numB] at h
    split at h
    · rename_i hx
      simp only [hasF, beq_eq_false_iff_ne]
      omega
    · cases h
/-- four digits and a stroke -/
theorem isD_of {l : List Nat} (h : numB 4 l = false) (h2 : hasF 45 (numL 4 l) = true) : isD l = true := by
  match l with
  | [] => simp [numB] at h
  | [a] => simp [numB] at h
  | [a, b] => simp [numB] at h
  | [a, b, c] => simp [numB] at h
  | a :: b :: c :: d :: r =>
    simp only [numB] at h
    split at h
    · rename_i g1
      split at h
      · rename_i g2
        split at h
        · rename_i g3
          split at h
          · rename_i g4
            simp only [numL, if_pos g1, if_pos g2, if_pos g3, if_pos g4] at h2
            cases r with
            | nil => cases h2
            | cons x r =>
              simp only [hasF, beq_iff_eq] at h2
              subst h2
              simp [isD]
          · cases h
        · cases h
      · cases h
    · cases h
theorem isD_not {l : List Nat} (h : numB 10 l = false) : isD l = false := by
  match l with
  | [] => rfl
  | [a] => rfl
  | [a, b] => rfl
  | [a, b, c] => rfl
  | [a, b, c, d] => rfl
  | a :: b :: c :: d :: x :: r =>
    rw [show 10 = 4 + 6 from rfl, numB_add] at h
    simp only [Bool.or_eq_false_iff] at h
    obtain ⟨h1, h2⟩ := h
    simp only [numB] at h1
    split at h1
    · rename_i g1
      split at h1
      · rename_i g2
        split at h1
        · rename_i g3
          split at h1
          · rename_i g4
            simp only [numL, if_pos g1, if_pos g2, if_pos g3, if_pos g4] at h2
            rw [show 6 = 5 + 1 from rfl, numB] at h2
            split at h2
            · rename_i g5
              have : ¬ x = 45 := by omega
              simp [isD, this]
            · cases h2
          · cases h1
        · cases h1
      · cases h1
    · cases h1
theorem dayB_num {l : List Nat} (h : dayB l = false) : numB 4 l = false ∧ hasF 45 (numL 4 l) = true := by
  unfold dayB at h
  simp only [Bool.or_eq_false_iff, Bool.not_eq_false'] at h
  exact ⟨h.1.1.1.1, h.1.1.1.2⟩
def failR : Ending := .returned (.tuple #[.int .i64 0, .string ByteArray.empty, .bool false])
end Go.Proofs.YthmpokndffbkdabDoor
