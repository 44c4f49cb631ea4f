/-
  What the document's Ahead tells is what the program's tells. No program is named here.
-/
import Derived.Test.YthmpokndffbkdaaGreatDoorFoH
import Derived.Test.YthmpokndffbkdaaGreatDoorNmA
namespace Go.Proofs.YthmpokndffbkdaaGreatDoor
open Go.RowKit
set_option linter.unusedVariables false
theorem isL_T (l : List Nat) : isL [84, 32] (dayL l) = dt2 l ∧ (!isF [84, 32] (dayL l)) = (!hasF 84 (dayL l) && !hasF 32 (dayL l)) := by
  unfold dt2
  cases dayL l with
  | nil => exact ⟨rfl, rfl⟩
  | cons x r =>
    by_cases h1 : x = 84
    · subst h1; exact ⟨by simp [isL, hasF, restF], by simp [isF, hasF]⟩
    · by_cases h2 : x = 32
      · subst h2; exact ⟨by simp [isL, hasF, restF], by simp [isF, hasF]⟩
      · have h3 : ¬ (x = 84 ∨ x = 32) := by omega
        exact ⟨by simp [isL, hasF, restF, h1, h2], by simp [isF, hasF, h1, h2]⟩
def rdB (l : List Nat) : Bool := dayB l || (!hasF 84 (dayL l) && !hasF 32 (dayL l)) || timB (dt2 l) || znB false (dt3 l)
def ok1 (l : List Nat) : Bool := !rdB l && endF (znL false (dt3 l))
def ok2 (l : List Nat) : Bool := !(!hasF 91 l || brB (restF 91 l)) && endF (brL (restF 91 l))
theorem end_zn {m : List Nat} (h : endF m = true) : hasF 90 m = false ∧ hasF 45 m = false ∧ hasF 43 m = false := by
  cases m with
  | nil => exact ⟨rfl, rfl, rfl⟩
  | cons x r =>
    simp only [endF, beq_iff_eq] at h
    subst h
    exact ⟨rfl, rfl, rfl⟩
theorem ok1_dt (l : List Nat) : ok1 l = (!dtB l && endF (dtL l)) ∧ (ok1 l = true → znL false (dt3 l) = dtL l ∧ znS (dt3 l) = dtS l ∧ znH (dt3 l) = dtH l ∧ znM (dt3 l) = dtM l) := by
  unfold ok1 rdB dtB dtL dtS dtH dtM
  cases he : endF (dt3 l)
  · unfold znL znB znS znH znM zonL zonB zonS zonH zonM scB scL scH scM pmB
    cases h90 : hasF 90 (dt3 l)
    · cases h45 : hasF 45 (dt3 l)
      · cases h43 : hasF 43 (dt3 l)
        · simp [he]
        · simp [pmL, pmV, h45, Bool.or_assoc]
      · simp [pmL, pmV, h45, Bool.or_assoc]
    · simp
  · obtain ⟨h1, h2, h3⟩ := end_zn he
    simp [znL, znB, znS, znH, znM, h1, h2, h3, he]
theorem ahead_1 {l : List Nat} (h : ok1 l = true) : aheadR l = if Mo.stOK (day0 l) (day1 l) (day2 l) (sec0 (dt2 l)) (sec1 (dt2 l)) (sec2 (dt2 l)) (timMs (dt2 l)) (dtS l) (dtH l) (dtM l) = true then .returned (.tuple #[.int .i64 (Mo.stN (day0 l) (day1 l) (day2 l) (sec0 (dt2 l)) (sec1 (dt2 l)) (sec2 (dt2 l)) (timMs (dt2 l)) (dtS l) (dtH l) (dtM l)), .string (nums (restF 32 (dtL l))), .bool true]) else failR := by
  have h1 := h
  rw [(ok1_dt l).1] at h1
  simp only [Bool.and_eq_true, Bool.not_eq_true'] at h1
  obtain ⟨hb, he⟩ := h1
  have hday : dayB l = false := by
    unfold dtB at hb
    simp only [Bool.or_eq_false_iff] at hb
    exact hb.1.1.1
  obtain ⟨n1, n2⟩ := dayB_num hday
  have h91 := numB_head n1 91 (by omega)
  have hD := isD_of n1 n2
  unfold aheadR aA aC aB aL
  rw [h91, hD]
  simp only [Bool.false_eq_true, if_false, if_true]
  unfold ahR dtA dtC stA stC
  rw [hb, he]
  split
  · simp
  · simp [failR]
theorem ahead_2 {l : List Nat} (h : ok2 l = true) : aheadR l = if Mo.stOK (numN 4 0 (b4L (restF 91 l))) (mnI (b2L (restF 91 l))) (numN 2 0 (restF 91 l)) (sec0 (b6L (restF 91 l))) (sec1 (b6L (restF 91 l))) (sec2 (b6L (restF 91 l))) 0 (pmV (b8L (restF 91 l))) (numN 2 0 (b9L (restF 91 l))) (numN 2 0 (b10L (restF 91 l))) = true then .returned (.tuple #[.int .i64 (Mo.stN (numN 4 0 (b4L (restF 91 l))) (mnI (b2L (restF 91 l))) (numN 2 0 (restF 91 l)) (sec0 (b6L (restF 91 l))) (sec1 (b6L (restF 91 l))) (sec2 (b6L (restF 91 l))) 0 (pmV (b8L (restF 91 l))) (numN 2 0 (b9L (restF 91 l))) (numN 2 0 (b10L (restF 91 l)))), .string (nums (restF 32 (brL (restF 91 l)))), .bool true]) else failR := by
  unfold ok2 at h
  simp only [Bool.and_eq_true, Bool.not_eq_true', Bool.or_eq_false_iff, Bool.not_eq_false'] at h
  obtain ⟨⟨h91, hb⟩, he⟩ := h
  unfold aheadR aA aC aB aL
  rw [h91]
  simp only [if_true]
  unfold ahR brA brC stA stC
  rw [hb, he]
  split
  · simp
  · simp [failR]
def okP (k : Nat) (l : List Nat) : Bool := !numB k l && endF (numL k l)
def plR (k m : Nat) (l : List Nat) : Ending := if okP k l = true then .returned (.tuple #[.int .i64 ((m : Int) * ((numN k 0 l : Nat) : Int)), .string (nums (restF 32 (numL k l))), .bool true]) else failR
theorem ahead_3 {l : List Nat} (h : okP 10 l = true) : aheadR l = plR 10 1000 l := by
  unfold plR
  rw [if_pos h]
  unfold okP at h
  simp only [Bool.and_eq_true, Bool.not_eq_true'] at h
  obtain ⟨hb, he⟩ := h
  have h91 := numB_head (k := 9) hb 91 (by omega)
  have hD := isD_not hb
  unfold aheadR aA aC aB aL
  rw [h91, hD]
  simp only [Bool.false_eq_true, if_false]
  unfold ahR cnB cnL cnN
  rw [hb]
  simp [he]
  rw [Int.mul_comm]
theorem fail_of {a c : Int} {B : Bool} {L : List Nat} (h : (!B && endF L) = false) : ahR a c B L = failR := by
  unfold ahR
  rw [if_pos]
  · rfl
  · cases B
    · simp at h; simp [h]
    · simp
theorem numB_more {j : Nat} (k : Nat) {l : List Nat} (h : numB j l = true) : numB (j + k) l = true := by
  rw [numB_add, h]; rfl
theorem has_numB {c k : Nat} {l : List Nat} (h : hasF c l = true) (hc : c < 48 ∨ 57 < c) : numB (k + 1) l = true := by
  cases e : numB (k + 1) l
  · rw [numB_head e c hc] at h; cases h
  · rfl
theorem ahead_4 {l : List Nat} (h1 : ok1 l = false) (h2 : ok2 l = false) (h3 : okP 10 l = false) : aheadR l = plR 13 1 l := by
  unfold aheadR aA aC aB aL
  cases h91 : hasF 91 l
  · simp only [Bool.false_eq_true, if_false]
    cases hD : isD l
    · simp only [Bool.false_eq_true, if_false]
      unfold plR okP
      unfold okP at h3
      rw [show 13 = 10 + 3 from rfl, numB_add]
      cases hb : numB 10 l
      · rw [hb] at h3
        simp only [Bool.not_false, Bool.true_and] at h3
        rw [numL_add 10 3 l hb, numN_add 10 3 0 l hb]
        unfold ahR cnB cnL cnN
        rw [hb, h3]
        cases hb3 : numB 3 (numL 10 l)
        · rw [numN_from 3 (numN 10 0 l) (numL 10 l) hb3]
          cases he : endF (numL 3 (numL 10 l))
          · simp [he, failR]
          · simp [he]
        · simp [failR]
      · rw [fail_of (by unfold cnB; rw [hb]; rfl)]
        simp
    · simp only [if_true]
      have hf : ahR (dtA l) (dtC l) (dtB l) (dtL l) = failR := fail_of (by rw [← (ok1_dt l).1]; exact h1)
      rw [hf]
      unfold plR okP
      have hn : numB 13 l = true := by
        cases e : numB 13 l
        · have : numB 10 l = false := by
            cases e2 : numB 10 l
            · rfl
            · rw [show 13 = 10 + 3 from rfl, numB_more 3 e2] at e; cases e
          rw [isD_not this] at hD; cases hD
        · rfl
      rw [hn]; rfl
  · simp only [if_true]
    have hf : ahR (brA (restF 91 l)) (brC (restF 91 l)) (brB (restF 91 l)) (brL (restF 91 l)) = failR := fail_of (by
      unfold ok2 at h2
      rw [h91] at h2
      simpa using h2)
    rw [hf]
    unfold plR okP
    rw [has_numB (k := 12) h91 (by omega)]; rfl
end Go.Proofs.YthmpokndffbkdaaGreatDoor
