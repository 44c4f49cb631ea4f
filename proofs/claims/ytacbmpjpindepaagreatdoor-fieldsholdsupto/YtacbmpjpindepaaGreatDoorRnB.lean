/-
  What the document's Number tells is what fields.Number tells. No program is named here.
-/
import Derived.Test.YtacbmpjpindepaaGreatDoorShwA
namespace Go.Proofs.YtacbmpjpindepaaGreatDoor
open Go.RowKit
set_option linter.unusedVariables false
set_option linter.unusedSimpArgs false
/-- the document's answer, behind the stroke -/
def rfA (b : Bool) (A : List Nat) : Int × Bool :=
  if 1 ≤ rwS digB A ∧ rwS digB A ≤ 9 then
    if A.length = rwS digB A then (sgI b (dcN (A ++ [48, 48, 48]) 0), true)
    else if A.getD (rwS digB A) 0 = 46 ∧ 1 ≤ rwS digB (A.drop (rwS digB A + 1)) ∧ rwS digB (A.drop (rwS digB A + 1)) ≤ 3 ∧ rwS digB A + 1 + rwS digB (A.drop (rwS digB A + 1)) = A.length then (sgI b (dcN (A.take (rwS digB A) ++ (A.drop (rwS digB A + 1) ++ [48, 48, 48]).take 3) 0), true)
    else (0, false)
  else (0, false)
theorem rw_take (p : Nat → Bool) : ∀ l : List Nat, ∀ z ∈ l.take (rwS p l), p z = true
  | [], z, h => by simp at h
  | x :: l, z, h => by
    rw [rwS] at h
    by_cases hx : p x = true
    · rw [if_pos hx, List.take_succ_cons] at h
      rcases List.mem_cons.1 h with e | e
      · rw [e]; exact hx
      · exact rw_take p l z e
    · rw [if_neg hx] at h
      simp at h
theorem rw_next (p : Nat → Bool) : ∀ (l : List Nat), rwS p l < l.length → p (l.getD (rwS p l) 0) = false
  | [], h => by simp at h
  | x :: l, h => by
    rw [rwS] at h ⊢
    by_cases hx : p x = true
    · rw [if_pos hx] at h ⊢
      have := rw_next p l (by simpa using h)
      simpa using this
    · rw [if_neg hx]
      simpa using hx
theorem dgs_is (m : Nat) (l : List Nat) : dgsF m l = true ↔ 0 < l.length ∧ l.length ≤ m ∧ rwS digB l = l.length := by
  unfold dgsF
  simp
theorem getD_split (l : List Nat) (i : Nat) (h : i < l.length) : l = l.take i ++ l.getD i 0 :: l.drop (i + 1) := by
  rw [List.getD_eq_getElem?_getD, List.getElem?_eq_getElem h]
  simp
theorem rf_is (b : Bool) (A : List Nat) : rfA b A = nbA b A (ixF 46 A) := by
  have hle := rwS_le digB A
  have htk := rw_take digB A
  have hnx := rw_next digB A
  unfold rfA
  obtain ⟨w, hw⟩ : ∃ w, rwS digB A = w := ⟨_, rfl⟩
  rw [hw] at hle htk hnx ⊢
  by_cases hlen : A.length = w
  · have hall : ∀ z ∈ A, digB z = true := by
      have h := htk
      rw [← hlen, List.take_length] at h
      exact h
    rw [ix_none 46 A (no_dot A hall), nbA]
    by_cases h9 : 1 ≤ w ∧ w ≤ 9
    · rw [if_pos h9, if_pos hlen, if_pos ((dgs_is 9 A).2 ⟨by omega, by omega, by omega⟩)]
    · rw [if_neg h9, if_neg (fun e => h9 (by have := (dgs_is 9 A).1 e; omega))]
  · have hlt : w < A.length := by omega
    have hnd := hnx hlt
    have hsp := getD_split A w hlt
    obtain ⟨c, hc⟩ : ∃ c, A.getD w 0 = c := ⟨_, rfl⟩
    rw [hc] at hnd hsp ⊢
    have htl : (A.take w).length = w := by rw [List.length_take]; omega
    by_cases h46 : c = 46
    · subst h46
      have hix : ixF 46 A = some w := by
        have h := ix_some 46 (A.drop (w + 1)) (A.take w) (no_dot _ htk)
        rw [← hsp, htl] at h
        exact h
      rw [hix, nbA, if_neg hlen]
      have hwd : rwS digB (A.take w) = w := by
        have h := (dgs_is w (A.take w))
        by_cases h0 : w = 0
        · subst h0; simp [rwS]
        · have := (h.1 (dgs_of (by omega) (by omega) htk)).2.2
          rw [htl] at this
          exact this
      by_cases h9 : 1 ≤ w ∧ w ≤ 9
      · rw [if_pos h9, if_pos ((dgs_is 9 (A.take w)).2 ⟨by omega, by omega, by omega⟩)]
        have hdl : (A.drop (w + 1)).length = A.length - (w + 1) := List.length_drop
        by_cases h3 : dgsF 3 (A.drop (w + 1)) = true
        · have := (dgs_is 3 _).1 h3
          rw [if_pos h3, if_pos ⟨rfl, by omega, by omega, by omega⟩]
        · rw [if_neg h3, if_neg (fun e => h3 ((dgs_is 3 _).2 ⟨by omega, by omega, by omega⟩))]
      · rw [if_neg h9, if_neg (fun e => h9 (by have := (dgs_is 9 _).1 e; omega))]
    · have hmem : c ∈ A := by rw [hsp]; simp
      have hno : ∀ (m : Nat) (l : List Nat), c ∈ l → ¬ dgsF m l = true := fun m l hl e => by
        have := (dgs_ok e).2.2 c hl
        rw [hnd] at this
        cases this
      have hr : (if 1 ≤ w ∧ w ≤ 9 then if A.length = w then (sgI b (dcN (A ++ [48, 48, 48]) 0), true) else if c = 46 ∧ 1 ≤ rwS digB (A.drop (w + 1)) ∧ rwS digB (A.drop (w + 1)) ≤ 3 ∧ w + 1 + rwS digB (A.drop (w + 1)) = A.length then (sgI b (dcN (A.take w ++ (A.drop (w + 1) ++ [48, 48, 48]).take 3) 0), true) else ((0 : Int), false) else ((0 : Int), false)) = ((0 : Int), false) := by
        by_cases h9 : 1 ≤ w ∧ w ≤ 9
        · rw [if_pos h9, if_neg hlen, if_neg (fun e => h46 e.1)]
        · rw [if_neg h9]
      rw [hr]
      cases hi : ixF 46 A with
      | none => rw [nbA, if_neg (hno 9 A hmem)]
      | some i =>
        rw [nbA]
        have hsi := ix_split 46 A i hi
        have hil := ixF_lt 46 A i hi
        have hiw : w < i := by
          rcases Nat.lt_trichotomy w i with h | h | h
          · exact h
          · subst h
            have e : A.getD w 0 = 46 := by
              have h3 : A[w]? = some 46 := by
                have h2 := congrArg (·[w]?) hsi
                rw [List.getElem?_append_right (by rw [htl]; exact Nat.le_refl _), htl] at h2
                simpa using h2
              rw [List.getD_eq_getElem?_getD, h3]
              rfl
            exact absurd (hc.symm.trans e) h46
          · have hm : (46 : Nat) ∈ A.take w := by
              have h2 : A[i]? = some 46 := by
                have h2 := congrArg (·[i]?) hsi
                have hti : (A.take i).length = i := by rw [List.length_take]; omega
                rw [List.getElem?_append_right (by rw [hti]; exact Nat.le_refl _), hti] at h2
                simpa using h2
              exact List.mem_of_getElem? (i := i) (by rw [List.getElem?_take, if_pos h]; exact h2)
            exact absurd (htk 46 hm) (by decide)
        have hct : c ∈ A.take i := by
          refine List.mem_of_getElem? (i := w) ?_
          rw [List.getElem?_take, if_pos hiw, ← hc, List.getD_eq_getElem?_getD, List.getElem?_eq_getElem hlt]
          rfl
        rw [if_neg (hno 9 _ hct)]
end Go.Proofs.YtacbmpjpindepaaGreatDoor
