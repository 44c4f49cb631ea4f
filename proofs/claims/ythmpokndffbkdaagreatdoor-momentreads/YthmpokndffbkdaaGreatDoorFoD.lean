/-
  The document's form: shift, zone. Conditions: the form lies in a block of its own.
-/
import Derived.Test.YthmpokndffbkdaaGreatDoorFoC
namespace Go.Proofs.YthmpokndffbkdaaGreatDoor
open Go.RowKit
set_option linter.unusedVariables false
def oddB (h m : Nat) : Bool := decide (23 < h) || decide (59 < m)
def sgn (less : Bool) : Int := if less = true then -1 else 1
def scL (l : List Nat) : List Nat := numL 2 (restF 58 (numL 2 l))
def scB (l : List Nat) : Bool := numB 2 l || !hasF 58 (numL 2 l) || numB 2 (restF 58 (numL 2 l))
def scH (l : List Nat) : Nat := numN 2 0 l
def scM (l : List Nat) : Nat := numN 2 0 (restF 58 (numL 2 l))
def snL (l : List Nat) : List Nat := numL 2 (numL 2 l)
def snB (l : List Nat) : Bool := numB 2 l || numB 2 (numL 2 l)
def snM (l : List Nat) : Nat := numN 2 0 (numL 2 l)
set_option maxRecDepth 100000 in
set_option maxHeartbeats 4000000 in
theorem fshift_c (g : Nat) (S : ByteArray) (b : Bool) (l : List Nat) (D : List Int) (z : Int) (o less : Bool) (w : World) (h : Fm g S b l D z o w) (hS : S.size ≤ 4611686018427387904) :
    Calls Tryz.prog 51 #[.pointer (some ⟨g, 0, none⟩), .bool less, .bool true] w fun e w' => e = .returned (.tuple #[]) ∧ Fm g S (b || scB l) (scL l) D (sgn less * (60 * ((scH l : Nat) : Int) + ((scM l : Nat) : Int))) (oddB (scH l) (scM l)) w' ∧ Only g w w' := by
  have HX := Hid.mk' h
  have HS := Hid.mk' hS
  have HO := Hid.mk' (Only.refl g w)
  unfold scL scB scH scM
  clear h hS
  go_enter Tryz.func51, Tryz.ntmps51
  go_wp2_with fail
  refine (fnumber_any g 2 S _ _ _ _ _ _ HX.out HS.out (by decide) (by decide)).mono ?_
  rintro e a0 ⟨⟨v0, rfl, hvb0, hv⟩, ht, ho⟩
  have X0 := Hid.mk' ht
  have O0 := Hid.mk' (HO.out.trans ho)
  have V0 := Hid.mk' hv
  have vb0 : v0 < 100 := by simpa using hvb0
  clear ht ho hv hvb0 HX HO
  go_wp2_with fail
  refine (fmust1 g 58 _ S _ _ _ _ _ _ X0.out HS.out (by decide) (by decide)).mono ?_
  rintro e a1 ⟨rfl, ht, ho⟩
  have X1 := Hid.mk' ht
  have O1 := Hid.mk' (O0.out.trans ho)
  clear ht ho X0 O0
  go_wp2_with fail
  refine (fnumber_any g 2 S _ _ _ _ _ _ X1.out HS.out (by decide) (by decide)).mono ?_
  rintro e a2 ⟨⟨v1, rfl, hvb1, hv⟩, ht, ho⟩
  have X2 := Hid.mk' ht
  have O2 := Hid.mk' (O1.out.trans ho)
  have V1 := Hid.mk' hv
  have vb1 : v1 < 100 := by simpa using hvb1
  obtain ⟨u0, cu0, fu0⟩ := X2.out.cell 10 (by decide)
  obtain ⟨u1, cu1, fu1⟩ := X2.out.cell 11 (by decide)
  clear ht ho hv hvb1 X1 O1
  have HV : Hid ((b || numB 2 l || !hasF 58 (numL 2 l) || numB 2 (restF 58 (numL 2 l))) = false → v0 = numN 2 0 l ∧ v1 = numN 2 0 (restF 58 (numL 2 l))) := fun e => ⟨V0.out (by simp only [Bool.or_eq_false_iff] at e ⊢; exact e.1.1), V1.out e⟩
  clear V0 V1
  obtain ⟨zz, hzz⟩ : ∃ zz : Int, 60 * (v0 : Int) + (v1 : Int) = zz := ⟨_, rfl⟩
  have HZZ := Hid.mk' hzz
  have zb : 0 ≤ zz ∧ zz ≤ 10000 := by omega
  obtain ⟨oo, hoo⟩ : ∃ oo, oddB v0 v1 = oo := ⟨_, rfl⟩
  have HOO := Hid.mk' hoo
  have x3 := X2.out.setZ zz _ (fun _ => rfl)
  have x4 := x3.1.setO oo _ (fun _ => rfl)
  have x5 := x4.1.setZ (-zz) _ (fun _ => rfl)
  have Q4 := Hid.mk' x4.1
  have Q5 := Hid.mk' x5.1
  have P4 := Hid.mk' ((O2.out.trans x3.2).trans x4.2)
  have P5 := Hid.mk' (((O2.out.trans x3.2).trans x4.2).trans x5.2)
  clear x3 x4 x5
  have fin4 : ∀ W, Fm g S (b || numB 2 l || !hasF 58 (numL 2 l) || numB 2 (restF 58 (numL 2 l))) (numL 2 (restF 58 (numL 2 l))) D zz oo W → less = false → Fm g S (b || (scB l)) (numL 2 (restF 58 (numL 2 l))) D (sgn less * (60 * ((numN 2 0 l : Nat) : Int) + ((numN 2 0 (restF 58 (numL 2 l)) : Nat) : Int))) (oddB (numN 2 0 l) (numN 2 0 (restF 58 (numL 2 l)))) W := by
    intro W hW hl
    unfold scB
    subst hl
    rw [← HZZ.out, ← HOO.out] at hW
    cases hb : (b || numB 2 l || !hasF 58 (numL 2 l) || numB 2 (restF 58 (numL 2 l)))
    · obtain ⟨e0, e1⟩ := HV.out hb
      rw [hb, e0, e1] at hW
      rw [← Bool.or_assoc, ← Bool.or_assoc, hb]
      simpa [sgn] using hW
    · rw [← Bool.or_assoc, ← Bool.or_assoc, hb]
      exact hW.at_bad hb rfl
  have fin5 : ∀ W, Fm g S (b || numB 2 l || !hasF 58 (numL 2 l) || numB 2 (restF 58 (numL 2 l))) (numL 2 (restF 58 (numL 2 l))) D (-zz) oo W → less = true → Fm g S (b || (scB l)) (numL 2 (restF 58 (numL 2 l))) D (sgn less * (60 * ((numN 2 0 l : Nat) : Int) + ((numN 2 0 (restF 58 (numL 2 l)) : Nat) : Int))) (oddB (numN 2 0 l) (numN 2 0 (restF 58 (numL 2 l)))) W := by
    intro W hW hl
    unfold scB
    subst hl
    rw [← HZZ.out, ← HOO.out] at hW
    cases hb : (b || numB 2 l || !hasF 58 (numL 2 l) || numB 2 (restF 58 (numL 2 l)))
    · obtain ⟨e0, e1⟩ := HV.out hb
      rw [hb, e0, e1] at hW
      rw [← Bool.or_assoc, ← Bool.or_assoc, hb]
      simpa [sgn] using hW
    · rw [← Bool.or_assoc, ← Bool.or_assoc, hb]
      exact hW.at_bad hb rfl
  unfold scB at fin4 fin5
  have F4 := Hid.mk' fin4
  have F5 := Hid.mk' fin5
  have hzw : (60 : Int) * (v0 : Int) + (v1 : Int) = zz := hzz
  clear hzz fin4 fin5 X2 O2
  rcases (show (23 < v0 ∧ oo = true) ∨ (¬ 23 < v0 ∧ 59 < v1 ∧ oo = true) ∨ (¬ 23 < v0 ∧ ¬ 59 < v1 ∧ oo = false) by unfold oddB at hoo; by_cases c1 : 23 < v0 <;> by_cases c2 : 59 < v1 <;> simp_all) with ⟨t1, t3⟩ | ⟨t1, t2, t3⟩ | ⟨t1, t2, t3⟩
  · subst t3
    have d1 : decide ((23 : Int) < (v0 : Int)) = true := by simp; omega
    have d2 : (23 : Int) < (v0 : Int) := by omega
    clear t1 hoo
    cases less
    all_goals
      go_wp2_with fail
      go_end0
      first
        | exact ⟨rfl, F4.out _ Q4.out (by first | rfl | trivial), P4.out⟩
        | exact ⟨rfl, F5.out _ Q5.out (by first | rfl | trivial), P5.out⟩
  · subst t3
    have d1 : decide ((23 : Int) < (v0 : Int)) = false := by simp; omega
    have d2 : ¬ (23 : Int) < (v0 : Int) := by omega
    have d3 : decide ((59 : Int) < (v1 : Int)) = true := by simp; omega
    have d4 : (59 : Int) < (v1 : Int) := by omega
    clear t1 t2 hoo
    cases less
    all_goals
      go_wp2_with fail
      go_end0
      first
        | exact ⟨rfl, F4.out _ Q4.out (by first | rfl | trivial), P4.out⟩
        | exact ⟨rfl, F5.out _ Q5.out (by first | rfl | trivial), P5.out⟩
  · subst t3
    have d1 : decide ((23 : Int) < (v0 : Int)) = false := by simp; omega
    have d2 : ¬ (23 : Int) < (v0 : Int) := by omega
    have d3 : decide ((59 : Int) < (v1 : Int)) = false := by simp; omega
    have d4 : ¬ (59 : Int) < (v1 : Int) := by omega
    clear t1 t2 hoo
    cases less
    all_goals
      go_wp2_with fail
      go_end0
      first
        | exact ⟨rfl, F4.out _ Q4.out (by first | rfl | trivial), P4.out⟩
        | exact ⟨rfl, F5.out _ Q5.out (by first | rfl | trivial), P5.out⟩
set_option maxRecDepth 100000 in
set_option maxHeartbeats 4000000 in
theorem fshift_n (g : Nat) (S : ByteArray) (b : Bool) (l : List Nat) (D : List Int) (z : Int) (o less : Bool) (w : World) (h : Fm g S b l D z o w) (hS : S.size ≤ 4611686018427387904) :
    Calls Tryz.prog 51 #[.pointer (some ⟨g, 0, none⟩), .bool less, .bool false] w fun e w' => e = .returned (.tuple #[]) ∧ Fm g S (b || snB l) (snL l) D (sgn less * (60 * ((scH l : Nat) : Int) + ((snM l : Nat) : Int))) (oddB (scH l) (snM l)) w' ∧ Only g w w' := by
  have HX := Hid.mk' h
  have HS := Hid.mk' hS
  have HO := Hid.mk' (Only.refl g w)
  unfold snL snB scH snM
  clear h hS
  go_enter Tryz.func51, Tryz.ntmps51
  go_wp2_with fail
  refine (fnumber_any g 2 S _ _ _ _ _ _ HX.out HS.out (by decide) (by decide)).mono ?_
  rintro e a0 ⟨⟨v0, rfl, hvb0, hv⟩, ht, ho⟩
  have X0 := Hid.mk' ht
  have O0 := Hid.mk' (HO.out.trans ho)
  have V0 := Hid.mk' hv
  have vb0 : v0 < 100 := by simpa using hvb0
  clear ht ho hv hvb0 HX HO
  go_wp2_with fail
  refine (fnumber_any g 2 S _ _ _ _ _ _ X0.out HS.out (by decide) (by decide)).mono ?_
  rintro e a2 ⟨⟨v1, rfl, hvb1, hv⟩, ht, ho⟩
  have X2 := Hid.mk' ht
  have O2 := Hid.mk' (O0.out.trans ho)
  have V1 := Hid.mk' hv
  have vb1 : v1 < 100 := by simpa using hvb1
  obtain ⟨u0, cu0, fu0⟩ := X2.out.cell 10 (by decide)
  obtain ⟨u1, cu1, fu1⟩ := X2.out.cell 11 (by decide)
  clear ht ho hv hvb1 X0 O0
  have HV : Hid ((b || numB 2 l || numB 2 (numL 2 l)) = false → v0 = numN 2 0 l ∧ v1 = numN 2 0 (numL 2 l)) := fun e => ⟨V0.out (by simp only [Bool.or_eq_false_iff] at e ⊢; exact e.1), V1.out e⟩
  clear V0 V1
  obtain ⟨zz, hzz⟩ : ∃ zz : Int, 60 * (v0 : Int) + (v1 : Int) = zz := ⟨_, rfl⟩
  have HZZ := Hid.mk' hzz
  have zb : 0 ≤ zz ∧ zz ≤ 10000 := by omega
  obtain ⟨oo, hoo⟩ : ∃ oo, oddB v0 v1 = oo := ⟨_, rfl⟩
  have HOO := Hid.mk' hoo
  have x3 := X2.out.setZ zz _ (fun _ => rfl)
  have x4 := x3.1.setO oo _ (fun _ => rfl)
  have x5 := x4.1.setZ (-zz) _ (fun _ => rfl)
  have Q4 := Hid.mk' x4.1
  have Q5 := Hid.mk' x5.1
  have P4 := Hid.mk' ((O2.out.trans x3.2).trans x4.2)
  have P5 := Hid.mk' (((O2.out.trans x3.2).trans x4.2).trans x5.2)
  clear x3 x4 x5
  have fin4 : ∀ W, Fm g S (b || numB 2 l || numB 2 (numL 2 l)) (numL 2 (numL 2 l)) D zz oo W → less = false → Fm g S (b || (snB l)) (numL 2 (numL 2 l)) D (sgn less * (60 * ((numN 2 0 l : Nat) : Int) + ((numN 2 0 (numL 2 l) : Nat) : Int))) (oddB (numN 2 0 l) (numN 2 0 (numL 2 l))) W := by
    intro W hW hl
    unfold snB
    subst hl
    rw [← HZZ.out, ← HOO.out] at hW
    cases hb : (b || numB 2 l || numB 2 (numL 2 l))
    · obtain ⟨e0, e1⟩ := HV.out hb
      rw [hb, e0, e1] at hW
      rw [← Bool.or_assoc, hb]
      simpa [sgn] using hW
    · rw [← Bool.or_assoc, hb]
      exact hW.at_bad hb rfl
  have fin5 : ∀ W, Fm g S (b || numB 2 l || numB 2 (numL 2 l)) (numL 2 (numL 2 l)) D (-zz) oo W → less = true → Fm g S (b || (snB l)) (numL 2 (numL 2 l)) D (sgn less * (60 * ((numN 2 0 l : Nat) : Int) + ((numN 2 0 (numL 2 l) : Nat) : Int))) (oddB (numN 2 0 l) (numN 2 0 (numL 2 l))) W := by
    intro W hW hl
    unfold snB
    subst hl
    rw [← HZZ.out, ← HOO.out] at hW
    cases hb : (b || numB 2 l || numB 2 (numL 2 l))
    · obtain ⟨e0, e1⟩ := HV.out hb
      rw [hb, e0, e1] at hW
      rw [← Bool.or_assoc, hb]
      simpa [sgn] using hW
    · rw [← Bool.or_assoc, hb]
      exact hW.at_bad hb rfl
  unfold snB at fin4 fin5
  have F4 := Hid.mk' fin4
  have F5 := Hid.mk' fin5
  have hzw : (60 : Int) * (v0 : Int) + (v1 : Int) = zz := hzz
  clear hzz fin4 fin5 X2 O2
  rcases (show (23 < v0 ∧ oo = true) ∨ (¬ 23 < v0 ∧ 59 < v1 ∧ oo = true) ∨ (¬ 23 < v0 ∧ ¬ 59 < v1 ∧ oo = false) by unfold oddB at hoo; by_cases c1 : 23 < v0 <;> by_cases c2 : 59 < v1 <;> simp_all) with ⟨t1, t3⟩ | ⟨t1, t2, t3⟩ | ⟨t1, t2, t3⟩
  · subst t3
    have d1 : decide ((23 : Int) < (v0 : Int)) = true := by simp; omega
    have d2 : (23 : Int) < (v0 : Int) := by omega
    clear t1 hoo
    cases less
    all_goals
      go_wp2_with fail
      go_end0
      first
        | exact ⟨rfl, F4.out _ Q4.out (by first | rfl | trivial), P4.out⟩
        | exact ⟨rfl, F5.out _ Q5.out (by first | rfl | trivial), P5.out⟩
  · subst t3
    have d1 : decide ((23 : Int) < (v0 : Int)) = false := by simp; omega
    have d2 : ¬ (23 : Int) < (v0 : Int) := by omega
    have d3 : decide ((59 : Int) < (v1 : Int)) = true := by simp; omega
    have d4 : (59 : Int) < (v1 : Int) := by omega
    clear t1 t2 hoo
    cases less
    all_goals
      go_wp2_with fail
      go_end0
      first
        | exact ⟨rfl, F4.out _ Q4.out (by first | rfl | trivial), P4.out⟩
        | exact ⟨rfl, F5.out _ Q5.out (by first | rfl | trivial), P5.out⟩
  · subst t3
    have d1 : decide ((23 : Int) < (v0 : Int)) = false := by simp; omega
    have d2 : ¬ (23 : Int) < (v0 : Int) := by omega
    have d3 : decide ((59 : Int) < (v1 : Int)) = false := by simp; omega
    have d4 : ¬ (59 : Int) < (v1 : Int) := by omega
    clear t1 t2 hoo
    cases less
    all_goals
      go_wp2_with fail
      go_end0
      first
        | exact ⟨rfl, F4.out _ Q4.out (by first | rfl | trivial), P4.out⟩
        | exact ⟨rfl, F5.out _ Q5.out (by first | rfl | trivial), P5.out⟩
end Go.Proofs.YthmpokndffbkdaaGreatDoor
