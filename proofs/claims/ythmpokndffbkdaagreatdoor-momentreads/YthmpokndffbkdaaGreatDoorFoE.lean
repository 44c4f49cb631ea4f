/-
  The document's form: zone. Conditions: the form lies in a block of its own; no zone was read before.
-/
import Derived.Test.YthmpokndffbkdaaGreatDoorFoD
namespace Go.Proofs.YthmpokndffbkdaaGreatDoor
open Go.RowKit
set_option linter.unusedVariables false
def znL (need : Bool) (l : List Nat) : List Nat := if hasF 90 l = true then restF 90 l else if hasF 45 l = true ∨ hasF 43 l = true then scL (pmL l) else l
def znB (need : Bool) (l : List Nat) : Bool := if hasF 90 l = true then false else if hasF 45 l = true ∨ hasF 43 l = true then scB (pmL l) else need
def znS (l : List Nat) : Int := if hasF 90 l = true then 0 else if hasF 45 l = true ∨ hasF 43 l = true then pmV l else 0
def znH (l : List Nat) : Nat := if hasF 90 l = true then 0 else if hasF 45 l = true ∨ hasF 43 l = true then scH (pmL l) else 0
def znM (l : List Nat) : Nat := if hasF 90 l = true then 0 else if hasF 45 l = true ∨ hasF 43 l = true then scM (pmL l) else 0
theorem fzone_badB (g : Nat) (S : ByteArray) (l : List Nat) (D : List Int) (z : Int) (o need : Bool) (w : World) (h : Fm g S true l D z o w) (hS : S.size ≤ 4611686018427387904) :
    Calls Tryz.prog 22 #[.pointer (some ⟨g, 0, none⟩), .bool need] w fun e w' => e = .returned (.tuple #[]) ∧ Fm g S true l D z o w' ∧ Only g w w' := by
  have HX := Hid.mk' h
  have HS := Hid.mk' hS
  clear h hS
  cases need
  all_goals
    go_enter Tryz.func22, Tryz.ntmps22
    go_wp2_with fail
    refine (fis1 g 90 _ S _ _ _ _ _ _ HX.out HS.out (by decide) (by decide)).mono ?_
    rintro e a0 ⟨rfl, ht, ho⟩
    have X0 := Hid.mk' ht
    have O0 := Hid.mk' ho
    clear ht ho HX
    simp only [Bool.not_true, Bool.false_and]
    go_wp2_with fail
    refine (fis1 g 45 _ S _ _ _ _ _ _ X0.out HS.out (by decide) (by decide)).mono ?_
    rintro e a1 ⟨rfl, ht, ho⟩
    have X1 := Hid.mk' ht
    have O1 := Hid.mk' (O0.out.trans ho)
    clear ht ho X0 O0
    simp only [Bool.not_true, Bool.false_and]
    go_wp2_with fail
    refine (fis1 g 43 _ S _ _ _ _ _ _ X1.out HS.out (by decide) (by decide)).mono ?_
    rintro e a2 ⟨rfl, ht, ho⟩
    have X2 := Hid.mk' ht
    have O2 := Hid.mk' (O1.out.trans ho)
    clear ht ho X1 O1
    simp only [Bool.not_true, Bool.false_and]
    obtain ⟨p, d0, d1, d2, d3, d4, d5, d6, z', o', hp, hg, hb⟩ := X2.out.ex
    obtain ⟨c0, c1, c2, f1, f2⟩ := FmAt.of hg
    have HG := Hid.mk' hg
    have HP := Hid.mk' hp
    clear hg hb hp
    go_wp2_with fail
    go_end0
    first
      | exact ⟨rfl, X2.out.bad, O2.out⟩
      | (have hq := only_set (o := 2) a2 (.bool true) HG.out
         exact ⟨rfl, ⟨p, d0, d1, d2, d3, d4, d5, d6, z', o', HP.out, by simpa [fmC] using hq.2, fun e => by cases e⟩, O2.out.trans hq.1⟩)
set_option maxHeartbeats 4000000 in
theorem fzone_good (g : Nat) (S : ByteArray) (l : List Nat) (D : List Int) (need : Bool) (w : World) (h : Fm g S false l D 0 false w) (hS : S.size ≤ 4611686018427387904) :
    Calls Tryz.prog 22 #[.pointer (some ⟨g, 0, none⟩), .bool need] w fun e w' => e = .returned (.tuple #[]) ∧ Fm g S (znB need l) (znL need l) D (znS l * (60 * ((znH l : Nat) : Int) + ((znM l : Nat) : Int))) (oddB (znH l) (znM l)) w' ∧ Only g w w' := by
  have HX := Hid.mk' h
  have HS := Hid.mk' hS
  unfold znB znL znS znH znM
  clear h hS
  cases hZ : hasF 90 l
  · have hr := restF_not hZ
    simp only [Bool.false_eq_true, if_false]
    have HZ := Hid.mk' (And.intro hZ hr)
    clear hZ hr
    cases hM : hasF 45 l
    · have hr := restF_not hM
      have HM := Hid.mk' (And.intro hM hr)
      cases hP : hasF 43 l
      · have hr2 := restF_not hP
        simp only [Bool.false_eq_true, or_self, if_false]
        have HPP := Hid.mk' (And.intro hP hr2)
        clear hM hP hr hr2
        cases need
        all_goals
          go_enter Tryz.func22, Tryz.ntmps22
          go_wp2_with fail
          refine (fis1 g 90 _ S _ _ _ _ _ _ HX.out HS.out (by decide) (by decide)).mono ?_
          rintro e a0 ⟨rfl, ht, ho⟩
          rw [HZ.out.2] at ht
          have X0 := Hid.mk' ht
          have O0 := Hid.mk' ho
          clear ht ho HX
          rw [HZ.out.1]
          simp only [Bool.and_false]
          go_wp2_with fail
          refine (fis1 g 45 _ S _ _ _ _ _ _ X0.out HS.out (by decide) (by decide)).mono ?_
          rintro e a1 ⟨rfl, ht, ho⟩
          rw [HM.out.2] at ht
          have X1 := Hid.mk' ht
          have O1 := Hid.mk' (O0.out.trans ho)
          clear ht ho X0 O0
          rw [HM.out.1]
          simp only [Bool.and_false]
          go_wp2_with fail
          refine (fis1 g 43 _ S _ _ _ _ _ _ X1.out HS.out (by decide) (by decide)).mono ?_
          rintro e a2 ⟨rfl, ht, ho⟩
          rw [HPP.out.2] at ht
          have X2 := Hid.mk' ht
          have O2 := Hid.mk' (O1.out.trans ho)
          clear ht ho X1 O1
          rw [HPP.out.1]
          simp only [Bool.and_false]
          obtain ⟨p, d0, d1, d2, d3, d4, d5, d6, z', o', hp, hg, hb⟩ := X2.out.ex
          obtain ⟨c0, c1, c2, f1, f2⟩ := FmAt.of hg
          have HG := Hid.mk' hg
          have HP := Hid.mk' hp
          clear hg hb hp
          go_wp2_with fail
          go_end0
          first
            | exact ⟨rfl, X2.out, O2.out⟩
            | (have hq := only_set (o := 2) a2 (.bool true) HG.out
               exact ⟨rfl, ⟨p, d0, d1, d2, d3, d4, d5, d6, z', o', HP.out, by simpa [fmC] using hq.2, fun e => by cases e⟩, O2.out.trans hq.1⟩)
      · simp only [or_true, if_true]
        have hpm : pmL l = restF 43 l ∧ pmV l = sgn false := by unfold pmL pmV sgn; rw [hM]; exact ⟨rfl, rfl⟩
        rw [hpm.1, hpm.2]
        have HPP := Hid.mk' hP
        clear hM hP hr hpm
        go_enter Tryz.func22, Tryz.ntmps22
        go_wp2_with fail
        refine (fis1 g 90 _ S _ _ _ _ _ _ HX.out HS.out (by decide) (by decide)).mono ?_
        rintro e a0 ⟨rfl, ht, ho⟩
        rw [HZ.out.2] at ht
        have X0 := Hid.mk' ht
        have O0 := Hid.mk' ho
        clear ht ho HX
        rw [HZ.out.1]
        simp only [Bool.and_false]
        go_wp2_with fail
        refine (fis1 g 45 _ S _ _ _ _ _ _ X0.out HS.out (by decide) (by decide)).mono ?_
        rintro e a1 ⟨rfl, ht, ho⟩
        rw [HM.out.2] at ht
        have X1 := Hid.mk' ht
        have O1 := Hid.mk' (O0.out.trans ho)
        clear ht ho X0 O0
        rw [HM.out.1]
        simp only [Bool.and_false]
        go_wp2_with fail
        refine (fis1 g 43 _ S _ _ _ _ _ _ X1.out HS.out (by decide) (by decide)).mono ?_
        rintro e a2 ⟨rfl, ht, ho⟩
        have X2 := Hid.mk' ht
        have O2 := Hid.mk' (O1.out.trans ho)
        clear ht ho X1 O1
        rw [HPP.out]
        simp only [Bool.not_false, Bool.and_true]
        go_wp2_with fail
        refine (fshift_c g S _ _ _ _ _ false _ X2.out HS.out).mono ?_
        rintro e a3 ⟨rfl, ht, ho⟩
        have X3 := Hid.mk' ht
        have O3 := Hid.mk' (O2.out.trans ho)
        clear ht ho X2 O2
        go_wp2_with fail
        first
          | go_end0
          | refine bodyPost_ret (results_none rfl _ _ _) rfl ?_
        exact ⟨rfl, by simpa using X3.out, O3.out⟩
    · simp only [true_or, if_true]
      have hpm : pmL l = restF 45 l ∧ pmV l = sgn true := by unfold pmL pmV sgn; rw [hM]; exact ⟨rfl, rfl⟩
      rw [hpm.1, hpm.2]
      have HM := Hid.mk' hM
      clear hM hpm
      go_enter Tryz.func22, Tryz.ntmps22
      go_wp2_with fail
      refine (fis1 g 90 _ S _ _ _ _ _ _ HX.out HS.out (by decide) (by decide)).mono ?_
      rintro e a0 ⟨rfl, ht, ho⟩
      rw [HZ.out.2] at ht
      have X0 := Hid.mk' ht
      have O0 := Hid.mk' ho
      clear ht ho HX
      rw [HZ.out.1]
      simp only [Bool.and_false]
      go_wp2_with fail
      refine (fis1 g 45 _ S _ _ _ _ _ _ X0.out HS.out (by decide) (by decide)).mono ?_
      rintro e a1 ⟨rfl, ht, ho⟩
      have X1 := Hid.mk' ht
      have O1 := Hid.mk' (O0.out.trans ho)
      clear ht ho X0 O0
      rw [HM.out]
      simp only [Bool.not_false, Bool.and_true]
      go_wp2_with fail
      refine (fshift_c g S _ _ _ _ _ true _ X1.out HS.out).mono ?_
      rintro e a3 ⟨rfl, ht, ho⟩
      have X3 := Hid.mk' ht
      have O3 := Hid.mk' (O1.out.trans ho)
      clear ht ho X1 O1
      go_wp2_with fail
      first
        | go_end0
        | refine bodyPost_ret (results_none rfl _ _ _) rfl ?_
      exact ⟨rfl, by simpa using X3.out, O3.out⟩
  · simp only [if_true]
    have HZ := Hid.mk' hZ
    clear hZ
    go_enter Tryz.func22, Tryz.ntmps22
    go_wp2_with fail
    refine (fis1 g 90 _ S _ _ _ _ _ _ HX.out HS.out (by decide) (by decide)).mono ?_
    rintro e a0 ⟨rfl, ht, ho⟩
    have X0 := Hid.mk' ht
    have O0 := Hid.mk' ho
    clear ht ho HX
    rw [HZ.out]
    simp only [Bool.not_false, Bool.and_true]
    go_wp2_with fail
    first
      | go_end0
      | refine bodyPost_ret (results_none rfl _ _ _) rfl ?_
    exact ⟨rfl, X0.out, O0.out⟩
theorem fzone_any (g : Nat) (S : ByteArray) (b : Bool) (l : List Nat) (D : List Int) (need : Bool) (w : World) (h : Fm g S b l D 0 false w) (hS : S.size ≤ 4611686018427387904) :
    Calls Tryz.prog 22 #[.pointer (some ⟨g, 0, none⟩), .bool need] w fun e w' => e = .returned (.tuple #[]) ∧ Fm g S (b || znB need l) (znL need l) D (znS l * (60 * ((znH l : Nat) : Int) + ((znM l : Nat) : Int))) (oddB (znH l) (znM l)) w' ∧ Only g w w' := by
  cases b
  · exact fzone_good g S l D need w h hS
  · refine (fzone_badB g S l D 0 false need w h hS).mono ?_
    rintro e w' ⟨rfl, h1, h2⟩
    exact ⟨rfl, h1.bad, h2⟩
end Go.Proofs.YthmpokndffbkdaaGreatDoor
