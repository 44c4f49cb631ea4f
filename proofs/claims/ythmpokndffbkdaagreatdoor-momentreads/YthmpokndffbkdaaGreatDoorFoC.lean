/-
  The document's form: day, clock, time. Conditions: the form lies in a block of its own.
-/
import Derived.Test.YthmpokndffbkdaaGreatDoorFoB
namespace Go.Proofs.YthmpokndffbkdaaGreatDoor
open Go.RowKit
set_option linter.unusedVariables false
set_option maxHeartbeats 2000000 in
theorem fday_any (g : Nat) (S : ByteArray) (b : Bool) (l : List Nat) (D : List Int) (z : Int) (o : Bool) (w : World) (h : Fm g S b l D z o w) (hS : S.size ≤ 4611686018427387904) :
    Calls Tryz.prog 19 #[.pointer (some ⟨g, 0, none⟩)] w fun e w' => e = .returned (.tuple #[]) ∧ Fm g S (b || dayB l) (dayL l) (((D.set 0 ((day0 l : Nat) : Int)).set 1 ((day1 l : Nat) : Int)).set 2 ((day2 l : Nat) : Int)) z o w' ∧ Only g w w' := by
  have HX := Hid.mk' h
  have HS := Hid.mk' hS
  have HO := Hid.mk' (Only.refl g w)
  unfold dayL dayB day0 day1 day2
  clear h hS
  go_enter Tryz.func19, Tryz.ntmps19
  go_wp2_with fail
  refine (fnumber_any g 4 S _ _ _ _ _ _ HX.out HS.out (by decide) (by decide)).mono ?_
  rintro e a0 ⟨⟨v0, rfl, hvb, hv⟩, ht, ho⟩
  have X0 := Hid.mk' ht
  have O0 := Hid.mk' (HO.out.trans ho)
  have V0 := Hid.mk' hv
  obtain ⟨u0, cu, fu⟩ := X0.out.cell 3 (by decide)
  clear ht ho hv hvb HX HO
  go_wp2_with fail
  have q0 := X0.out.set 0 (by decide) (v0 : Int) ((numN 4 0 (l) : Nat) : Int) (fun e => by rw [V0.out e])
  have Y0 := Hid.mk' q0.1
  have P0 := Hid.mk' (O0.out.trans q0.2)
  clear X0 O0 V0 q0 cu fu
  generalize (a0.setCell _ _) = b0 at *
  go_wp2_with fail
  refine (fmust1 g 45 _ S _ _ _ _ _ _ Y0.out HS.out (by decide) (by decide)).mono ?_
  rintro e a1 ⟨rfl, ht, ho⟩
  have X1 := Hid.mk' ht
  have O1 := Hid.mk' (P0.out.trans ho)
  clear ht ho Y0 P0
  go_wp2_with fail
  refine (fnumber_any g 2 S _ _ _ _ _ _ X1.out HS.out (by decide) (by decide)).mono ?_
  rintro e a2 ⟨⟨v2, rfl, hvb, hv⟩, ht, ho⟩
  have X2 := Hid.mk' ht
  have O2 := Hid.mk' (O1.out.trans ho)
  have V2 := Hid.mk' hv
  obtain ⟨u2, cu, fu⟩ := X2.out.cell 4 (by decide)
  clear ht ho hv hvb X1 O1
  go_wp2_with fail
  have q2 := X2.out.set 1 (by decide) (v2 : Int) ((numN 2 0 (restF 45 (numL 4 (l))) : Nat) : Int) (fun e => by rw [V2.out e])
  have Y2 := Hid.mk' q2.1
  have P2 := Hid.mk' (O2.out.trans q2.2)
  clear X2 O2 V2 q2 cu fu
  generalize (a2.setCell _ _) = b2 at *
  go_wp2_with fail
  refine (fmust1 g 45 _ S _ _ _ _ _ _ Y2.out HS.out (by decide) (by decide)).mono ?_
  rintro e a3 ⟨rfl, ht, ho⟩
  have X3 := Hid.mk' ht
  have O3 := Hid.mk' (P2.out.trans ho)
  clear ht ho Y2 P2
  go_wp2_with fail
  refine (fnumber_any g 2 S _ _ _ _ _ _ X3.out HS.out (by decide) (by decide)).mono ?_
  rintro e a4 ⟨⟨v4, rfl, hvb, hv⟩, ht, ho⟩
  have X4 := Hid.mk' ht
  have O4 := Hid.mk' (O3.out.trans ho)
  have V4 := Hid.mk' hv
  obtain ⟨u4, cu, fu⟩ := X4.out.cell 5 (by decide)
  clear ht ho hv hvb X3 O3
  go_wp2_with fail
  have q4 := X4.out.set 2 (by decide) (v4 : Int) ((numN 2 0 (restF 45 (numL 2 (restF 45 (numL 4 (l))))) : Nat) : Int) (fun e => by rw [V4.out e])
  have Y4 := Hid.mk' q4.1
  have P4 := Hid.mk' (O4.out.trans q4.2)
  clear X4 O4 V4 q4 cu fu
  generalize (a4.setCell _ _) = b4 at *
  go_wp2_with fail
  go_end0
  refine ⟨rfl, ?_, P4.out⟩
  have := Y4.out
  simpa [Bool.or_assoc] using this
set_option maxHeartbeats 2000000 in
theorem fclock_any (g : Nat) (S : ByteArray) (b : Bool) (l : List Nat) (D : List Int) (z : Int) (o : Bool) (w : World) (h : Fm g S b l D z o w) (hS : S.size ≤ 4611686018427387904) :
    Calls Tryz.prog 50 #[.pointer (some ⟨g, 0, none⟩)] w fun e w' => e = .returned (.tuple #[]) ∧ Fm g S (b || secB l) (secL l) (((D.set 3 ((sec0 l : Nat) : Int)).set 4 ((sec1 l : Nat) : Int)).set 5 ((sec2 l : Nat) : Int)) z o w' ∧ Only g w w' := by
  have HX := Hid.mk' h
  have HS := Hid.mk' hS
  have HO := Hid.mk' (Only.refl g w)
  unfold secL secB sec0 sec1 sec2
  clear h hS
  go_enter Tryz.func50, Tryz.ntmps50
  go_wp2_with fail
  refine (fnumber_any g 2 S _ _ _ _ _ _ HX.out HS.out (by decide) (by decide)).mono ?_
  rintro e a0 ⟨⟨v0, rfl, hvb, hv⟩, ht, ho⟩
  have X0 := Hid.mk' ht
  have O0 := Hid.mk' (HO.out.trans ho)
  have V0 := Hid.mk' hv
  obtain ⟨u0, cu, fu⟩ := X0.out.cell 6 (by decide)
  clear ht ho hv hvb HX HO
  go_wp2_with fail
  have q0 := X0.out.set 3 (by decide) (v0 : Int) ((numN 2 0 (l) : Nat) : Int) (fun e => by rw [V0.out e])
  have Y0 := Hid.mk' q0.1
  have P0 := Hid.mk' (O0.out.trans q0.2)
  clear X0 O0 V0 q0 cu fu
  generalize (a0.setCell _ _) = b0 at *
  go_wp2_with fail
  refine (fmust1 g 58 _ S _ _ _ _ _ _ Y0.out HS.out (by decide) (by decide)).mono ?_
  rintro e a1 ⟨rfl, ht, ho⟩
  have X1 := Hid.mk' ht
  have O1 := Hid.mk' (P0.out.trans ho)
  clear ht ho Y0 P0
  go_wp2_with fail
  refine (fnumber_any g 2 S _ _ _ _ _ _ X1.out HS.out (by decide) (by decide)).mono ?_
  rintro e a2 ⟨⟨v2, rfl, hvb, hv⟩, ht, ho⟩
  have X2 := Hid.mk' ht
  have O2 := Hid.mk' (O1.out.trans ho)
  have V2 := Hid.mk' hv
  obtain ⟨u2, cu, fu⟩ := X2.out.cell 7 (by decide)
  clear ht ho hv hvb X1 O1
  go_wp2_with fail
  have q2 := X2.out.set 4 (by decide) (v2 : Int) ((numN 2 0 (restF 58 (numL 2 (l))) : Nat) : Int) (fun e => by rw [V2.out e])
  have Y2 := Hid.mk' q2.1
  have P2 := Hid.mk' (O2.out.trans q2.2)
  clear X2 O2 V2 q2 cu fu
  generalize (a2.setCell _ _) = b2 at *
  go_wp2_with fail
  refine (fmust1 g 58 _ S _ _ _ _ _ _ Y2.out HS.out (by decide) (by decide)).mono ?_
  rintro e a3 ⟨rfl, ht, ho⟩
  have X3 := Hid.mk' ht
  have O3 := Hid.mk' (P2.out.trans ho)
  clear ht ho Y2 P2
  go_wp2_with fail
  refine (fnumber_any g 2 S _ _ _ _ _ _ X3.out HS.out (by decide) (by decide)).mono ?_
  rintro e a4 ⟨⟨v4, rfl, hvb, hv⟩, ht, ho⟩
  have X4 := Hid.mk' ht
  have O4 := Hid.mk' (O3.out.trans ho)
  have V4 := Hid.mk' hv
  obtain ⟨u4, cu, fu⟩ := X4.out.cell 8 (by decide)
  clear ht ho hv hvb X3 O3
  go_wp2_with fail
  have q4 := X4.out.set 5 (by decide) (v4 : Int) ((numN 2 0 (restF 58 (numL 2 (restF 58 (numL 2 (l))))) : Nat) : Int) (fun e => by rw [V4.out e])
  have Y4 := Hid.mk' q4.1
  have P4 := Hid.mk' (O4.out.trans q4.2)
  clear X4 O4 V4 q4 cu fu
  generalize (a4.setCell _ _) = b4 at *
  go_wp2_with fail
  go_end0
  refine ⟨rfl, ?_, P4.out⟩
  have := Y4.out
  simpa [Bool.or_assoc] using this
theorem Fm.at_bad {g : Nat} {S : ByteArray} {b b' : Bool} {l l' : List Nat} {D D' : List Int} {z z' : Int} {o o' : Bool} {w : World} (h : Fm g S b l D z o w) (hb : b = true) (hb' : b' = true) : Fm g S b' l' D' z' o' w := by
  subst hb hb'
  exact h.bad
set_option maxHeartbeats 2000000 in
theorem ftime_any (g : Nat) (S : ByteArray) (b : Bool) (l : List Nat) (D : List Int) (z : Int) (o : Bool) (w : World) (h : Fm g S b l D z o w) (hS : S.size ≤ 4611686018427387904) (hD : (((D.set 3 ((sec0 l : Nat) : Int)).set 4 ((sec1 l : Nat) : Int)).set 5 ((sec2 l : Nat) : Int)).getD 6 0 = 0) (hD7 : D.length = 7) :
    Calls Tryz.prog 21 #[.pointer (some ⟨g, 0, none⟩)] w fun e w' => e = .returned (.tuple #[]) ∧ Fm g S (b || timB l) (timL l) ((((D.set 3 ((sec0 l : Nat) : Int)).set 4 ((sec1 l : Nat) : Int)).set 5 ((sec2 l : Nat) : Int)).set 6 ((timMs l : Nat) : Int)) z o w' ∧ Only g w w' := by
  have HS := Hid.mk' hS
  obtain ⟨D2, hD2⟩ : ∃ D2, (((D.set 3 ((sec0 l : Nat) : Int)).set 4 ((sec1 l : Nat) : Int)).set 5 ((sec2 l : Nat) : Int)) = D2 := ⟨_, rfl⟩
  have HC := Hid.mk' (fclock_any g S b l D z o w h hS)
  rw [hD2] at HC hD ⊢
  have hset : D2.set 6 0 = D2 := by
    have h7 : D2.length = 7 := by rw [← hD2]; simp [hD7]
    apply List.ext_getElem
    · simp
    · intro i h1 h2
      rw [List.getElem_set]
      split
      · rename_i e
        subst e
        simp only [List.getD_eq_getElem?_getD, List.getElem?_eq_getElem h2] at hD
        exact hD.symm
      · rfl
  have HSET := Hid.mk' hset
  clear h hS hD hD2 hset hD7
  cases hq : (!(b || secB l) && hasF 46 (secL l))
  · have HQ : Hid ((b || secB l) = true ∨ ((b || secB l) = false ∧ hasF 46 (secL l) = false)) := by
      show _ ∨ _
      cases hb : (b || secB l)
      · rw [hb] at hq; exact .inr ⟨rfl, by simpa using hq⟩
      · exact .inl rfl
    have HN := Hid.mk' hq
    clear hq
    go_enter Tryz.func21, Tryz.ntmps21
    go_wp2_with fail
    refine HC.out.mono ?_
    rintro e a0 ⟨rfl, ht, ho⟩
    have X0 := Hid.mk' ht
    have O0 := Hid.mk' ho
    clear ht ho HC
    go_wp2_with fail
    refine (fis1 g 46 _ S _ _ _ _ _ _ X0.out HS.out (by decide) (by decide)).mono ?_
    rintro e a1 ⟨rfl, ht, ho⟩
    have X1 := Hid.mk' ht
    have O1 := Hid.mk' (O0.out.trans ho)
    rw [HN.out]
    clear ht ho X0 O0
    go_wp2_with fail
    go_end0
    refine ⟨rfl, ?_, O1.out⟩
    unfold timL timB timMs
    rcases HQ.out with e | ⟨e, e2⟩
    · refine X1.out.at_bad e ?_
      rw [← Bool.or_assoc, e]; rfl
    · have x := X1.out
      rw [restF_not e2] at x
      rw [e2]
      simp only [Bool.false_eq_true, if_false, Bool.false_and, Bool.or_false]
      rw [show (((0 : Nat) : Int)) = 0 from rfl, HSET.out]
      exact x
  · obtain ⟨h1, h2⟩ : (b || secB l) = false ∧ hasF 46 (secL l) = true := by simpa using hq
    have HH := Hid.mk' (And.intro h1 h2)
    have HN := Hid.mk' hq
    clear hq h1 h2
    go_enter Tryz.func21, Tryz.ntmps21
    go_wp2_with fail
    refine HC.out.mono ?_
    rintro e a0 ⟨rfl, ht, ho⟩
    have X0 := Hid.mk' ht
    have O0 := Hid.mk' ho
    clear ht ho HC
    go_wp2_with fail
    refine (fis1 g 46 _ S _ _ _ _ _ _ X0.out HS.out (by decide) (by decide)).mono ?_
    rintro e a1 ⟨rfl, ht, ho⟩
    have X1 := Hid.mk' ht
    have O1 := Hid.mk' (O0.out.trans ho)
    rw [HN.out]
    clear ht ho X0 O0
    go_wp2_with fail
    refine (fnumber_any g 3 S _ _ _ _ _ _ X1.out HS.out (by decide) (by decide)).mono ?_
    rintro e a2 ⟨⟨v, rfl, hvb, hv⟩, ht, ho⟩
    have X2 := Hid.mk' ht
    have O2 := Hid.mk' (O1.out.trans ho)
    have V2 := Hid.mk' hv
    obtain ⟨u, cu, fu⟩ := X2.out.cell 9 (by decide)
    clear ht ho hv hvb X1 O1
    go_wp2_with fail
    have q := X2.out.set 6 (by decide) (v : Int) ((numN 3 0 (restF 46 (secL l)) : Nat) : Int) (fun e => by rw [V2.out e])
    go_end0
    refine ⟨rfl, ?_, O2.out.trans q.2⟩
    unfold timL timB timMs
    have x := q.1
    rw [HH.out.2]
    simp only [if_true, Bool.true_and, ← Bool.or_assoc]
    exact x
end Go.Proofs.YthmpokndffbkdaaGreatDoor
