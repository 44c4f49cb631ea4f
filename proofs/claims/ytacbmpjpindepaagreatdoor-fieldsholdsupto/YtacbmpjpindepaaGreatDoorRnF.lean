/-
  The document's own Less and order: any two texts. Conditions: as each says.
-/
import Derived.Test.YtacbmpjpindepaaGreatDoorRnC
import Derived.Test.YtacbmpjpindepaaGreatDoorTotA
namespace Go.Proofs.YtacbmpjpindepaaGreatDoor
open Go.RowKit
set_option linter.unusedVariables false
set_option linter.unusedSimpArgs false
theorem neq_tf (W : World) : (binOp .neq 4 (.bool true) (.bool false)).run Tryz.prog W = .ok (.bool true) W := by kernel_rfl
theorem neq_ft (W : World) : (binOp .neq 4 (.bool false) (.bool true)).run Tryz.prog W = .ok (.bool true) W := by kernel_rfl
theorem neq_tt (W : World) : (binOp .neq 4 (.bool true) (.bool true)).run Tryz.prog W = .ok (.bool false) W := by kernel_rfl
theorem neq_ff (W : World) : (binOp .neq 4 (.bool false) (.bool false)).run Tryz.prog W = .ok (.bool false) W := by kernel_rfl
set_option maxRecDepth 100000 in
set_option maxHeartbeats 8000000 in
theorem rLess_any (S T : ByteArray) (w : World) (hS : S.size ≤ 281474976710656) (hT : T.size ≤ 281474976710656) : Calls Tryz.prog 26 #[.string S, .string T] w fun e w' => e = .returned (.bool (leF (Sums.bl S) (Sums.bl T))) ∧ w' = w := by
  have HA := Hid.mk' (fun X => rNumber_any S X hS)
  have HB := Hid.mk' (fun X => rNumber_any T X hT)
  have hz1 := nb_zero (Sums.bl S)
  have hz2 := nb_zero (Sums.bl T)
  have hlx : Op.bytesLess S.toList T.toList = lxF (Sums.bl S) (Sums.bl T) := by
    rw [less_lxF, ByteArray.toList_eq, ByteArray.toList_eq]; rfl
  unfold leF
  rw [← hlx]
  clear hS hT hlx
  generalize nbF (Sums.bl S) = y at *
  generalize nbF (Sums.bl T) = z at *
  obtain ⟨x1, a⟩ := y
  obtain ⟨y1, b⟩ := z
  dsimp only at HA HB hz1 hz2 ⊢
  have b1 := neq_tf
  have b2 := neq_ft
  have b3 := neq_tt
  have b4 := neq_ff
  have hR : ∃ r, (if (a != b) = true then a else if (x1 != y1) = true then decide (x1 < y1) else Op.bytesLess S.toList T.toList) = r := ⟨_, rfl⟩
  obtain ⟨r, hr⟩ := hR
  rw [hr]
  cases a <;> cases b
  · have e1 := hz1 rfl
    have e2 := hz2 rfl
    have hr2 : Op.bytesLess S.toList T.toList = r := by rw [← hr, e1, e2]; rfl
    clear hr hz1 hz2 e1 e2
    go_enter Tryz.func26, Tryz.ntmps26
    go_wp2_with fail
    refine (HA.out _).mono ?_
    rintro e w1 ⟨rfl, hw⟩
    have HW := Hid.mk' hw
    clear hw
    go_wp2_with fail
    refine (HB.out _).mono ?_
    rintro e w2 ⟨rfl, hw⟩
    have HW2 := Hid.mk' (hw.trans HW.out)
    clear hw
    go_wp2_with fail
    refine ⟨rfl, _, ?_, rfl, HW2.out⟩
    simp [results, Tryz.f26, go_sem]
  · have hr2 : false = r := by rw [← hr]; rfl
    subst hr2
    clear hr hz1 hz2
    go_enter Tryz.func26, Tryz.ntmps26
    go_wp2_with fail
    refine (HA.out _).mono ?_
    rintro e w1 ⟨rfl, hw⟩
    have HW := Hid.mk' hw
    clear hw
    go_wp2_with fail
    refine (HB.out _).mono ?_
    rintro e w2 ⟨rfl, hw⟩
    have HW2 := Hid.mk' (hw.trans HW.out)
    clear hw
    go_wp2_with fail
    refine ⟨rfl, _, ?_, rfl, HW2.out⟩
    simp [results, Tryz.f26, go_sem]
  · have hr2 : true = r := by rw [← hr]; rfl
    subst hr2
    clear hr hz1 hz2
    go_enter Tryz.func26, Tryz.ntmps26
    go_wp2_with fail
    refine (HA.out _).mono ?_
    rintro e w1 ⟨rfl, hw⟩
    have HW := Hid.mk' hw
    clear hw
    go_wp2_with fail
    refine (HB.out _).mono ?_
    rintro e w2 ⟨rfl, hw⟩
    have HW2 := Hid.mk' (hw.trans HW.out)
    clear hw
    go_wp2_with fail
    refine ⟨rfl, _, ?_, rfl, HW2.out⟩
    simp [results, Tryz.f26, go_sem]
  · clear hz1 hz2
    by_cases c : x1 = y1
    · subst c
      have hr2 : Op.bytesLess S.toList T.toList = r := by rw [← hr]; simp
      clear hr
      go_enter Tryz.func26, Tryz.ntmps26
      go_wp2_with fail
      refine (HA.out _).mono ?_
      rintro e w1 ⟨rfl, hw⟩
      have HW := Hid.mk' hw
      clear hw
      go_wp2_with fail
      refine (HB.out _).mono ?_
      rintro e w2 ⟨rfl, hw⟩
      have HW2 := Hid.mk' (hw.trans HW.out)
      clear hw
      go_wp2_with fail
      refine ⟨rfl, _, ?_, rfl, HW2.out⟩
      simp [results, Tryz.f26, go_sem]
    · have c1 : (x1 != y1) = true := by simp [c]
      have hr2 : decide (x1 < y1) = r := by rw [← hr, c1]; rfl
      clear hr
      go_enter Tryz.func26, Tryz.ntmps26
      go_wp2_with fail
      refine (HA.out _).mono ?_
      rintro e w1 ⟨rfl, hw⟩
      have HW := Hid.mk' hw
      clear hw
      go_wp2_with fail
      refine (HB.out _).mono ?_
      rintro e w2 ⟨rfl, hw⟩
      have HW2 := Hid.mk' (hw.trans HW.out)
      clear hw
      go_wp2_with fail
      refine ⟨rfl, _, ?_, rfl, HW2.out⟩
      simp [results, Tryz.f26, go_sem]
end Go.Proofs.YtacbmpjpindepaaGreatDoor
