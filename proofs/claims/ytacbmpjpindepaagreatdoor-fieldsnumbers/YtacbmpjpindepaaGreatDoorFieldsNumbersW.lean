/-
  The law FieldsNumbers. Conditions: a number and a text as a row lets them be; the tables lie as the program lays them.
-/
import Derived.Test.YtacbmpjpindepaaGreatDoorRnC
import Derived.Test.YtacbmpjpindepaaGreatDoorRnE
import Derived.Test.YtacbmpjpindepaaGreatDoorPk14
namespace Go.Proofs.YtacbmpjpindepaaGreatDoor
open Go.RowKit
set_option linter.unusedVariables false
set_option linter.unusedSimpArgs false
theorem eql_self4 (r : Bool) (W : World) : (binOp .eql 4 (.bool r) (.bool r)).run Tryz.prog W = .ok (.bool true) W := by cases r <;> kernel_rfl
set_option maxRecDepth 100000 in
set_option maxHeartbeats 16000000 in
theorem fieldsNumbers_any (S : ByteArray) (n : Int) (w : World) (hS : S.size ≤ 140737488351232) (n0 : -9223372036854775808 ≤ n) (n1 : n ≤ 9223372036854775807) (hw : RwT w) (hp : Pow w) :
    Calls Tryz.prog 4 #[.string S, .int .i64 n] w fun e w' => e = .returned (.bool true) ∧ Below w.heap.size w w' := by
  have HEX := Hid.mk' (examples_any w hw hp)
  have HPW : Hid (∀ X, Below w.heap.size w X → Pow X) := Hid.mk' (fun X hX => hp.below hX hp.size)
  have HN1 := Hid.mk' (fun X => number_fl S X (by omega))
  have HN2 := Hid.mk' (fun X => rNumber_any S X (by omega))
  have HS1 : Hid (∀ (X : World), Below w.heap.size w X → Calls Tryz.prog 19 #[.int .i64 n] X fun e w' => (∃ R, Sums.bl R = shF n ∧ e = .returned (.string R)) ∧ Below X.heap.size X w') := Hid.mk' (fun X h3 => show_fl n X n0 n1 (HPW.out X h3))
  have HS2 := Hid.mk' (fun X => rShow_any n X n0 n1)
  have HM1 := Hid.mk' (fun X => fname_any S X (by omega))
  have HM2 := Hid.mk' (fun X => rName_any S X (by omega))
  clear hw hp HPW hS
  generalize nbF (Sums.bl S) = y at HN1 HN2
  obtain ⟨y1, y2⟩ := y
  generalize nameF (Sums.bl S) = z at HM1 HM2
  dsimp only at HN1 HN2
  have e1 := eql_self4 y2
  have e2 := eql_self4 z
  go_enter Tryz.func4, Tryz.ntmps4
  go_wp2_with fail
  refine HEX.out.mono ?_
  rintro e w1 ⟨rfl, hb1⟩
  have HB1 := Hid.mk' hb1
  clear hb1 HEX
  go_wp2_with fail
  refine (HN1.out w1).mono ?_
  rintro e w2 ⟨rfl, hb⟩
  have HB2 := Hid.mk' (bel_up HB1.out hb)
  clear hb HB1 HN1
  go_wp2_with fail
  refine (HN2.out w2).mono ?_
  rintro e w3 ⟨rfl, hw2⟩
  have hw3 := hw2.symm
  subst hw3
  clear hw2 HN2
  go_wp2_with fail
  refine (HS1.out w2 HB2.out).mono ?_
  rintro e w4 ⟨⟨R, hR, rfl⟩, hb⟩
  have HB4 := Hid.mk' (bel_up HB2.out hb)
  have HR := Hid.mk' hR
  clear hb hR HB2 HS1
  go_wp2_with fail
  refine (HS2.out w4).mono ?_
  rintro e w5 ⟨⟨R2, hR2, rfl⟩, hb⟩
  have HB5 := Hid.mk' (bel_up HB4.out hb)
  have hE : R2 = R := Sums.bl_inj (hR2.trans HR.out.symm)
  subst hE
  clear hb hR2 HR HB4 HS2
  go_wp2_with fail
  refine (HM1.out w5).mono ?_
  rintro e w6 ⟨rfl, hb⟩
  have HB6 := Hid.mk' (bel_up HB5.out hb)
  clear hb HB5 HM1
  go_wp2_with fail
  refine (HM2.out w6).mono ?_
  rintro e w7 ⟨rfl, hw2⟩
  have hw3 := hw2.symm
  subst hw3
  clear hw2 HM2
  go_wp2_with fail
  go_ret
  exact ⟨rfl, HB6.out⟩
end Go.Proofs.YtacbmpjpindepaaGreatDoor
