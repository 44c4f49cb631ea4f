/-
  The law FieldsHolds. Conditions: texts of at most a mebibyte; a number as a row lets it be; the tables lie as the program lays them; some int lies in the library's variable.
-/
import Derived.Test.YtacbmpjpindepaaGreatDoorRnK
import Derived.Deep.DeepCutAuto
namespace Go.Proofs.YtacbmpjpindepaaGreatDoor
open Go.RowKit
set_option linter.unusedVariables false
set_option linter.unusedSimpArgs false
theorem neq_selfH (r : Bool) (W : World) : (binOp .neq 4 (.bool r) (.bool r)).run Tryz.prog W = .ok (.bool false) W := by cases r <;> kernel_rfl
theorem eql_selfH (r : Bool) (W : World) : (binOp .eql 4 (.bool r) (.bool r)).run Tryz.prog W = .ok (.bool true) W := by cases r <;> kernel_rfl
theorem is_both (S T : ByteArray) (op : Int) (hS : S.size ≤ 1048576) (hT : T.size ≤ 1048576) (h0 : -9223372036854775808 ≤ op) (h1 : op ≤ 9223372036854775807) :
    ∃ r : Bool, (∀ X, MxL X → Calls Tryz.prog 23 #[.string S, .int .i64 op, .string T] X fun e w' => e = .returned (.bool r) ∧ Below X.heap.size X w') ∧ (∀ X, Calls Tryz.prog 24 #[.string S, .int .i64 op, .string T] X fun e w' => e = .returned (.bool r) ∧ w' = X) := by
  by_cases h : op < 1 ∨ 7 < op
  · exact ⟨false, fun X _ => (is_other S T op X h h0 h1).mono (by rintro e w' ⟨rfl, rfl⟩; exact ⟨rfl, Below.refl _ _⟩), fun X => rIs_other S T op X (by omega) (by omega) h⟩
  · rcases (show op = 1 ∨ op = 2 ∨ op = 3 ∨ op = 4 ∨ op = 5 ∨ op = 6 ∨ op = 7 by omega) with rfl | rfl | rfl | rfl | rfl | rfl | rfl
    · exact ⟨_, fun X _ => is_1 S T X (by omega) (by omega), fun X => rIs_1 S T X (by omega) (by omega)⟩
    · exact ⟨_, fun X _ => is_2 S T X (by omega) (by omega), fun X => rIs_2 S T X (by omega) (by omega)⟩
    · exact ⟨_, fun X _ => is_3 S T X (by omega) (by omega), fun X => rIs_3 S T X (by omega) (by omega)⟩
    · exact ⟨_, fun X _ => is_4 S T X (by omega) (by omega), fun X => rIs_4 S T X (by omega) (by omega)⟩
    · exact ⟨_, fun X _ => is_5 S T X (by omega) (by omega), fun X => rIs_5 S T X (by omega) (by omega)⟩
    · exact ⟨_, fun X _ => is_6 S T X (by omega) (by omega), fun X => rIs_6 S T X (by omega) (by omega)⟩
    · exact ⟨_, fun X hX => (is_7 S T X (by omega) hX).mono (by rintro e w' ⟨rfl, rfl⟩; exact ⟨rfl, Below.refl _ _⟩), fun X => rIs_7 S T X (by omega) (by omega)⟩
set_option maxRecDepth 100000 in
set_option maxHeartbeats 16000000 in
theorem fieldsHolds_any (S : ByteArray) (op : Int) (T : ByteArray) (w : World) (hS : S.size ≤ 1048576) (o0 : -9223372036854775808 ≤ op) (o1 : op ≤ 9223372036854775807) (hT : T.size ≤ 1048576) (hw : RwT w) (hp : Pow w) (hm : MxL w) :
    Calls Tryz.prog 5 #[.string S, .int .i64 op, .string T] w fun e w' => e = .returned (.bool true) ∧ Below w.heap.size w w' := by
  have HEX := Hid.mk' (examples_any w hw hp)
  have HMX : Hid (∀ X, Below w.heap.size w X → MxL X) := Hid.mk' (fun X hX => hm.below hX hm.size)
  obtain ⟨r, hr1, hr2⟩ := is_both S T op hS hT o0 o1
  have HR1 := Hid.mk' hr1
  have HR2 := Hid.mk' hr2
  have HK1 := Hid.mk' (fun (k : Nat) (hk : k ≤ 8) => is_both S T (k : Int) hS hT (by omega) (by omega))
  have HK2 := Hid.mk' (fun (k : Nat) (hk : k ≤ 8) => is_both T S (k : Int) hT hS (by omega) (by omega))
  have HL1 := Hid.mk' (fun X => less_fl S T X (by omega) (by omega))
  have HL2 := Hid.mk' (fun X => rLess_any S T X (by omega) (by omega))
  have HL3 := Hid.mk' (fun X => less_fl T S X (by omega) (by omega))
  have HL4 := Hid.mk' (fun X => rLess_any T S X (by omega) (by omega))
  generalize leF (Sums.bl S) (Sums.bl T) = p at HL1 HL2
  generalize leF (Sums.bl T) (Sums.bl S) = q at HL3 HL4
  clear hw hp hm hS hT hr1 hr2 o0 o1
  have e1 := eql_selfH r
  have e2 := eql_selfH p
  have e3 := eql_selfH q
  go_enter Tryz.func5, Tryz.ntmps5
  go_wp2_with fail
  refine HEX.out.mono ?_
  rintro e w1 ⟨rfl, hb1⟩
  have HB1 := Hid.mk' hb1
  clear hb1 HEX
  go_wp2_with fail
  go_loopw [8] (fun iv wr => ∃ k : Nat, iv = .int .i64 (k : Int) ∧ 1 ≤ k ∧ k ≤ 8 ∧ Hid (Below w.heap.size w wr)) (fun iv _ => 8 - (intOf iv).toNat)
  case atStart => exact ⟨1, by simp, by omega, by omega, HB1⟩
  case round =>
    obtain ⟨k, rfl, hk1, hk8, HI⟩ := hrel
    rename World => v0
    clear HB1
    by_cases hk : k ≤ 7
    · have hkI : (k : Int) ≤ 7 := by omega
      obtain ⟨a, ha1, ha2⟩ := HK1.out k hk8
      obtain ⟨b, hb1, hb2⟩ := HK2.out k hk8
      have HA1 := Hid.mk' ha1
      have HA2 := Hid.mk' ha2
      have HB1 := Hid.mk' hb1
      have HB2 := Hid.mk' hb2
      clear ha1 ha2 hb1 hb2 e1 e2 e3
      have n1 := neq_selfH a
      have n2 := neq_selfH b
      go_wp2_with fail
      refine (HA1.out v0 (HMX.out v0 HI.out)).mono ?_
      rintro e v1 ⟨rfl, hv⟩
      have V1 := Hid.mk' (bel_up HI.out hv)
      clear hv HI
      go_wp2_with fail
      refine (HA2.out v1).mono ?_
      rintro e v9 ⟨rfl, hv9⟩
      have hv8 := hv9.symm
      subst hv8
      clear hv9
      go_wp2_with fail
      refine (HB1.out v1 (HMX.out v1 V1.out)).mono ?_
      rintro e v2 ⟨rfl, hv⟩
      have V2 := Hid.mk' (bel_up V1.out hv)
      clear hv V1
      go_wp2_with fail
      refine (HB2.out v2).mono ?_
      rintro e v9 ⟨rfl, hv9⟩
      have hv8 := hv9.symm
      subst hv8
      clear hv9
      go_wp2_with fail
      go_roundw
      case rel => exact ⟨k + 1, by go_num, by omega, by omega, V2⟩
      case measure => simp [intOf]; omega
    · have hkI : ¬ (k : Int) ≤ 7 := by omega
      have hkD : decide ((k : Int) ≤ 7) = false := decide_eq_false hkI
      obtain rfl : k = 8 := by omega
      go_wp2_with fail
      refine (HR1.out v0 (HMX.out v0 HI.out)).mono ?_
      rintro e v1 ⟨rfl, hv⟩
      have V1 := Hid.mk' (bel_up HI.out hv)
      clear hv HI
      go_wp2_with fail
      refine (HR2.out v1).mono ?_
      rintro e v9 ⟨rfl, hv9⟩
      have hv8 := hv9.symm
      subst hv8
      clear hv9
      go_wp2_with fail
      refine (HL1.out v1).mono ?_
      rintro e v2 ⟨rfl, hv⟩
      have V2 := Hid.mk' (bel_up V1.out hv)
      clear hv V1
      go_wp2_with fail
      refine (HL2.out v2).mono ?_
      rintro e v9 ⟨rfl, hv9⟩
      have hv8 := hv9.symm
      subst hv8
      clear hv9
      go_wp2_with fail
      refine (HL3.out v2).mono ?_
      rintro e v3 ⟨rfl, hv⟩
      have V3 := Hid.mk' (bel_up V2.out hv)
      clear hv V2
      go_wp2_with fail
      refine (HL4.out v3).mono ?_
      rintro e v9 ⟨rfl, hv9⟩
      have hv8 := hv9.symm
      subst hv8
      clear hv9
      go_wp2_with fail
      go_ret
      exact ⟨rfl, V3.out⟩
end Go.Proofs.YtacbmpjpindepaaGreatDoor
