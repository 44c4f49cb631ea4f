/-
  The law FieldsJust. Conditions: texts of at most a mebibyte; the tables lie as the program lays them; some int lies in the library's variable.
-/
import Derived.Test.YtacbmpjpindepaaGreatDoorJuA
import Derived.Deep.DeepCutAuto
namespace Go.Proofs.YtacbmpjpindepaaGreatDoor
open Go.RowKit
set_option linter.unusedVariables false
set_option linter.unusedSimpArgs false
theorem neq_self4 (r : Bool) (W : World) : (binOp .neq 4 (.bool r) (.bool r)).run Tryz.prog W = .ok (.bool false) W := by cases r <;> kernel_rfl
theorem eql_tt (W : World) : (binOp .eql 4 (.bool true) (.bool true)).run Tryz.prog W = .ok (.bool true) W := by kernel_rfl
theorem eql_ff (W : World) : (binOp .eql 4 (.bool false) (.bool false)).run Tryz.prog W = .ok (.bool true) W := by kernel_rfl
set_option maxRecDepth 100000 in
set_option maxHeartbeats 16000000 in
theorem fieldsJust_any (S T : ByteArray) (w : World) (hS : S.size ≤ 1048576) (hT : T.size ≤ 1048576) (hw : RwT w) (hp : Pow w) (hm : MxL w) :
    Calls Tryz.prog 7 #[.string S, .string T] w fun e w' => e = .returned (.bool true) ∧ Below w.heap.size w w' := by
  have HEX := Hid.mk' (examples_any w hw hp)
  have HMX : Hid (∀ X, Below w.heap.size w X → MxL X) := Hid.mk' (fun X hX => hm.below hX hm.size)
  have hSI : (S.size : Int) ≤ 1048576 := by omega
  have hTI : (T.size : Int) ≤ 1048576 := by omega
  have hsz : (S ++ T).size < 4294967281 := by rw [ByteArray.size_append]; omega
  have H3 := Hid.mk' (fun X => is_3 S T X (by omega) (by omega))
  have H1 := Hid.mk' (fun X => is_1 S T X (by omega) (by omega))
  have H5 := Hid.mk' (fun X => is_5 S T X (by omega) (by omega))
  have H2 := Hid.mk' (fun X => is_2 S T X (by omega) (by omega))
  have H4 := Hid.mk' (fun X => is_4 S T X (by omega) (by omega))
  have H6 := Hid.mk' (fun X => is_6 S T X (by omega) (by omega))
  have HR := Hid.mk' (fun X => is_3 T S X (by omega) (by omega))
  have HA : Hid (∀ X, Below w.heap.size w X → Calls Tryz.prog 23 #[.string S, .int .i64 7, .string ⟨#[]⟩] X fun e w' => e = .returned (.bool true) ∧ w' = X) := Hid.mk' (fun X hX => by
    have h := is_7 S ⟨#[]⟩ X (by omega) (HMX.out X hX)
    rw [show Lib.contains S.data.toList (⟨#[]⟩ : ByteArray).data.toList = true from has_nil _] at h
    exact h)
  have HB : Hid (∀ X, Below w.heap.size w X → Calls Tryz.prog 23 #[.string (S ++ T), .int .i64 7, .string T] X fun e w' => e = .returned (.bool true) ∧ w' = X) := Hid.mk' (fun X hX => by
    have h := is_7 (S ++ T) T X hsz (HMX.out X hX)
    rw [show Lib.contains (S ++ T).data.toList T.data.toList = true by rw [ByteArray.data_append, Array.toList_append]; exact has_end _ _] at h
    exact h)
  have HN1 := Hid.mk' (fun X => number_fl S X (by omega))
  have HN2 := Hid.mk' (fun X => number_fl T X (by omega))
  have h3 := cm_three (Sums.bl S) (Sums.bl T)
  have hsw := cm_swap (Sums.bl S) (Sums.bl T)
  have hself : S = T → cmF (Sums.bl S) (Sums.bl T) = 0 := fun e => by rw [e]; exact cm_self _
  have hzero : cmF (Sums.bl S) (Sums.bl T) = 0 → ((nbF (Sums.bl S)).2 && (nbF (Sums.bl T)).2) = false → S = T := fun h1 h2 => Sums.bl_inj (cm_zero _ _ h1 h2)
  rw [hsw] at HR
  generalize cmF (Sums.bl S) (Sums.bl T) = c at *
  generalize nbF (Sums.bl S) = y at *
  generalize nbF (Sums.bl T) = z at *
  obtain ⟨y1, y2⟩ := y
  obtain ⟨z1, z2⟩ := z
  dsimp only at HN1 HN2 hzero
  clear hw hp hm HMX hS hT hsw hsz
  rcases h3 with rfl | rfl | rfl
  · have k3 : isC 3 (-1) = true := by decide
    have k1 : isC 1 (-1) = false := by decide
    have k5 : isC 5 (-1) = false := by decide
    have k2 : isC 2 (-1) = true := by decide
    have k4 : isC 4 (-1) = true := by decide
    have k6 : isC 6 (-1) = false := by decide
    have kR : isC 3 (- -1) = false := by decide
    rw [k3] at H3
    rw [k1] at H1
    rw [k5] at H5
    rw [k2] at H2
    rw [k4] at H4
    rw [k6] at H6
    rw [kR] at HR
    clear k1 k2 k3 k4 k5 k6 kR
    have b1 := eql_tt
    have b2 := eql_ff
    have b3 := neq_self4 true
    have b4 := neq_self4 false
    have HST : Hid (¬ S = T) := Hid.mk' (fun e => absurd (hself e) (by decide))
    clear hself hzero
    go_enter Tryz.func7, Tryz.ntmps7
    go_wp2_with fail
    refine HEX.out.mono ?_
    rintro e w1 ⟨rfl, hb⟩
    have W1 := Hid.mk' hb
    clear hb HEX
    go_wp2_with fail
    refine (H3.out w1).mono ?_
    rintro e w2 ⟨rfl, hb⟩
    have W2 := Hid.mk' (bel_up W1.out hb)
    clear hb H3 W1
    go_wp2_with fail
    refine (H1.out w2).mono ?_
    rintro e w3 ⟨rfl, hb⟩
    have W3 := Hid.mk' (bel_up W2.out hb)
    clear hb H1 W2
    go_wp2_with fail
    refine (H5.out w3).mono ?_
    rintro e w4 ⟨rfl, hb⟩
    have W4 := Hid.mk' (bel_up W3.out hb)
    clear hb H5 W3
    go_wp2_with fail
    refine (HN1.out w4).mono ?_
    rintro e w5 ⟨rfl, hb⟩
    have W5 := Hid.mk' (bel_up W4.out hb)
    clear hb HN1 W4
    go_wp2_with fail
    refine (HN2.out w5).mono ?_
    rintro e w6 ⟨rfl, hb⟩
    have W6 := Hid.mk' (bel_up W5.out hb)
    clear hb HN2 W5
    go_upto_region 14 with fail
    go_cut [63] (fun v wc => v = .bool false ∧ Hid (Below w.heap.size w wc))
    case first =>
      have hST := HST.out
      have e3 : S.toList ≠ T.toList := fun e => hST (ByteArray.ext (by rw [ByteArray.toList_eq, ByteArray.toList_eq] at e; exact Array.toList_inj.1 e))
      have e1 : decide (S.toList = T.toList) = false := decide_eq_false e3
      have e2 : (S.toList == T.toList) = false := beq_eq_false_iff_ne.2 e3
      clear hST
      cases y2
      · go_wp2_with fail
        go_meet
        exact ⟨rfl, W6⟩
      · cases z2
        · go_wp2_with fail
          go_meet
          exact ⟨rfl, W6⟩
        · go_wp2_with fail
          go_meet
          exact ⟨rfl, W6⟩
    case rest =>
      obtain ⟨rfl, hc⟩ := hcut
      have V0 := Hid.mk' hc.out
      rename World => v0
      clear hc W6
      go_wp2_with fail
      refine (H2.out v0).mono ?_
      rintro e v1 ⟨rfl, hb⟩
      have V1 := Hid.mk' (bel_up V0.out hb)
      clear hb H2 V0
      go_wp2_with fail
      refine (H4.out v1).mono ?_
      rintro e v2 ⟨rfl, hb⟩
      have V2 := Hid.mk' (bel_up V1.out hb)
      clear hb H4 V1
      go_wp2_with fail
      refine (H6.out v2).mono ?_
      rintro e v3 ⟨rfl, hb⟩
      have V3 := Hid.mk' (bel_up V2.out hb)
      clear hb H6 V2
      go_wp2_with fail
      refine (HA.out v3 V3.out).mono ?_
      rintro e w9 ⟨rfl, hw9⟩
      have hw8 := hw9.symm
      subst hw8
      clear hw9 HA
      go_wp2_with fail
      refine (HB.out v3 V3.out).mono ?_
      rintro e w9 ⟨rfl, hw9⟩
      have hw8 := hw9.symm
      subst hw8
      clear hw9 HB
      go_wp2_with fail
      refine (HR.out v3).mono ?_
      rintro e v4 ⟨rfl, hb⟩
      have V4 := Hid.mk' (bel_up V3.out hb)
      clear hb HR V3
      go_wp2_with fail
      go_ret
      exact ⟨rfl, V4.out⟩
  · have k3 : isC 3 0 = false := by decide
    have k1 : isC 1 0 = true := by decide
    have k5 : isC 5 0 = false := by decide
    have k2 : isC 2 0 = false := by decide
    have k4 : isC 4 0 = true := by decide
    have k6 : isC 6 0 = true := by decide
    have kR : isC 3 (-0) = false := by decide
    rw [k3] at H3
    rw [k1] at H1
    rw [k5] at H5
    rw [k2] at H2
    rw [k4] at H4
    rw [k6] at H6
    rw [kR] at HR
    clear k1 k2 k3 k4 k5 k6 kR
    have b1 := eql_tt
    have b2 := eql_ff
    have b3 := neq_self4 true
    have b4 := neq_self4 false
    have HPR : Hid (¬ S = T → y2 = true ∧ z2 = true) := Hid.mk' (fun hne => by
      cases y2 <;> cases z2 <;> first | exact ⟨rfl, rfl⟩ | exact absurd (hzero rfl rfl) hne)
    clear hself hzero
    go_enter Tryz.func7, Tryz.ntmps7
    go_wp2_with fail
    refine HEX.out.mono ?_
    rintro e w1 ⟨rfl, hb⟩
    have W1 := Hid.mk' hb
    clear hb HEX
    go_wp2_with fail
    refine (H3.out w1).mono ?_
    rintro e w2 ⟨rfl, hb⟩
    have W2 := Hid.mk' (bel_up W1.out hb)
    clear hb H3 W1
    go_wp2_with fail
    refine (H1.out w2).mono ?_
    rintro e w3 ⟨rfl, hb⟩
    have W3 := Hid.mk' (bel_up W2.out hb)
    clear hb H1 W2
    go_wp2_with fail
    refine (H5.out w3).mono ?_
    rintro e w4 ⟨rfl, hb⟩
    have W4 := Hid.mk' (bel_up W3.out hb)
    clear hb H5 W3
    go_wp2_with fail
    refine (HN1.out w4).mono ?_
    rintro e w5 ⟨rfl, hb⟩
    have W5 := Hid.mk' (bel_up W4.out hb)
    clear hb HN1 W4
    go_wp2_with fail
    refine (HN2.out w5).mono ?_
    rintro e w6 ⟨rfl, hb⟩
    have W6 := Hid.mk' (bel_up W5.out hb)
    clear hb HN2 W5
    go_upto_region 14 with fail
    go_cut [63] (fun v wc => v = .bool false ∧ Hid (Below w.heap.size w wc))
    case first =>
      by_cases hST : S = T
      · have e1 : decide (S.toList = T.toList) = true := decide_eq_true (by rw [hST])
        have e2 : (S.toList == T.toList) = true := by rw [hST]; simp
        subst hST
        cases y2
        · go_wp2_with fail
          go_meet
          exact ⟨rfl, W6⟩
        · cases z2
          · go_wp2_with fail
            go_meet
            exact ⟨rfl, W6⟩
          · go_wp2_with fail
            go_meet
            exact ⟨rfl, W6⟩
      · obtain ⟨hy, hz⟩ := HPR.out hST
        subst hy
        subst hz
        have e3 : S.toList ≠ T.toList := fun e => hST (ByteArray.ext (by rw [ByteArray.toList_eq, ByteArray.toList_eq] at e; exact Array.toList_inj.1 e))
        have e1 : decide (S.toList = T.toList) = false := decide_eq_false e3
        have e2 : (S.toList == T.toList) = false := beq_eq_false_iff_ne.2 e3
        clear hST
        go_wp2_with fail
        go_meet
        exact ⟨rfl, W6⟩
    case rest =>
      obtain ⟨rfl, hc⟩ := hcut
      have V0 := Hid.mk' hc.out
      rename World => v0
      clear hc W6
      go_wp2_with fail
      refine (H2.out v0).mono ?_
      rintro e v1 ⟨rfl, hb⟩
      have V1 := Hid.mk' (bel_up V0.out hb)
      clear hb H2 V0
      go_wp2_with fail
      refine (H4.out v1).mono ?_
      rintro e v2 ⟨rfl, hb⟩
      have V2 := Hid.mk' (bel_up V1.out hb)
      clear hb H4 V1
      go_wp2_with fail
      refine (H6.out v2).mono ?_
      rintro e v3 ⟨rfl, hb⟩
      have V3 := Hid.mk' (bel_up V2.out hb)
      clear hb H6 V2
      go_wp2_with fail
      refine (HA.out v3 V3.out).mono ?_
      rintro e w9 ⟨rfl, hw9⟩
      have hw8 := hw9.symm
      subst hw8
      clear hw9 HA
      go_wp2_with fail
      refine (HB.out v3 V3.out).mono ?_
      rintro e w9 ⟨rfl, hw9⟩
      have hw8 := hw9.symm
      subst hw8
      clear hw9 HB
      go_wp2_with fail
      refine (HR.out v3).mono ?_
      rintro e v4 ⟨rfl, hb⟩
      have V4 := Hid.mk' (bel_up V3.out hb)
      clear hb HR V3
      go_wp2_with fail
      go_ret
      exact ⟨rfl, V4.out⟩
  · have k3 : isC 3 1 = false := by decide
    have k1 : isC 1 1 = false := by decide
    have k5 : isC 5 1 = true := by decide
    have k2 : isC 2 1 = true := by decide
    have k4 : isC 4 1 = false := by decide
    have k6 : isC 6 1 = true := by decide
    have kR : isC 3 (-1) = true := by decide
    rw [k3] at H3
    rw [k1] at H1
    rw [k5] at H5
    rw [k2] at H2
    rw [k4] at H4
    rw [k6] at H6
    rw [kR] at HR
    clear k1 k2 k3 k4 k5 k6 kR
    have b1 := eql_tt
    have b2 := eql_ff
    have b3 := neq_self4 true
    have b4 := neq_self4 false
    have HST : Hid (¬ S = T) := Hid.mk' (fun e => absurd (hself e) (by decide))
    clear hself hzero
    go_enter Tryz.func7, Tryz.ntmps7
    go_wp2_with fail
    refine HEX.out.mono ?_
    rintro e w1 ⟨rfl, hb⟩
    have W1 := Hid.mk' hb
    clear hb HEX
    go_wp2_with fail
    refine (H3.out w1).mono ?_
    rintro e w2 ⟨rfl, hb⟩
    have W2 := Hid.mk' (bel_up W1.out hb)
    clear hb H3 W1
    go_wp2_with fail
    refine (H1.out w2).mono ?_
    rintro e w3 ⟨rfl, hb⟩
    have W3 := Hid.mk' (bel_up W2.out hb)
    clear hb H1 W2
    go_wp2_with fail
    refine (H5.out w3).mono ?_
    rintro e w4 ⟨rfl, hb⟩
    have W4 := Hid.mk' (bel_up W3.out hb)
    clear hb H5 W3
    go_wp2_with fail
    refine (HN1.out w4).mono ?_
    rintro e w5 ⟨rfl, hb⟩
    have W5 := Hid.mk' (bel_up W4.out hb)
    clear hb HN1 W4
    go_wp2_with fail
    refine (HN2.out w5).mono ?_
    rintro e w6 ⟨rfl, hb⟩
    have W6 := Hid.mk' (bel_up W5.out hb)
    clear hb HN2 W5
    go_upto_region 14 with fail
    go_cut [63] (fun v wc => v = .bool false ∧ Hid (Below w.heap.size w wc))
    case first =>
      have hST := HST.out
      have e3 : S.toList ≠ T.toList := fun e => hST (ByteArray.ext (by rw [ByteArray.toList_eq, ByteArray.toList_eq] at e; exact Array.toList_inj.1 e))
      have e1 : decide (S.toList = T.toList) = false := decide_eq_false e3
      have e2 : (S.toList == T.toList) = false := beq_eq_false_iff_ne.2 e3
      clear hST
      cases y2
      · go_wp2_with fail
        go_meet
        exact ⟨rfl, W6⟩
      · cases z2
        · go_wp2_with fail
          go_meet
          exact ⟨rfl, W6⟩
        · go_wp2_with fail
          go_meet
          exact ⟨rfl, W6⟩
    case rest =>
      obtain ⟨rfl, hc⟩ := hcut
      have V0 := Hid.mk' hc.out
      rename World => v0
      clear hc W6
      go_wp2_with fail
      refine (H2.out v0).mono ?_
      rintro e v1 ⟨rfl, hb⟩
      have V1 := Hid.mk' (bel_up V0.out hb)
      clear hb H2 V0
      go_wp2_with fail
      refine (H4.out v1).mono ?_
      rintro e v2 ⟨rfl, hb⟩
      have V2 := Hid.mk' (bel_up V1.out hb)
      clear hb H4 V1
      go_wp2_with fail
      refine (H6.out v2).mono ?_
      rintro e v3 ⟨rfl, hb⟩
      have V3 := Hid.mk' (bel_up V2.out hb)
      clear hb H6 V2
      go_wp2_with fail
      refine (HA.out v3 V3.out).mono ?_
      rintro e w9 ⟨rfl, hw9⟩
      have hw8 := hw9.symm
      subst hw8
      clear hw9 HA
      go_wp2_with fail
      refine (HB.out v3 V3.out).mono ?_
      rintro e w9 ⟨rfl, hw9⟩
      have hw8 := hw9.symm
      subst hw8
      clear hw9 HB
      go_wp2_with fail
      refine (HR.out v3).mono ?_
      rintro e v4 ⟨rfl, hb⟩
      have V4 := Hid.mk' (bel_up V3.out hb)
      clear hb HR V3
      go_wp2_with fail
      go_ret
      exact ⟨rfl, V4.out⟩
end Go.Proofs.YtacbmpjpindepaaGreatDoor
