/-
  The document's own order and Is: any op, any two texts. Conditions: as each says.
-/
import Derived.Test.YtacbmpjpindepaaGreatDoorRnF
import Derived.Test.YtacbmpjpindepaaGreatDoorJuA
namespace Go.Proofs.YtacbmpjpindepaaGreatDoor
open Go.RowKit
set_option linter.unusedVariables false
set_option linter.unusedSimpArgs false
set_option maxRecDepth 100000 in
set_option maxHeartbeats 8000000 in
theorem rOrder_any (S T : ByteArray) (w : World) (hS : S.size ≤ 281474976710656) (hT : T.size ≤ 281474976710656) : Calls Tryz.prog 47 #[.string S, .string T] w fun e w' => e = .returned (.int .i64 (cmF (Sums.bl S) (Sums.bl T))) ∧ w' = w := by
  have HA := Hid.mk' (fun X => rNumber_any S X hS)
  have HB := Hid.mk' (fun X => rNumber_any T X hT)
  have hl1 : Op.bytesLess S.toList T.toList = lxF (Sums.bl S) (Sums.bl T) := by
    rw [less_lxF, ByteArray.toList_eq, ByteArray.toList_eq]; rfl
  have hl2 : Op.bytesLess T.toList S.toList = lxF (Sums.bl T) (Sums.bl S) := by
    rw [less_lxF, ByteArray.toList_eq, ByteArray.toList_eq]; rfl
  have he : (S.toList == T.toList) = (!lxF (Sums.bl S) (Sums.bl T) && !lxF (Sums.bl T) (Sums.bl S)) := by
    by_cases h : Sums.bl S = Sums.bl T
    · have e := Sums.bl_inj h
      subst e
      simp [lx_irr]
    · have h2 : S.toList ≠ T.toList := fun e => h (congrArg Sums.bl (ByteArray.ext (by rw [ByteArray.toList_eq, ByteArray.toList_eq] at e; exact Array.toList_inj.1 e)))
      rw [beq_eq_false_iff_ne.2 h2, lx_tot _ _ h]
      cases lxF (Sums.bl T) (Sums.bl S) <;> rfl
  unfold cmF cmI cmS
  generalize lxF (Sums.bl S) (Sums.bl T) = p at *
  generalize lxF (Sums.bl T) (Sums.bl S) = q at *
  clear hS hT
  generalize nbF (Sums.bl S) = y at *
  generalize nbF (Sums.bl T) = z at *
  obtain ⟨x1, a⟩ := y
  obtain ⟨y1, b⟩ := z
  dsimp only at HA HB ⊢
  cases a <;> cases b
  · cases p
    · cases q
      · have he2 : (S.toList == T.toList) = true := he
        have he3 : decide (S.toList = T.toList) = true := by rw [← he2, Bool.eq_iff_iff]; simp
        clear he
        rw [show (if (false && false) = true then (if decide (x1 < y1) = true then (-1 : Int) else if decide (y1 < x1) = true then 1 else 0) else if false = true then -1 else if false = true then 1 else 0) = 0 from rfl]
        go_enter Tryz.func47, Tryz.ntmps47
        go_wp2_with fail
        refine (HA.out _).mono ?_
        rintro e w1 ⟨rfl, hw⟩
        have HW := Hid.mk' hw
        clear hw
        go_wp2_with fail
        refine (HB.out _).mono ?_
        rintro e w2 ⟨rfl, hw⟩
        have HW2 := Hid.mk' (hw.trans HW.out)
        clear hw
        go_wp2_with fail
        refine ⟨rfl, _, ?_, rfl, HW2.out⟩
        simp [results, Tryz.f47, go_sem]
      · have he2 : (S.toList == T.toList) = false := he
        have he3 : decide (S.toList = T.toList) = false := by rw [← he2, Bool.eq_iff_iff]; simp
        clear he
        rw [show (if (false && false) = true then (if decide (x1 < y1) = true then (-1 : Int) else if decide (y1 < x1) = true then 1 else 0) else if false = true then -1 else if true = true then 1 else 0) = 1 from rfl]
        go_enter Tryz.func47, Tryz.ntmps47
        go_wp2_with fail
        refine (HA.out _).mono ?_
        rintro e w1 ⟨rfl, hw⟩
        have HW := Hid.mk' hw
        clear hw
        go_wp2_with fail
        refine (HB.out _).mono ?_
        rintro e w2 ⟨rfl, hw⟩
        have HW2 := Hid.mk' (hw.trans HW.out)
        clear hw
        go_wp2_with fail
        refine ⟨rfl, _, ?_, rfl, HW2.out⟩
        simp [results, Tryz.f47, go_sem]
    · rw [show (if (false && false) = true then (if decide (x1 < y1) = true then (-1 : Int) else if decide (y1 < x1) = true then 1 else 0) else if true = true then -1 else if q = true then 1 else 0) = -1 from rfl]
      go_enter Tryz.func47, Tryz.ntmps47
      go_wp2_with fail
      refine (HA.out _).mono ?_
      rintro e w1 ⟨rfl, hw⟩
      have HW := Hid.mk' hw
      clear hw
      go_wp2_with fail
      refine (HB.out _).mono ?_
      rintro e w2 ⟨rfl, hw⟩
      have HW2 := Hid.mk' (hw.trans HW.out)
      clear hw
      go_wp2_with fail
      refine ⟨rfl, _, ?_, rfl, HW2.out⟩
      simp [results, Tryz.f47, go_sem]
  · cases p
    · cases q
      · have he2 : (S.toList == T.toList) = true := he
        have he3 : decide (S.toList = T.toList) = true := by rw [← he2, Bool.eq_iff_iff]; simp
        clear he
        rw [show (if (false && true) = true then (if decide (x1 < y1) = true then (-1 : Int) else if decide (y1 < x1) = true then 1 else 0) else if false = true then -1 else if false = true then 1 else 0) = 0 from rfl]
        go_enter Tryz.func47, Tryz.ntmps47
        go_wp2_with fail
        refine (HA.out _).mono ?_
        rintro e w1 ⟨rfl, hw⟩
        have HW := Hid.mk' hw
        clear hw
        go_wp2_with fail
        refine (HB.out _).mono ?_
        rintro e w2 ⟨rfl, hw⟩
        have HW2 := Hid.mk' (hw.trans HW.out)
        clear hw
        go_wp2_with fail
        refine ⟨rfl, _, ?_, rfl, HW2.out⟩
        simp [results, Tryz.f47, go_sem]
      · have he2 : (S.toList == T.toList) = false := he
        have he3 : decide (S.toList = T.toList) = false := by rw [← he2, Bool.eq_iff_iff]; simp
        clear he
        rw [show (if (false && true) = true then (if decide (x1 < y1) = true then (-1 : Int) else if decide (y1 < x1) = true then 1 else 0) else if false = true then -1 else if true = true then 1 else 0) = 1 from rfl]
        go_enter Tryz.func47, Tryz.ntmps47
        go_wp2_with fail
        refine (HA.out _).mono ?_
        rintro e w1 ⟨rfl, hw⟩
        have HW := Hid.mk' hw
        clear hw
        go_wp2_with fail
        refine (HB.out _).mono ?_
        rintro e w2 ⟨rfl, hw⟩
        have HW2 := Hid.mk' (hw.trans HW.out)
        clear hw
        go_wp2_with fail
        refine ⟨rfl, _, ?_, rfl, HW2.out⟩
        simp [results, Tryz.f47, go_sem]
    · rw [show (if (false && true) = true then (if decide (x1 < y1) = true then (-1 : Int) else if decide (y1 < x1) = true then 1 else 0) else if true = true then -1 else if q = true then 1 else 0) = -1 from rfl]
      go_enter Tryz.func47, Tryz.ntmps47
      go_wp2_with fail
      refine (HA.out _).mono ?_
      rintro e w1 ⟨rfl, hw⟩
      have HW := Hid.mk' hw
      clear hw
      go_wp2_with fail
      refine (HB.out _).mono ?_
      rintro e w2 ⟨rfl, hw⟩
      have HW2 := Hid.mk' (hw.trans HW.out)
      clear hw
      go_wp2_with fail
      refine ⟨rfl, _, ?_, rfl, HW2.out⟩
      simp [results, Tryz.f47, go_sem]
  · cases p
    · cases q
      · have he2 : (S.toList == T.toList) = true := he
        have he3 : decide (S.toList = T.toList) = true := by rw [← he2, Bool.eq_iff_iff]; simp
        clear he
        rw [show (if (true && false) = true then (if decide (x1 < y1) = true then (-1 : Int) else if decide (y1 < x1) = true then 1 else 0) else if false = true then -1 else if false = true then 1 else 0) = 0 from rfl]
        go_enter Tryz.func47, Tryz.ntmps47
        go_wp2_with fail
        refine (HA.out _).mono ?_
        rintro e w1 ⟨rfl, hw⟩
        have HW := Hid.mk' hw
        clear hw
        go_wp2_with fail
        refine (HB.out _).mono ?_
        rintro e w2 ⟨rfl, hw⟩
        have HW2 := Hid.mk' (hw.trans HW.out)
        clear hw
        go_wp2_with fail
        refine ⟨rfl, _, ?_, rfl, HW2.out⟩
        simp [results, Tryz.f47, go_sem]
      · have he2 : (S.toList == T.toList) = false := he
        have he3 : decide (S.toList = T.toList) = false := by rw [← he2, Bool.eq_iff_iff]; simp
        clear he
        rw [show (if (true && false) = true then (if decide (x1 < y1) = true then (-1 : Int) else if decide (y1 < x1) = true then 1 else 0) else if false = true then -1 else if true = true then 1 else 0) = 1 from rfl]
        go_enter Tryz.func47, Tryz.ntmps47
        go_wp2_with fail
        refine (HA.out _).mono ?_
        rintro e w1 ⟨rfl, hw⟩
        have HW := Hid.mk' hw
        clear hw
        go_wp2_with fail
        refine (HB.out _).mono ?_
        rintro e w2 ⟨rfl, hw⟩
        have HW2 := Hid.mk' (hw.trans HW.out)
        clear hw
        go_wp2_with fail
        refine ⟨rfl, _, ?_, rfl, HW2.out⟩
        simp [results, Tryz.f47, go_sem]
    · rw [show (if (true && false) = true then (if decide (x1 < y1) = true then (-1 : Int) else if decide (y1 < x1) = true then 1 else 0) else if true = true then -1 else if q = true then 1 else 0) = -1 from rfl]
      go_enter Tryz.func47, Tryz.ntmps47
      go_wp2_with fail
      refine (HA.out _).mono ?_
      rintro e w1 ⟨rfl, hw⟩
      have HW := Hid.mk' hw
      clear hw
      go_wp2_with fail
      refine (HB.out _).mono ?_
      rintro e w2 ⟨rfl, hw⟩
      have HW2 := Hid.mk' (hw.trans HW.out)
      clear hw
      go_wp2_with fail
      refine ⟨rfl, _, ?_, rfl, HW2.out⟩
      simp [results, Tryz.f47, go_sem]
  · rw [if_pos (show (true && true) = true from rfl)]
    clear hl1 hl2 he
    rcases Int.lt_trichotomy x1 y1 with c | c | c
    · have t1 : decide (x1 < y1) = true := decide_eq_true c
      have t2 : decide (y1 < x1) = false := decide_eq_false (by omega)
      rw [if_pos t1]
      go_enter Tryz.func47, Tryz.ntmps47
      go_wp2_with fail
      refine (HA.out _).mono ?_
      rintro e w1 ⟨rfl, hw⟩
      have HW := Hid.mk' hw
      clear hw
      go_wp2_with fail
      refine (HB.out _).mono ?_
      rintro e w2 ⟨rfl, hw⟩
      have HW2 := Hid.mk' (hw.trans HW.out)
      clear hw
      go_wp2_with fail
      refine ⟨rfl, _, ?_, rfl, HW2.out⟩
      simp [results, Tryz.f47, go_sem]
    · subst c
      have t1 : decide (x1 < x1) = false := decide_eq_false (by omega)
      rw [if_neg (by rw [t1]; simp), if_neg (by rw [t1]; simp)]
      go_enter Tryz.func47, Tryz.ntmps47
      go_wp2_with fail
      refine (HA.out _).mono ?_
      rintro e w1 ⟨rfl, hw⟩
      have HW := Hid.mk' hw
      clear hw
      go_wp2_with fail
      refine (HB.out _).mono ?_
      rintro e w2 ⟨rfl, hw⟩
      have HW2 := Hid.mk' (hw.trans HW.out)
      clear hw
      go_wp2_with fail
      refine ⟨rfl, _, ?_, rfl, HW2.out⟩
      simp [results, Tryz.f47, go_sem]
    · have t1 : decide (x1 < y1) = false := decide_eq_false (by omega)
      have t2 : decide (y1 < x1) = true := decide_eq_true c
      rw [if_neg (by rw [t1]; simp), if_pos t2]
      go_enter Tryz.func47, Tryz.ntmps47
      go_wp2_with fail
      refine (HA.out _).mono ?_
      rintro e w1 ⟨rfl, hw⟩
      have HW := Hid.mk' hw
      clear hw
      go_wp2_with fail
      refine (HB.out _).mono ?_
      rintro e w2 ⟨rfl, hw⟩
      have HW2 := Hid.mk' (hw.trans HW.out)
      clear hw
      go_wp2_with fail
      refine ⟨rfl, _, ?_, rfl, HW2.out⟩
      simp [results, Tryz.f47, go_sem]
theorem sl_runA (s : ByteArray) (a z : Nat) (h : a + z ≤ s.size) (W : World) : (Instr.slice 9 (.string s) (some (.int .i64 (a : Int))) (some (.int .i64 ((a : Int) + (z : Int)))) none).run Tryz.prog W = .ok (.string (s.extract a (a + z))) W := by
  have e1 : ((a : Int) + (z : Int)).toNat = a + z := by omega
  have e3 : (a : Int) + (z : Int) ≤ (s.size : Int) := by omega
  have e4 : (0 : Int) ≤ (a : Int) + (z : Int) := by omega
  simp [go_sem, Instr.slice, e1, e3, e4]
theorem dl (T : ByteArray) : T.data.toList.length = T.size := Array.length_toList
theorem oc_eq (S T : ByteArray) (j : Nat) : Lib.occAt S.data.toList T.data.toList j = ((S.extract j (j + T.size)).toList == T.toList) := by
  have he : (S.extract j (j + T.size)).data.toList = (S.data.toList.drop j).take T.size := by
    rw [ByteArray.data_extract, Array.toList_extract, List.extract_eq_take_drop]
    congr 1
    omega
  have hl : T.data.toList.length = T.size := dl T
  unfold Lib.occAt
  rw [ByteArray.toList_eq, ByteArray.toList_eq, he, Bool.eq_iff_iff, List.isPrefixOf_iff_prefix, List.prefix_iff_eq_take, beq_iff_eq, hl]
  exact eq_comm
theorem has_yes (s t : List UInt8) (j : Nat) (hj : j ≤ s.length) (h : Lib.occAt s t j = true) : Lib.contains s t = true := by
  unfold Lib.contains
  rcases Lib.index_spec s t with ⟨_, h2⟩ | ⟨i, h2, _⟩
  · have h3 := h2 j hj
    rw [h] at h3
    cases h3
  · rw [h2]
    simp
theorem has_no (s t : List UInt8) (j : Nat) (h : ∀ i, i < j → Lib.occAt s t i = false) (hl : s.length < j + t.length) : Lib.contains s t = false := by
  unfold Lib.contains
  rcases Lib.index_spec s t with ⟨h2, _⟩ | ⟨i, _, h3, h4, _⟩
  · rw [h2]
    rfl
  · exfalso
    have h5 := h4
    unfold Lib.occAt at h5
    rw [List.isPrefixOf_iff_prefix] at h5
    have h6 := h5.length_le
    rw [List.length_drop] at h6
    by_cases c : i < j
    · rw [h i c] at h4
      cases h4
    · have : i = s.length ∧ t.length = 0 ∨ i + t.length ≤ s.length := by omega
      omega
set_option maxRecDepth 100000 in
set_option maxHeartbeats 8000000 in
theorem rIs_1 (S T : ByteArray) (w : World) (hS : S.size ≤ 281474976710656) (hT : T.size ≤ 281474976710656) : Calls Tryz.prog 24 #[.string S, .int .i64 1, .string T] w fun e w' => e = .returned (.bool (isC 1 (cmF (Sums.bl S) (Sums.bl T)))) ∧ w' = w := by
  have HC := Hid.mk' (rOrder_any S T w hS hT)
  have h3 := cm_three (Sums.bl S) (Sums.bl T)
  generalize cmF (Sums.bl S) (Sums.bl T) = c at HC h3 ⊢
  clear hS hT
  rcases h3 with rfl | rfl | rfl
  · go_enter Tryz.func24, Tryz.ntmps24
    go_wp2_with fail
    refine HC.out.mono ?_
    rintro e w1 ⟨rfl, hb⟩
    have HB := Hid.mk' hb
    clear hb
    go_wp2_with fail
    go_ret
    exact ⟨rfl, HB.out⟩
  · go_enter Tryz.func24, Tryz.ntmps24
    go_wp2_with fail
    refine HC.out.mono ?_
    rintro e w1 ⟨rfl, hb⟩
    have HB := Hid.mk' hb
    clear hb
    go_wp2_with fail
    go_ret
    exact ⟨rfl, HB.out⟩
  · go_enter Tryz.func24, Tryz.ntmps24
    go_wp2_with fail
    refine HC.out.mono ?_
    rintro e w1 ⟨rfl, hb⟩
    have HB := Hid.mk' hb
    clear hb
    go_wp2_with fail
    go_ret
    exact ⟨rfl, HB.out⟩
set_option maxRecDepth 100000 in
set_option maxHeartbeats 8000000 in
theorem rIs_2 (S T : ByteArray) (w : World) (hS : S.size ≤ 281474976710656) (hT : T.size ≤ 281474976710656) : Calls Tryz.prog 24 #[.string S, .int .i64 2, .string T] w fun e w' => e = .returned (.bool (isC 2 (cmF (Sums.bl S) (Sums.bl T)))) ∧ w' = w := by
  have HC := Hid.mk' (rOrder_any S T w hS hT)
  have h3 := cm_three (Sums.bl S) (Sums.bl T)
  generalize cmF (Sums.bl S) (Sums.bl T) = c at HC h3 ⊢
  clear hS hT
  rcases h3 with rfl | rfl | rfl
  · go_enter Tryz.func24, Tryz.ntmps24
    go_wp2_with fail
    refine HC.out.mono ?_
    rintro e w1 ⟨rfl, hb⟩
    have HB := Hid.mk' hb
    clear hb
    go_wp2_with fail
    go_ret
    exact ⟨rfl, HB.out⟩
  · go_enter Tryz.func24, Tryz.ntmps24
    go_wp2_with fail
    refine HC.out.mono ?_
    rintro e w1 ⟨rfl, hb⟩
    have HB := Hid.mk' hb
    clear hb
    go_wp2_with fail
    go_ret
    exact ⟨rfl, HB.out⟩
  · go_enter Tryz.func24, Tryz.ntmps24
    go_wp2_with fail
    refine HC.out.mono ?_
    rintro e w1 ⟨rfl, hb⟩
    have HB := Hid.mk' hb
    clear hb
    go_wp2_with fail
    go_ret
    exact ⟨rfl, HB.out⟩
set_option maxRecDepth 100000 in
set_option maxHeartbeats 8000000 in
theorem rIs_3 (S T : ByteArray) (w : World) (hS : S.size ≤ 281474976710656) (hT : T.size ≤ 281474976710656) : Calls Tryz.prog 24 #[.string S, .int .i64 3, .string T] w fun e w' => e = .returned (.bool (isC 3 (cmF (Sums.bl S) (Sums.bl T)))) ∧ w' = w := by
  have HC := Hid.mk' (rOrder_any S T w hS hT)
  have h3 := cm_three (Sums.bl S) (Sums.bl T)
  generalize cmF (Sums.bl S) (Sums.bl T) = c at HC h3 ⊢
  clear hS hT
  rcases h3 with rfl | rfl | rfl
  · go_enter Tryz.func24, Tryz.ntmps24
    go_wp2_with fail
    refine HC.out.mono ?_
    rintro e w1 ⟨rfl, hb⟩
    have HB := Hid.mk' hb
    clear hb
    go_wp2_with fail
    go_ret
    exact ⟨rfl, HB.out⟩
  · go_enter Tryz.func24, Tryz.ntmps24
    go_wp2_with fail
    refine HC.out.mono ?_
    rintro e w1 ⟨rfl, hb⟩
    have HB := Hid.mk' hb
    clear hb
    go_wp2_with fail
    go_ret
    exact ⟨rfl, HB.out⟩
  · go_enter Tryz.func24, Tryz.ntmps24
    go_wp2_with fail
    refine HC.out.mono ?_
    rintro e w1 ⟨rfl, hb⟩
    have HB := Hid.mk' hb
    clear hb
    go_wp2_with fail
    go_ret
    exact ⟨rfl, HB.out⟩
set_option maxRecDepth 100000 in
set_option maxHeartbeats 8000000 in
theorem rIs_4 (S T : ByteArray) (w : World) (hS : S.size ≤ 281474976710656) (hT : T.size ≤ 281474976710656) : Calls Tryz.prog 24 #[.string S, .int .i64 4, .string T] w fun e w' => e = .returned (.bool (isC 4 (cmF (Sums.bl S) (Sums.bl T)))) ∧ w' = w := by
  have HC := Hid.mk' (rOrder_any S T w hS hT)
  have h3 := cm_three (Sums.bl S) (Sums.bl T)
  generalize cmF (Sums.bl S) (Sums.bl T) = c at HC h3 ⊢
  clear hS hT
  rcases h3 with rfl | rfl | rfl
  · go_enter Tryz.func24, Tryz.ntmps24
    go_wp2_with fail
    refine HC.out.mono ?_
    rintro e w1 ⟨rfl, hb⟩
    have HB := Hid.mk' hb
    clear hb
    go_wp2_with fail
    go_ret
    exact ⟨rfl, HB.out⟩
  · go_enter Tryz.func24, Tryz.ntmps24
    go_wp2_with fail
    refine HC.out.mono ?_
    rintro e w1 ⟨rfl, hb⟩
    have HB := Hid.mk' hb
    clear hb
    go_wp2_with fail
    go_ret
    exact ⟨rfl, HB.out⟩
  · go_enter Tryz.func24, Tryz.ntmps24
    go_wp2_with fail
    refine HC.out.mono ?_
    rintro e w1 ⟨rfl, hb⟩
    have HB := Hid.mk' hb
    clear hb
    go_wp2_with fail
    go_ret
    exact ⟨rfl, HB.out⟩
set_option maxRecDepth 100000 in
set_option maxHeartbeats 8000000 in
theorem rIs_5 (S T : ByteArray) (w : World) (hS : S.size ≤ 281474976710656) (hT : T.size ≤ 281474976710656) : Calls Tryz.prog 24 #[.string S, .int .i64 5, .string T] w fun e w' => e = .returned (.bool (isC 5 (cmF (Sums.bl S) (Sums.bl T)))) ∧ w' = w := by
  have HC := Hid.mk' (rOrder_any S T w hS hT)
  have h3 := cm_three (Sums.bl S) (Sums.bl T)
  generalize cmF (Sums.bl S) (Sums.bl T) = c at HC h3 ⊢
  clear hS hT
  rcases h3 with rfl | rfl | rfl
  · go_enter Tryz.func24, Tryz.ntmps24
    go_wp2_with fail
    refine HC.out.mono ?_
    rintro e w1 ⟨rfl, hb⟩
    have HB := Hid.mk' hb
    clear hb
    go_wp2_with fail
    go_ret
    exact ⟨rfl, HB.out⟩
  · go_enter Tryz.func24, Tryz.ntmps24
    go_wp2_with fail
    refine HC.out.mono ?_
    rintro e w1 ⟨rfl, hb⟩
    have HB := Hid.mk' hb
    clear hb
    go_wp2_with fail
    go_ret
    exact ⟨rfl, HB.out⟩
  · go_enter Tryz.func24, Tryz.ntmps24
    go_wp2_with fail
    refine HC.out.mono ?_
    rintro e w1 ⟨rfl, hb⟩
    have HB := Hid.mk' hb
    clear hb
    go_wp2_with fail
    go_ret
    exact ⟨rfl, HB.out⟩
set_option maxRecDepth 100000 in
set_option maxHeartbeats 8000000 in
theorem rIs_6 (S T : ByteArray) (w : World) (hS : S.size ≤ 281474976710656) (hT : T.size ≤ 281474976710656) : Calls Tryz.prog 24 #[.string S, .int .i64 6, .string T] w fun e w' => e = .returned (.bool (isC 6 (cmF (Sums.bl S) (Sums.bl T)))) ∧ w' = w := by
  have HC := Hid.mk' (rOrder_any S T w hS hT)
  have h3 := cm_three (Sums.bl S) (Sums.bl T)
  generalize cmF (Sums.bl S) (Sums.bl T) = c at HC h3 ⊢
  clear hS hT
  rcases h3 with rfl | rfl | rfl
  · go_enter Tryz.func24, Tryz.ntmps24
    go_wp2_with fail
    refine HC.out.mono ?_
    rintro e w1 ⟨rfl, hb⟩
    have HB := Hid.mk' hb
    clear hb
    go_wp2_with fail
    go_ret
    exact ⟨rfl, HB.out⟩
  · go_enter Tryz.func24, Tryz.ntmps24
    go_wp2_with fail
    refine HC.out.mono ?_
    rintro e w1 ⟨rfl, hb⟩
    have HB := Hid.mk' hb
    clear hb
    go_wp2_with fail
    go_ret
    exact ⟨rfl, HB.out⟩
  · go_enter Tryz.func24, Tryz.ntmps24
    go_wp2_with fail
    refine HC.out.mono ?_
    rintro e w1 ⟨rfl, hb⟩
    have HB := Hid.mk' hb
    clear hb
    go_wp2_with fail
    go_ret
    exact ⟨rfl, HB.out⟩
set_option maxRecDepth 100000 in
set_option maxHeartbeats 8000000 in
theorem rIs_other (S T : ByteArray) (op : Int) (w : World) (hS : S.size ≤ 281474976710656) (hT : T.size ≤ 281474976710656) (h : op < 1 ∨ 7 < op) : Calls Tryz.prog 24 #[.string S, .int .i64 op, .string T] w fun e w' => e = .returned (.bool false) ∧ w' = w := by
  have HC := Hid.mk' (rOrder_any S T w hS hT)
  generalize cmF (Sums.bl S) (Sums.bl T) = c at HC ⊢
  have e1 : (op == 1) = false := beq_eq_false_iff_ne.2 (by omega)
  have n1 : ¬ op = 1 := by omega
  have e2 : (op == 2) = false := beq_eq_false_iff_ne.2 (by omega)
  have n2 : ¬ op = 2 := by omega
  have e3 : (op == 3) = false := beq_eq_false_iff_ne.2 (by omega)
  have n3 : ¬ op = 3 := by omega
  have e4 : (op == 4) = false := beq_eq_false_iff_ne.2 (by omega)
  have n4 : ¬ op = 4 := by omega
  have e5 : (op == 5) = false := beq_eq_false_iff_ne.2 (by omega)
  have n5 : ¬ op = 5 := by omega
  have e6 : (op == 6) = false := beq_eq_false_iff_ne.2 (by omega)
  have n6 : ¬ op = 6 := by omega
  have e7 : (op == 7) = false := beq_eq_false_iff_ne.2 (by omega)
  have n7 : ¬ op = 7 := by omega
  clear h hS hT
  go_enter Tryz.func24, Tryz.ntmps24
  go_wp2_with fail
  refine HC.out.mono ?_
  rintro e w1 ⟨rfl, hb⟩
  have HB := Hid.mk' hb
  clear hb
  go_wp2_with fail
  go_ret
  exact ⟨rfl, HB.out⟩
set_option maxRecDepth 100000 in
set_option maxHeartbeats 8000000 in
theorem rIs_7 (S T : ByteArray) (w : World) (hS : S.size ≤ 281474976710656) (hT : T.size ≤ 281474976710656) : Calls Tryz.prog 24 #[.string S, .int .i64 7, .string T] w fun e w' => e = .returned (.bool (Lib.contains S.data.toList T.data.toList)) ∧ w' = w := by
  have HC := Hid.mk' (rOrder_any S T w hS hT)
  have hSI : (S.size : Int) ≤ 281474976710656 := by omega
  have hTI : (T.size : Int) ≤ 281474976710656 := by omega
  have HYES : Hid (∀ j, j ≤ S.size → Lib.occAt S.data.toList T.data.toList j = true → Lib.contains S.data.toList T.data.toList = true) := Hid.mk' (fun j hj h => has_yes _ _ j (by rw [dl]; exact hj) h)
  have HNO : Hid (∀ j, (∀ i, i < j → Lib.occAt S.data.toList T.data.toList i = false) → S.size < j + T.size → Lib.contains S.data.toList T.data.toList = false) := Hid.mk' (fun j h hl => has_no _ _ j h (by rw [dl, dl]; exact hl))
  have HOC : Hid (∀ j, Lib.occAt S.data.toList T.data.toList j = ((S.extract j (j + T.size)).toList == T.toList)) := Hid.mk' (oc_eq S T)
  generalize cmF (Sums.bl S) (Sums.bl T) = c at HC ⊢
  generalize Lib.contains S.data.toList T.data.toList = r at *
  obtain ⟨oc, hoc⟩ : ∃ oc : Nat → Bool, Lib.occAt S.data.toList T.data.toList = oc := ⟨_, rfl⟩
  rw [hoc] at HYES HNO HOC
  clear hS hT hoc
  go_enter Tryz.func24, Tryz.ntmps24
  go_wp2_with fail
  refine HC.out.mono ?_
  rintro e w1 ⟨rfl, hb⟩
  have HB := Hid.mk' hb
  clear hb HC
  go_wp2_with fail
  go_loopw [8] (fun iv wr => ∃ j : Nat, iv = .int .i64 (j : Int) ∧ j ≤ S.size + 1 ∧ Hid (∀ i, i < j → oc i = false) ∧ Hid (wr = w)) (fun iv _ => S.size + 2 - (intOf iv).toNat)
  case atStart => exact ⟨0, by simp, by omega, fun i hi => by omega, HB⟩
  case round =>
    obtain ⟨j, rfl, hj, HN, HW⟩ := hrel
    rename World => wr
    clear HB
    by_cases hjl : j + T.size ≤ S.size
    · have hjI : (j : Int) + (T.size : Int) ≤ (S.size : Int) := by omega
      have d1 : decide ((j : Int) + (T.size : Int) ≤ (S.size : Int)) = true := decide_eq_true hjI
      have hsl := sl_runA S j T.size hjl
      have hoc := HOC.out j
      cases ho : oc j
      · rw [ho] at hoc
        have HN2 : Hid (∀ i, i < j + 1 → oc i = false) := Hid.mk' (fun i hi => by
          rcases (show i < j ∨ i = j by omega) with h | h
          · exact HN.out i h
          · rw [h]; exact ho)
        have h2 : ((S.extract j (j + T.size)).toList == T.toList) = false := hoc.symm
        have h3 : decide ((S.extract j (j + T.size)).toList = T.toList) = false := by rw [← h2, Bool.eq_iff_iff]; simp
        clear hoc ho
        generalize S.extract j (j + T.size) = E at hsl h2 h3
        go_wp2_with fail
        go_roundw
        case rel => exact ⟨j + 1, by simp, by omega, HN2, HW⟩
        case measure => simp [intOf]; omega
      · rw [ho] at hoc
        have hr : r = true := HYES.out j (by omega) ho
        have h2 : ((S.extract j (j + T.size)).toList == T.toList) = true := hoc.symm
        have h3 : decide ((S.extract j (j + T.size)).toList = T.toList) = true := by rw [← h2, Bool.eq_iff_iff]; simp
        subst hr
        clear hoc ho
        generalize S.extract j (j + T.size) = E at hsl h2 h3
        go_wp2_with fail
        go_ret
        exact ⟨rfl, HW.out⟩
    · have d1 : decide ((j : Int) + (T.size : Int) ≤ (S.size : Int)) = false := decide_eq_false (by omega)
      have hjI : ¬ (j : Int) + (T.size : Int) ≤ (S.size : Int) := by omega
      have hr : r = false := HNO.out j HN.out (by omega)
      subst hr
      go_wp2_with fail
      go_ret
      exact ⟨rfl, HW.out⟩
end Go.Proofs.YtacbmpjpindepaaGreatDoor
