/-
  The walk of the law CodeAgain: whatever bytes it is given it returns true, and of what was there nothing turns. Conditions: a text no longer than a text that is read can be.
-/
import Derived.Test.YthmaaeibdcoemaaKnown
namespace Go.Proofs.Ythmaaeibdcoemaa
open Go.RowKit
set_option linter.unusedVariables false
theorem again_uint (s : ByteArray) (h : (rdAt s 0).2.1 = 0) : nums (Code.uint (rdAt s 0).1) = s.extract 0 (rdAt s 0).2.2 := by
  have h1 := Code.rd_ok ((Sums.bl s).drop 0) (byt_drop s 0) h
  have e : Code.uint (rdAt s 0).1 = (Sums.bl s).take (rdAt s 0).2.2 := h1.1
  have h2 : (rdAt s 0).1 < 18446744073709551616 := h1.2.2
  refine Sums.bl_inj ?_
  rw [bl_nums _ (Code.uint_byt _ h2), Sums.bl_take, e]
theorem again_text (s : ByteArray) (n k : Nat) (hn : k + n ≤ s.size) (h : nums (Code.uint n) = s.extract 0 k) : nums (Code.uint (s.extract k (k + n)).size) ++ s.extract k (k + n) = s.extract 0 (k + n) := by
  rw [ByteArray.size_extract, show min (k + n) s.size - k = n by omega, h]
  refine Sums.bl_inj ?_
  rw [Sums.bl_append, Sums.bl_take, Sums.bl_extract, Sums.bl_take, List.take_add, List.drop_append_of_le_length (by rw [List.length_take, Sums.bl_length]; omega), List.drop_take_self, List.nil_append]
theorem eqb_self (b : Bool) (w : World) : (binOp .eql 4 (.bool b) (.bool b)).run Try.prog w = .ok (.bool true) w := by
  cases b <;> kernel_rfl
set_option maxRecDepth 100000 in
set_option maxHeartbeats 4000000 in
theorem codeAgain_any (s : ByteArray) (w : World) (hs : s.size ≤ 140737488351232) :
    Calls Try.prog 7 #[.string s] w fun e w' => e = .returned (.bool true) ∧ Below w.heap.size w w' := by
  have hnot : ∀ (x : Bool) (w : World), (Op.unary .not (.bool x)).run Try.prog w = .ok (.bool (!x)) w := fun _ _ => rfl
  have HLT := Hid.mk' (rdAt_lt s 0 (by omega))
  go_enter Try.func7, Try.ntmps7
  go_wp2_with fail
  refine (known_any w).mono ?_
  rintro e w1 ⟨rfl, hb1⟩
  have HB1 := Hid.mk' hb1
  clear hb1
  go_wp2_with fail
  refine (read_any s w1).mono ?_
  rintro e w2 ⟨g1, hg1, rfl, hr1, hb2⟩
  have HB2 : Hid (Below w.heap.size w w2) := HB1.out.trans (hb2.mono HB1.out.size)
  have HG1 : Hid (w.heap.size ≤ g1) := Nat.le_trans HB1.out.size hg1
  clear hb2 hg1
  go_wp2_with fail
  refine (read_any s w2).mono ?_
  rintro e w3 ⟨g2, hg2, rfl, hr2, hb3⟩
  have HB3 : Hid (Below w.heap.size w w3) := HB2.out.trans (hb3.mono HB2.out.size)
  have HG2 : Hid (w.heap.size ≤ g2) := Nat.le_trans HB2.out.size hg2
  have HN12 : Hid (g1 ≠ g2) := by unfold Hid; have := hr1.lt; omega
  have hr1' := hr1.below hb3 hr1.lt
  clear hb3 hg2 hr1
  go_wp2_with fail
  refine (read_any s w3).mono ?_
  rintro e w4 ⟨g3, hg3, rfl, hr3, hb4⟩
  have HB4 : Hid (Below w.heap.size w w4) := HB3.out.trans (hb4.mono HB3.out.size)
  have HG3 : Hid (w.heap.size ≤ g3) := Nat.le_trans HB3.out.size hg3
  have HN13 : Hid (g1 ≠ g3 ∧ g2 ≠ g3) := by unfold Hid; have := hr1'.lt; have := hr2.lt; omega
  have HRA := Hid.mk' (hr1'.below hb4 hr1'.lt)
  have HRB := Hid.mk' (hr2.below hb4 hr2.lt)
  have HRC := Hid.mk' hr3
  clear hb4 hg3 hr1' hr2 hr3 HB1 HB2 HB3
  go_wp2_with fail
  refine (ruint_any g1 s 0 w4 HRA.out (by omega) (by omega)).mono ?_
  rintro e w5 ⟨rfl, hrA, hoA⟩
  have HB5 : Hid (Below w.heap.size w w5) := HB4.out.trans (hoA.below HG1.out HB4.out.size)
  have HRB5 := Hid.mk' (HRB.out.other hoA HN12.out.symm)
  have HRC5 := Hid.mk' (HRC.out.other hoA HN13.out.1.symm)
  have HRA5 := Hid.mk' hrA
  clear hrA hoA HRA HRB HRC HB4
  go_wp2_with fail
  refine (rint_any g2 s 0 w5 HRB5.out (by omega) (by omega)).mono ?_
  rintro e w6 ⟨rfl, hrB, hoB⟩
  have HB6 : Hid (Below w.heap.size w w6) := HB5.out.trans (hoB.below HG2.out HB5.out.size)
  have HRA6 := Hid.mk' (HRA5.out.other hoB HN12.out)
  have HRC6 := Hid.mk' (HRC5.out.other hoB HN13.out.2.symm)
  have HRB6 := Hid.mk' hrB
  clear hrB hoB HRA5 HRB5 HRC5 HB5
  go_wp2_with fail
  refine (rtext_any g3 s 0 w6 HRC6.out (by omega) (by omega)).mono ?_
  rintro e W ⟨rfl, hrC, hoC⟩
  have HB : Hid (Below w.heap.size w W) := HB6.out.trans (hoC.below HG3.out HB6.out.size)
  have HRA := Hid.mk' (HRA6.out.other hoC HN13.out.1)
  have HRB := Hid.mk' (HRB6.out.other hoC HN13.out.2)
  have HRC := Hid.mk' hrC
  clear hrC hoC HRA6 HRB6 HRC6 HB6
  rw [Nat.zero_add] at HRA HRB HRC
  by_cases hE : (rdAt s 0).2.1 = 0
  · have HU := Hid.mk' (again_uint s hE)
    by_cases hT : s.size - (0 + (rdAt s 0).2.2) < (rdAt s 0).1
    · have HTR : Hid (textR s 0 = (⟨#[]⟩, 30, 0)) := by unfold Hid textR; rw [if_neg (by omega), if_pos hT]
      rw [HTR.out] at HRC ⊢
      rw [hE]
      obtain ⟨n, HN⟩ : ∃ n, Hid (n = (rdAt s 0).1) := ⟨_, Hid.mk' rfl⟩
      obtain ⟨k, HK⟩ : ∃ k, Hid (k = (rdAt s 0).2.2) := ⟨_, Hid.mk' rfl⟩
      rw [← HN.out, ← HK.out] at HLT HU
      rw [← HN.out]
      rw [← HK.out] at HRA HRB
      have hk1 : ¬ (s.size : Int) < (k : Int) := by have := HLT.out; omega
      have hk2 : ¬ (k : Int) < 0 := by omega
      have hk3 : (0 : Int) ≤ (k : Int) := by omega
      have hk4 : (k : Int) ≤ (s.size : Int) := by omega
      have HZ := Hid.mk' (Code.zig_zag n)
      have HZB : Hid (-9223372036854775808 ≤ Code.zag n ∧ Code.zag n ≤ 9223372036854775807) := by unfold Hid Code.zag; have := HLT.out.1; split <;> omega
      obtain ⟨z, HZZ⟩ : ∃ z, Hid (z = Code.zag n) := ⟨_, Hid.mk' rfl⟩
      rw [← HZZ.out] at HZ HZB ⊢
      clear hE hT HK HN HTR
      simp only [Int.cast_ofNat_Int]
      go_wp2_with fail
      refine (at_any g3 s 0 W HRC.out).mono ?_
      rintro e w' ⟨rfl, hw'⟩
      rw [hw']
      clear hw' w'
      go_wp2_with fail
      refine (at_any g1 s k W HRA.out).mono ?_
      rintro e w' ⟨rfl, hw'⟩
      rw [hw']
      clear hw' w'
      go_wp2_with fail
      refine (at_any g1 s k W HRA.out).mono ?_
      rintro e w' ⟨rfl, hw'⟩
      rw [hw']
      clear hw' w'
      go_wp2_with fail
      refine (at_any g2 s k W HRB.out).mono ?_
      rintro e w' ⟨rfl, hw'⟩
      rw [hw']
      clear hw' w'
      go_wp2_with fail
      refine (at_any g2 s k W HRB.out).mono ?_
      rintro e w' ⟨rfl, hw'⟩
      rw [hw']
      clear hw' w'
      go_wp2_with fail
      refine (at_any g3 s 0 W HRC.out).mono ?_
      rintro e w' ⟨rfl, hw'⟩
      rw [hw']
      clear hw' w'
      go_wp2_with fail
      refine (at_any g3 s 0 W HRC.out).mono ?_
      rintro e w' ⟨rfl, hw'⟩
      rw [hw']
      clear hw' w'
      go_wp2_with fail
      have HBW := HB
      have HRAW := HRA
      have HRBW := HRB
      have HRCW := HRC
      refine (uint_any n W HLT.out.1).mono ?_
      rintro e X ⟨rfl, hbo⟩
      rw [HU.out]
      have HBX : Hid (Below w.heap.size w X) := HBW.out.trans (hbo.mono HBW.out.size)
      have HRAX := Hid.mk' (HRAW.out.below hbo HRAW.out.lt)
      have HRBX := Hid.mk' (HRBW.out.below hbo HRBW.out.lt)
      have HRCX := Hid.mk' (HRCW.out.below hbo HRCW.out.lt)
      clear hbo
      go_wp2_with fail
      refine (at_any g1 s k X HRAX.out).mono ?_
      rintro e w' ⟨rfl, hw'⟩
      rw [hw']
      clear hw' w'
      go_wp2_with fail
      refine (int_any z X HZB.out.1 HZB.out.2).mono ?_
      rintro e Y ⟨rfl, hbo⟩
      rw [HZ.out, HU.out]
      have HBY : Hid (Below w.heap.size w Y) := HBX.out.trans (hbo.mono HBX.out.size)
      have HRAY := Hid.mk' (HRAX.out.below hbo HRAX.out.lt)
      have HRBY := Hid.mk' (HRBX.out.below hbo HRBX.out.lt)
      have HRCY := Hid.mk' (HRCX.out.below hbo HRCX.out.lt)
      clear hbo
      go_wp2_with fail
      refine (at_any g2 s k Y HRBY.out).mono ?_
      rintro e w' ⟨rfl, hw'⟩
      rw [hw']
      clear hw' w'
      go_wp2_with fail
      go_ret
      exact ⟨rfl, HBY.out⟩
    · have HTR : Hid (textR s 0 = (s.extract (rdAt s 0).2.2 ((rdAt s 0).2.2 + (rdAt s 0).1), 0, (rdAt s 0).2.2 + (rdAt s 0).1)) := by unfold Hid textR; rw [if_neg (by omega), if_neg hT, Nat.zero_add]
      have HT2 : Hid ((rdAt s 0).2.2 + (rdAt s 0).1 ≤ s.size) := by unfold Hid; have := HLT.out; omega
      rw [HTR.out] at HRC ⊢
      rw [hE]
      obtain ⟨n, HN⟩ : ∃ n, Hid (n = (rdAt s 0).1) := ⟨_, Hid.mk' rfl⟩
      obtain ⟨k, HK⟩ : ∃ k, Hid (k = (rdAt s 0).2.2) := ⟨_, Hid.mk' rfl⟩
      rw [← HN.out, ← HK.out] at HLT HU HRC HT2 ⊢
      rw [← HK.out] at HRA HRB
      have HX := Hid.mk' (again_text s n k HT2.out HU.out)
      obtain ⟨x, HXX⟩ : ∃ x, Hid (x = s.extract k (k + n)) := ⟨_, Hid.mk' rfl⟩
      have HXS : Hid (x.size ≤ 1125899906842624) := by unfold Hid; rw [HXX.out, ByteArray.size_extract]; omega
      rw [← HXX.out] at HX ⊢
      obtain ⟨m, HM⟩ : ∃ m, Hid (m = k + n) := ⟨_, Hid.mk' rfl⟩
      rw [← HM.out] at HX HRC HT2
      have hk1 : ¬ (s.size : Int) < (k : Int) := by have := HLT.out; omega
      have hk2 : ¬ (k : Int) < 0 := by omega
      have hk3 : (0 : Int) ≤ (k : Int) := by omega
      have hk4 : (k : Int) ≤ (s.size : Int) := by omega
      have hm1 : ¬ (s.size : Int) < (m : Int) := by have := HT2.out; omega
      have hm2 : ¬ (m : Int) < 0 := by omega
      have hm3 : (0 : Int) ≤ (m : Int) := by omega
      have hm4 : (m : Int) ≤ (s.size : Int) := by omega
      have HZ := Hid.mk' (Code.zig_zag n)
      have HZB : Hid (-9223372036854775808 ≤ Code.zag n ∧ Code.zag n ≤ 9223372036854775807) := by unfold Hid Code.zag; have := HLT.out.1; split <;> omega
      obtain ⟨z, HZZ⟩ : ∃ z, Hid (z = Code.zag n) := ⟨_, Hid.mk' rfl⟩
      rw [← HZZ.out] at HZ HZB ⊢
      clear hE hT HK HN HTR HM HXX
      simp only [Int.cast_ofNat_Int]
      go_wp2_with fail
      refine (at_any g1 s k W HRA.out).mono ?_
      rintro e w' ⟨rfl, hw'⟩
      rw [hw']
      clear hw' w'
      go_wp2_with fail
      refine (at_any g1 s k W HRA.out).mono ?_
      rintro e w' ⟨rfl, hw'⟩
      rw [hw']
      clear hw' w'
      go_wp2_with fail
      refine (at_any g2 s k W HRB.out).mono ?_
      rintro e w' ⟨rfl, hw'⟩
      rw [hw']
      clear hw' w'
      go_wp2_with fail
      refine (at_any g2 s k W HRB.out).mono ?_
      rintro e w' ⟨rfl, hw'⟩
      rw [hw']
      clear hw' w'
      go_wp2_with fail
      refine (at_any g3 s m W HRC.out).mono ?_
      rintro e w' ⟨rfl, hw'⟩
      rw [hw']
      clear hw' w'
      go_wp2_with fail
      refine (at_any g3 s m W HRC.out).mono ?_
      rintro e w' ⟨rfl, hw'⟩
      rw [hw']
      clear hw' w'
      go_wp2_with fail
      have HBW := HB
      have HRAW := HRA
      have HRBW := HRB
      have HRCW := HRC
      refine (uint_any n W HLT.out.1).mono ?_
      rintro e X ⟨rfl, hbo⟩
      rw [HU.out]
      have HBX : Hid (Below w.heap.size w X) := HBW.out.trans (hbo.mono HBW.out.size)
      have HRAX := Hid.mk' (HRAW.out.below hbo HRAW.out.lt)
      have HRBX := Hid.mk' (HRBW.out.below hbo HRBW.out.lt)
      have HRCX := Hid.mk' (HRCW.out.below hbo HRCW.out.lt)
      clear hbo
      go_wp2_with fail
      refine (at_any g1 s k X HRAX.out).mono ?_
      rintro e w' ⟨rfl, hw'⟩
      rw [hw']
      clear hw' w'
      go_wp2_with fail
      refine (int_any z X HZB.out.1 HZB.out.2).mono ?_
      rintro e Y ⟨rfl, hbo⟩
      rw [HZ.out, HU.out]
      have HBY : Hid (Below w.heap.size w Y) := HBX.out.trans (hbo.mono HBX.out.size)
      have HRAY := Hid.mk' (HRAX.out.below hbo HRAX.out.lt)
      have HRBY := Hid.mk' (HRBX.out.below hbo HRBX.out.lt)
      have HRCY := Hid.mk' (HRCX.out.below hbo HRCX.out.lt)
      clear hbo
      go_wp2_with fail
      refine (at_any g2 s k Y HRBY.out).mono ?_
      rintro e w' ⟨rfl, hw'⟩
      rw [hw']
      clear hw' w'
      go_wp2_with fail
      refine (text_any x Y HXS.out).mono ?_
      rintro e V ⟨rfl, hbo⟩
      rw [HX.out]
      have HBV : Hid (Below w.heap.size w V) := HBY.out.trans (hbo.mono HBY.out.size)
      have HRAV := Hid.mk' (HRAY.out.below hbo HRAY.out.lt)
      have HRBV := Hid.mk' (HRBY.out.below hbo HRBY.out.lt)
      have HRCV := Hid.mk' (HRCY.out.below hbo HRCY.out.lt)
      clear hbo
      go_wp2_with fail
      refine (at_any g3 s m V HRCV.out).mono ?_
      rintro e w' ⟨rfl, hw'⟩
      rw [hw']
      clear hw' w'
      go_wp2_with fail
      go_ret
      exact ⟨rfl, HBV.out⟩
  · have HER := Hid.mk' (Code.rd_err _ hE)
    have HTR : Hid (textR s 0 = (⟨#[]⟩, (rdAt s 0).2.1, 0)) := by unfold Hid textR; rw [if_pos hE]
    have e1 : (rdAt s 0).1 = 0 := HER.out.1
    have e2 : (rdAt s 0).2.2 = 0 := HER.out.2
    rw [HTR.out] at HRC ⊢
    rw [e1]
    rw [e2] at HRA HRB
    obtain ⟨E, HE⟩ : ∃ E, Hid (E = (rdAt s 0).2.1) := ⟨_, Hid.mk' rfl⟩
    rw [← HE.out] at hE ⊢
    have z0 : Code.zag 0 = 0 := by decide
    rw [z0]
    have q1 : ((E : Int) != 0) = true := by simp; exact hE
    have q2 : ((E : Int) == 0) = false := beq_eq_false_iff_ne.2 (by omega)
    have q3 : ¬ (s.size : Int) < 0 := by omega
    clear hE e1 e2 z0 HER HTR HE
    simp only [Int.cast_ofNat_Int]
    go_wp2_with fail
    refine (at_any g1 s 0 W HRA.out).mono ?_
    rintro e w' ⟨rfl, hw'⟩
    rw [hw']
    clear hw' w'
    go_wp2_with fail
    refine (at_any g2 s 0 W HRB.out).mono ?_
    rintro e w' ⟨rfl, hw'⟩
    rw [hw']
    clear hw' w'
    go_wp2_with fail
    refine (at_any g3 s 0 W HRC.out).mono ?_
    rintro e w' ⟨rfl, hw'⟩
    rw [hw']
    clear hw' w'
    go_wp2_with fail
    refine (at_any g1 s 0 W HRA.out).mono ?_
    rintro e w' ⟨rfl, hw'⟩
    rw [hw']
    clear hw' w'
    go_wp2_with fail
    refine (at_any g1 s 0 W HRA.out).mono ?_
    rintro e w' ⟨rfl, hw'⟩
    rw [hw']
    clear hw' w'
    go_wp2_with fail
    refine (at_any g2 s 0 W HRB.out).mono ?_
    rintro e w' ⟨rfl, hw'⟩
    rw [hw']
    clear hw' w'
    go_wp2_with fail
    refine (at_any g2 s 0 W HRB.out).mono ?_
    rintro e w' ⟨rfl, hw'⟩
    rw [hw']
    clear hw' w'
    go_wp2_with fail
    refine (at_any g3 s 0 W HRC.out).mono ?_
    rintro e w' ⟨rfl, hw'⟩
    rw [hw']
    clear hw' w'
    go_wp2_with fail
    refine (at_any g3 s 0 W HRC.out).mono ?_
    rintro e w' ⟨rfl, hw'⟩
    rw [hw']
    clear hw' w'
    go_wp2_with fail
    go_ret
    exact ⟨rfl, HB.out⟩
end Go.Proofs.Ythmaaeibdcoemaa
