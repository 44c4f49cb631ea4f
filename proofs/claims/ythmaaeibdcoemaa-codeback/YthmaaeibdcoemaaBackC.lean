/-
  What the law's read does where the thing's bytes stand. Conditions: as it says.
-/
import Derived.Test.YthmaaeibdcoemaaBackB
import Derived.Deep.DrawnRows
namespace Go.Proofs.Ythmaaeibdcoemaa
open Go.RowKit
attribute [local go_sem ↓] Go.wp_at_zero Go.wp_at_succ
set_option linter.unusedVariables false
set_option maxRecDepth 100000 in
set_option maxHeartbeats 1000000 in
theorem lawRead_any (g : Nat) (S : ByteArray) (a : Nat) (A Q : List Nat) (k : Int) (n : Nat) (i : Int) (s : ByteArray) (d : Int) (w : World) (hr : Rdr g S a w) (hS : Sums.bl S = A ++ (Sums.bl (thg k n i s d) ++ Q)) (hA : A.length = a) (hz : S.size ≤ 281474976710656)
    (hk0 : -9223372036854775808 ≤ k) (hk1 : k ≤ 9223372036854775807) (hn : n < 18446744073709551616) (h0 : -9223372036854775808 ≤ i) (h1 : i ≤ 9223372036854775807) (hs : s.size ≤ 1125899906842624) (hd0 : -9223372036854775808 ≤ d) (hd1 : d ≤ 9223372036854775807) :
    Calls Try.prog 29 #[.pointer (some ⟨g, 0, none⟩), .agg (thv k n i s d)] w fun e w' => e = .returned (.bool true) ∧ Rdr g S (a + (thg k n i s d).size) w' ∧ Only g w w' := by
  have hp : pickN k 4 = 0 ∨ pickN k 4 = 1 ∨ pickN k 4 = 2 ∨ pickN k 4 = 3 := by unfold pickN; omega
  obtain ⟨W, hW⟩ : ∃ W, W = w.alloc (.cells (thv k n i s d) 52) := ⟨_, rfl⟩
  have hb : Below w.heap.size w W := by rw [hW]; exact (Below.refl _ _).alloc (Nat.le_refl _) _
  have HR := Hid.mk' (hr.below hb hr.lt)
  have HO : Hid (Only g w W) := Only.of_below hb
  have HG : Hid (g < w.heap.size) := hr.lt
  have HZ : Hid (w.heap.size < W.heap.size) := by rw [hW]; show _ < _; simp
  have d0 : W.cell? ⟨w.heap.size, 0, none⟩ = some (.int .i64 k) := by rw [hW]; simp [go_sem, thv]
  have d1 : W.cell? ⟨w.heap.size, 1, none⟩ = some (.int .u64 (n : Int)) := by rw [hW]; simp [go_sem, thv]
  have d2 : W.cell? ⟨w.heap.size, 2, none⟩ = some (.int .i64 i) := by rw [hW]; simp [go_sem, thv]
  have d3 : W.cell? ⟨w.heap.size, 3, none⟩ = some (.string s) := by rw [hW]; simp [go_sem, thv]
  have d4 : W.cell? ⟨w.heap.size, 4, none⟩ = some (.int .i64 d) := by rw [hW]; simp [go_sem, thv]
  have HW := Hid.mk' hW
  have HN := Hid.mk' hn
  have HS := Hid.mk' hs
  have HAL : Hid (a ≤ S.size) := by unfold Hid; rw [← Sums.bl_length, hS, List.length_append]; omega
  have HSZ := Hid.mk' hz
  have HBL := Hid.mk' hS
  have HA := Hid.mk' hA
  clear hW hn hs hb hr hz hS hA
  unfold thv at HW ⊢
  rcases hp with hp | hp | hp | hp
  · have HT : Hid (thg k n i s d = nums (Code.uint n)) := by unfold Hid thg; rw [if_pos hp]
    have HRD : Hid (rdAt S a = (n, 0, (Code.uint n).length)) := rdAt_at (by have h := HBL.out; rw [HT.out, bl_nums _ (Code.uint_byt n HN.out)] at h; exact h) HA.out HN.out
    go_enter Try.func29, Try.ntmps29
    go_wp2_with fail
    rw [← HW.out]
    refine (pick4 k _ hk0 hk1).mono ?_
    rintro e w' ⟨rfl, hw'⟩
    subst hw'
    rw [hp]
    simp only [Int.cast_ofNat_Int]
    go_wp2_with fail
    refine (ruint_any g S a _ HR.out HAL.out (by have := HSZ.out; omega)).mono ?_
    rintro e w1 ⟨rfl, hr1, ho1⟩
    have HR1 := Hid.mk' hr1
    have HO1 := Hid.mk' ho1
    have e0 := (ho1.cell (k := w.heap.size) (o := 0) HZ.out (by have := HG.out; omega)).trans d0
    have e1 := (ho1.cell (k := w.heap.size) (o := 1) HZ.out (by have := HG.out; omega)).trans d1
    have e2 := (ho1.cell (k := w.heap.size) (o := 2) HZ.out (by have := HG.out; omega)).trans d2
    have e3 := (ho1.cell (k := w.heap.size) (o := 3) HZ.out (by have := HG.out; omega)).trans d3
    have e4 := (ho1.cell (k := w.heap.size) (o := 4) HZ.out (by have := HG.out; omega)).trans d4
    clear hr1 ho1
    rw [HRD.out]
    simp only [Int.cast_ofNat_Int]
    go_wp2_with fail
    go_ret
    refine ⟨rfl, ?_, HO.out.trans HO1.out⟩
    rw [HT.out, nums_size]
    have h := HR1.out
    rw [HRD.out] at h
    exact h
  · have HT : Hid (thg k n i s d = nums (Code.uint (Code.zig i))) := by unfold Hid thg; rw [if_neg (by omega), if_pos hp]
    have HZL := Hid.mk' (Code.zig_lt i h0 h1)
    have HRD : Hid (rdAt S a = (Code.zig i, 0, (Code.uint (Code.zig i)).length)) := rdAt_at (by have h := HBL.out; rw [HT.out, bl_nums _ (Code.uint_byt _ HZL.out)] at h; exact h) HA.out HZL.out
    go_enter Try.func29, Try.ntmps29
    go_wp2_with fail
    rw [← HW.out]
    refine (pick4 k _ hk0 hk1).mono ?_
    rintro e w' ⟨rfl, hw'⟩
    subst hw'
    rw [hp]
    simp only [Int.cast_ofNat_Int]
    go_wp2_with fail
    refine (rint_any g S a _ HR.out HAL.out (by have := HSZ.out; omega)).mono ?_
    rintro e w1 ⟨rfl, hr1, ho1⟩
    have HR1 := Hid.mk' hr1
    have HO1 := Hid.mk' ho1
    have e0 := (ho1.cell (k := w.heap.size) (o := 0) HZ.out (by have := HG.out; omega)).trans d0
    have e1 := (ho1.cell (k := w.heap.size) (o := 1) HZ.out (by have := HG.out; omega)).trans d1
    have e2 := (ho1.cell (k := w.heap.size) (o := 2) HZ.out (by have := HG.out; omega)).trans d2
    have e3 := (ho1.cell (k := w.heap.size) (o := 3) HZ.out (by have := HG.out; omega)).trans d3
    have e4 := (ho1.cell (k := w.heap.size) (o := 4) HZ.out (by have := HG.out; omega)).trans d4
    clear hr1 ho1
    rw [HRD.out]
    rw [show Code.zag (Code.zig i, 0, (Code.uint (Code.zig i)).length).1 = i from Code.zag_zig i]
    simp only [Int.cast_ofNat_Int]
    go_wp2_with fail
    go_ret
    refine ⟨rfl, ?_, HO.out.trans HO1.out⟩
    rw [HT.out, nums_size]
    have h := HR1.out
    rw [HRD.out] at h
    exact h
  · have HT : Hid (thg k n i s d = nums (Code.uint (cutT s).size) ++ cutT s) := by unfold Hid thg; rw [if_neg (by omega), if_neg (by omega), if_pos hp]
    have HCS := Hid.mk' (cutT_size s)
    have HRD : Hid (textR S a = (cutT s, 0, (Code.uint (cutT s).size).length + (cutT s).size)) := textR_at (by have h := HBL.out; rw [HT.out, Sums.bl_append, bl_nums _ (Code.uint_byt _ (by have := HCS.out; omega))] at h; exact h) HA.out HCS.out
    have HLT := Hid.mk' (lawText_any k n i s d)
    generalize cutT s = t at *
    go_enter Try.func29, Try.ntmps29
    go_wp2_with fail
    rw [← HW.out]
    refine (pick4 k _ hk0 hk1).mono ?_
    rintro e w' ⟨rfl, hw'⟩
    subst hw'
    rw [hp]
    simp only [Int.cast_ofNat_Int]
    go_wp2_with fail
    refine (rtext_any g S a _ HR.out HAL.out HSZ.out).mono ?_
    rintro e w1 ⟨rfl, hr1, ho1⟩
    have HR1 := Hid.mk' hr1
    have HO1 := Hid.mk' ho1
    have e0 := (ho1.cell (k := w.heap.size) (o := 0) HZ.out (by have := HG.out; omega)).trans d0
    have e1 := (ho1.cell (k := w.heap.size) (o := 1) HZ.out (by have := HG.out; omega)).trans d1
    have e2 := (ho1.cell (k := w.heap.size) (o := 2) HZ.out (by have := HG.out; omega)).trans d2
    have e3 := (ho1.cell (k := w.heap.size) (o := 3) HZ.out (by have := HG.out; omega)).trans d3
    have e4 := (ho1.cell (k := w.heap.size) (o := 4) HZ.out (by have := HG.out; omega)).trans d4
    clear hr1 ho1
    rw [HRD.out]
    simp only [Int.cast_ofNat_Int]
    go_wp2_with fail
    refine (HLT.out w1 HS.out).mono ?_
    rintro e w2 ⟨rfl, hb2⟩
    have HR2 := Hid.mk' (HR1.out.below hb2 HR1.out.lt)
    have HO2 : Hid (Only g w w2) := (HO.out.trans HO1.out).trans (Only.of_below hb2)
    clear hb2
    go_wp2_with fail
    go_ret
    refine ⟨rfl, ?_, HO2.out⟩
    rw [HT.out, ByteArray.size_append, nums_size]
    have h := HR2.out
    rw [HRD.out] at h
    exact h
  · have HT : Hid (thg k n i s d = nums (fixL (fixW d) (fixN n d))) := by unfold Hid thg; rw [if_neg (by omega), if_neg (by omega), if_neg (by omega)]
    have hw8 := fixW_is d
    have HRD : Hid (rfixR S a (fixW d : Int) = (fixN n d, 0, fixW d)) := rfixR_at (by have h := HBL.out; rw [HT.out, bl_nums _ (fixL_byt _ _)] at h; exact h) HA.out hw8.1 hw8.2 (fixN_lt n d)
    have HFN := Hid.mk' (fixN_lt2 n d HN.out)
    have HNS : Hid ((nums (fixL (fixW d) (fixN n d))).size = fixW d) := by unfold Hid; rw [nums_size, fixL_len]
    go_enter Try.func29, Try.ntmps29
    go_wp2_with fail
    rw [← HW.out]
    refine (pick4 k _ hk0 hk1).mono ?_
    rintro e w' ⟨rfl, hw'⟩
    subst hw'
    rw [hp]
    simp only [Int.cast_ofNat_Int]
    go_wp2_with fail
    refine (lawFixed_any k n i s d _ HN.out hd0 hd1).mono ?_
    rintro e w2 ⟨rfl, hb2⟩
    have HR2 := Hid.mk' (HR.out.below hb2 (Nat.lt_trans HG.out HZ.out))
    have HO2 : Hid (Only g w w2) := HO.out.trans (Only.of_below hb2)
    generalize fixN n d = m at *
    generalize fixW d = q at *
    clear hb2
    go_wp2_with fail
    refine (rfix_any g S a q _ HR2.out HAL.out HSZ.out).mono ?_
    rintro e w1 ⟨rfl, hr1, ho1⟩
    have HR1 := Hid.mk' hr1
    have HO1 := Hid.mk' ho1
    clear hr1 ho1
    rw [HRD.out]
    simp only [Int.cast_ofNat_Int]
    go_wp2_with fail
    go_ret
    refine ⟨rfl, ?_, HO2.out.trans HO1.out⟩
    rw [HT.out, HNS.out]
    have h := HR1.out
    rw [HRD.out] at h
    exact h
end Go.Proofs.Ythmaaeibdcoemaa
