/-
  What every law of chapter 18 asks first. Conditions: as it says.
-/
import Derived.Test.YtlplbnlfajdcbaaGreatDoorBkN
namespace Go.Proofs.YtlplbnlfajdcbaaGreatDoor
open Go.RowKit
set_option linter.unusedVariables false
set_option linter.unusedSimpArgs false
theorem exB_fine : Fine exB := ⟨by decide, by decide +kernel, by decide +kernel⟩
theorem exB_pay : payT exB = ⟨#[2, 10, 3, 2, 0, 97, 98]⟩ := by unfold payT; decide +kernel
theorem exB_pk : pkL (payT exB) 1 = ⟨#[112, 2, 10, 3, 2, 0, 97, 98]⟩ := by
  rw [exB_pay]
  decide +kernel
theorem exB_hd : HdOf 1 2 2 3 5 3 1 7 8 exB := by
  refine ⟨⟨by decide, by decide, by decide, by decide, by decide, by decide, by decide, by decide, by decide, by decide, by decide, by decide⟩, exB_fine, by decide, rfl, by decide +kernel, by decide +kernel, ?_, ?_⟩
  · rw [exB_pay]
    rfl
  · rw [exB_pk]
    rfl
theorem img_front (F R HD : List Nat) (q : Nat) (h : HD = [68, 82, 71, 49] ++ F ++ [q]) : [] ++ [68, 82, 71, 49] ++ ((F ++ [q] ++ smL HD) ++ R) = smd HD ++ R := by
  subst h
  unfold smd
  simp
theorem eql_ex (W : World) : (binOp .eql 23 (hdV 1 2 2 3 5 3 1 7 8) (hdV 1 2 2 3 5 3 1 7 8)).run Tryz.prog W = .ok (.bool true) W := by unfold hdV; kernel_rfl
set_option maxHeartbeats 4000000 in
set_option maxRecDepth 100000 in
theorem known_any (w : World) (ht : Tab w) :
    Calls Tryz.prog 9 #[] w fun e w' => e = .returned (.bool true) ∧ Below w.heap.size w w' := by
  have ho := exB_hd
  have him : imgL 1 2 3 1 exB = imgH 1 2 2 3 5 3 1 7 8 exB := imgH_of ho
  have hlen := imgH_len ho
  have hby := imgH_byt 1 2 2 3 5 3 1 7 8 exB
  have HSE : Hid (∀ v W, LsAt v exB W → Tab W → Calls Tryz.prog 12 #[hdV 1 2 0 0 0 3 1 0 0, v] W fun r w' => r = .returned (.tuple #[.string (nums (imgH 1 2 2 3 5 3 1 7 8 exB)), .nilIface]) ∧ Below W.heap.size W w') := fun v W hv hW => by
    have := seal_ok 1 2 3 1 0 0 0 0 0 v exB W hv exB_fine (by decide) (by decide) (by decide) (by decide) hW
    rw [him] at this
    exact this
  have HOP : Hid (∀ W, Tab W → Calls Tryz.prog 18 #[.string (nums (imgH 1 2 2 3 5 3 1 7 8 exB))] W fun r w' => ∃ v, r = .returned (.tuple #[hdV 1 2 2 3 5 3 1 7 8, v, .nilIface]) ∧ w'.ownsRow W.heap.size 26 2 v exB.length (lnV exB) ∧ Below W.heap.size W w') := fun W hW => open_ok 1 2 2 3 5 3 1 7 8 exB W ho hW
  have HLO : Hid (∀ W, Tab W → Calls Tryz.prog 16 #[.string (nums (imgH 1 2 2 3 5 3 1 7 8 exB))] W fun r w' => r = .returned (.tuple #[hdV 1 2 2 3 5 3 1 7 8, .nilIface]) ∧ Below W.heap.size W w') := fun W hW => look_ok 1 2 2 3 5 3 7 8 1 _ (smd_byt _ (Sums.bl_byt _)) (by rw [smd_len, Sums.bl_length, ho.i]; decide) W ho.ok ho.g2 hW
  have HSH : Hid (∀ W, Tab W → Calls Tryz.prog 18 #[.string (nums ((imgH 1 2 2 3 5 3 1 7 8 exB).take 84))] W fun r w' => ∃ p, r = .returned (.tuple #[hdV 0 0 0 0 0 0 0 0 0, .slice none 0 0, .iface 61 (.pointer (some ⟨p, 0, none⟩))]) ∧ w'.heap[p]? = some (.cells #[.int .i64 (84 : Int), .int .i64 30] 63 (0, 0)) ∧ W.heap.size ≤ p ∧ Below W.heap.size W w') := fun W hW => open_short 1 2 2 3 5 3 1 7 8 84 exB W ho (by decide) (by decide) hW
  obtain ⟨I, hI⟩ : ∃ I, imgH 1 2 2 3 5 3 1 7 8 exB = I := ⟨_, rfl⟩
  have e4 : (nums I).extract 0 4 = ⟨#[68, 82, 71, 49]⟩ := by
    rw [← hI]
    have h9 := ext_nums [] [68, 82, 71, 49] (([1, 2, 2, 3, 5, 3, 7, 8].flatMap (fixL 8) ++ [1 % 256] ++ smL (hdL [1, 2, 2, 3, 5, 3, 7, 8] 1)) ++ smd (Sums.bl (pkL (payT exB) 1))) (by simp) (by decide) (by
      intro z hz
      simp only [List.mem_append] at hz
      rcases hz with ((h | h) | h) | h
      · exact flat_byt _ z h
      · simp at h; omega
      · exact smL_byt _ z h
      · exact smd_byt _ (Sums.bl_byt _) z h)
    have e9 : [] ++ [68, 82, 71, 49] ++ (([1, 2, 2, 3, 5, 3, 7, 8].flatMap (fixL 8) ++ [1 % 256] ++ smL (hdL [1, 2, 2, 3, 5, 3, 7, 8] 1)) ++ smd (Sums.bl (pkL (payT exB) 1))) = imgH 1 2 2 3 5 3 1 7 8 exB := img_front _ _ _ _ (hdL_eq _ _ rfl)
    rw [e9] at h9
    refine h9.trans ?_
    decide +kernel
  have e81 : (nums I).extract 73 81 = ⟨#[112, 2, 10, 3, 2, 0, 97, 98]⟩ := by
    rw [← hI]
    have h9 := ext_nums (smd (hdL [1, 2, 2, 3, 5, 3, 7, 8] 1)) (Sums.bl (pkL (payT exB) 1)) (smL (Sums.bl (pkL (payT exB) 1))) (smd_byt _ (hdL_byt _ _)) (Sums.bl_byt _) (smL_byt _)
    have e9 : smd (hdL [1, 2, 2, 3, 5, 3, 7, 8] 1) ++ Sums.bl (pkL (payT exB) 1) ++ smL (Sums.bl (pkL (payT exB) 1)) = imgH 1 2 2 3 5 3 1 7 8 exB := by
      unfold imgH
      conv => rhs; rhs; unfold smd
      rw [List.append_assoc]
    rw [e9, smd_len, hdL_len _ _ rfl, Sums.bl_length, ho.i, nums_bl, exB_pk] at h9
    exact h9
  have e84 : (nums I).extract 0 84 = nums (I.take 84) := by
    have h9 := ext_nums [] (I.take 84) (I.drop 84) (by simp) (fun z hz => hby z (by rw [hI]; exact List.mem_of_mem_take hz)) (fun z hz => hby z (by rw [hI]; exact List.mem_of_mem_drop hz))
    rw [List.nil_append, List.take_append_drop, List.length_nil, Nat.zero_add, List.length_take, ← hI, hlen] at h9
    rw [← hI]
    exact h9
  have hsz : (nums I).size = 85 := by rw [nums_size, ← hI, hlen]
  rw [hI] at HSE HOP HLO HSH
  obtain ⟨s, hs⟩ : ∃ s, nums I = s := ⟨_, rfl⟩
  obtain ⟨s84, hs84⟩ : ∃ s, nums (I.take 84) = s := ⟨_, rfl⟩
  rw [hs] at HSE HOP HLO e4 e81 e84 hsz
  rw [hs84] at HSH e84
  have HT := Hid.mk' ht
  have hq := eql_ex
  have n4 := str_neq_same ⟨#[68, 82, 71, 49]⟩
  have n81 := str_neq_same ⟨#[112, 2, 10, 3, 2, 0, 97, 98]⟩
  unfold hdV at HSE HOP HLO HSH hq
  clear ho him hlen hby hI hs hs84 ht
  go_enter Tryz.func9, Tryz.ntmps9
  go_wp2_with fail
  refine (linesB w).mono ?_
  rintro r w1 ⟨p1, c1, rfl, hv1, hb1⟩
  have HB1 := Hid.mk' hb1
  have HV1 : Hid (LsAt (.slice p1 2 c1) exB w1) := own_ls hv1
  clear hb1 hv1
  go_wp2_with fail
  refine (HSE.out _ w1 HV1.out (HT.out.below HB1.out)).mono ?_
  rintro r w2 ⟨rfl, hb2⟩
  have HB2 : Hid (Below w.heap.size w w2) := HB1.out.trans (hb2.mono HB1.out.size)
  clear hb2 HB1 HV1
  go_upto_region 5 with (go_at_call 16; refine (HLO.out w2 (HT.out.below HB2.out)).mono ?_; rintro r w3 ⟨rfl, hb3⟩; have HB3 := Hid.mk' (HB2.out.trans (hb3.mono HB2.out.size)); clear hb3)
  obtain ⟨C, hC⟩ : ∃ C, w3.heap.size = C := ⟨_, rfl⟩
  obtain ⟨w4, hw4⟩ : ∃ w4, w3.alloc (.cells #[.int .i64 1, .int .i64 2, .int .i64 2, .int .i64 3, .int .i64 5, .int .i64 3, .int .i64 1, .int .i64 7, .int .i64 8] 23) = w4 := ⟨_, rfl⟩
  have HX4 : Hid (Below w.heap.size w w4 ∧ w4.heap[C]? = some (.cells #[.int .i64 1, .int .i64 2, .int .i64 2, .int .i64 3, .int .i64 5, .int .i64 3, .int .i64 1, .int .i64 7, .int .i64 8] 23 (0, 0)) ∧ w4.heap.size = C + 1) := by
    unfold Hid
    rw [← hw4, ← hC]
    exact ⟨HB3.out.alloc HB3.out.size _, heap_alloc_new _ _, World.size_alloc ..⟩
  try rw [hw4]
  try rw [hC]
  clear hw4 hC HB3 HB2
  go_upto_region 6 with (go_at_call 18; refine (HOP.out w4 (HT.out.below HX4.out.1)).mono ?_; rintro r w5 ⟨v, rfl, hv, hb5⟩; obtain ⟨pv, cv, rfl⟩ := row_shape hv; have HV5 := Hid.mk' hv; have HB5 := Hid.mk' hb5; clear hb5 hv)
  obtain ⟨w6, hw6⟩ : ∃ w6, w5.alloc (.cells #[.int .i64 1, .int .i64 2, .int .i64 2, .int .i64 3, .int .i64 5, .int .i64 3, .int .i64 1, .int .i64 7, .int .i64 8] 23) = w6 := ⟨_, rfl⟩
  have HX6 : Hid (Below w.heap.size w w6 ∧ w6.heap[C]? = some (.cells #[.int .i64 1, .int .i64 2, .int .i64 2, .int .i64 3, .int .i64 5, .int .i64 3, .int .i64 1, .int .i64 7, .int .i64 8] 23 (0, 0)) ∧ LsAt (.slice pv exB.length cv) exB w6) := by
    obtain ⟨k1, k2, k3⟩ := HX4.out
    have h1 := HB5.out
    have h2 := h1.size
    have h3 := k1.size
    unfold Hid
    rw [← hw6]
    exact ⟨(k1.trans (h1.mono h3)).alloc (by omega) _, (Below.heap_alloc _ _ _ (by omega)).trans ((h1.block C (by omega)).trans k2), own_ls (HV5.out.alloc _)⟩
  try rw [hw6]
  clear hw6 HB5 HV5 HX4
  go_upto_region 7 with (go_at_call 18; refine (HSH.out w6 (HT.out.below HX6.out.1)).mono ?_; rintro r w7 ⟨fp, rfl, hfp, hfb, hb7⟩; have HB7 := Hid.mk' hb7; clear hb7 hfp hfb)
  obtain ⟨w8, hw8⟩ : ∃ w8, w7.alloc (.cells #[.int .i64 0, .int .i64 0, .int .i64 0, .int .i64 0, .int .i64 0, .int .i64 0, .int .i64 0, .int .i64 0, .int .i64 0] 23) = w8 := ⟨_, rfl⟩
  have HX8 : Hid (Below w.heap.size w w8 ∧ w8.heap[C]? = some (.cells #[.int .i64 1, .int .i64 2, .int .i64 2, .int .i64 3, .int .i64 5, .int .i64 3, .int .i64 1, .int .i64 7, .int .i64 8] 23 (0, 0)) ∧ LsAt (.slice pv exB.length cv) exB w8) := by
    obtain ⟨k1, k2, k3⟩ := HX6.out
    have h1 := HB7.out
    have h2 := h1.size
    have h3 := k1.size
    have h4 := (Array.getElem?_eq_some_iff.1 k2).1
    unfold Hid
    rw [← hw8]
    exact ⟨(k1.trans (h1.mono h3)).alloc (by omega) _, (Below.heap_alloc _ _ _ (by omega)).trans ((h1.block C h4).trans k2), k3.below (h1.alloc (by omega) _)⟩
  try rw [hw8]
  clear hw8 HB7 HX6
  have p0 := cell_at (k := 0) HX8.out.2.1 rfl
  have p1 := cell_at (k := 1) HX8.out.2.1 rfl
  have p2 := cell_at (k := 2) HX8.out.2.1 rfl
  have p3 := cell_at (k := 3) HX8.out.2.1 rfl
  have p4 := cell_at (k := 4) HX8.out.2.1 rfl
  have p5 := cell_at (k := 5) HX8.out.2.1 rfl
  have p6 := cell_at (k := 6) HX8.out.2.1 rfl
  have p7 := cell_at (k := 7) HX8.out.2.1 rfl
  have p8 := cell_at (k := 8) HX8.out.2.1 rfl
  go_wp2_with fail
  refine (linesB w8).mono ?_
  rintro r w9 ⟨pz, cz, rfl, hv9, hb9⟩
  have HV9 : Hid (LsAt (.slice pv exB.length cv) exB w9 ∧ LsAt (.slice pz 2 cz) exB w9) := ⟨HX8.out.2.2.below hb9, own_ls hv9⟩
  have HB9 : Hid (Below w.heap.size w w9) := HX8.out.1.trans (hb9.mono HX8.out.1.size)
  clear hv9 hb9
  go_wp2_with fail
  refine (sameLines_any _ _ exB exB w9 HV9.out.1 HV9.out.2 (by decide) (by decide)).mono ?_
  rintro r wa ⟨hr, k, hw⟩
  have hr2 : r = .returned (.bool true) := hr.trans (by simp)
  have HBA : Hid (Below w.heap.size w wa) := by
    unfold Hid
    rw [hw]
    exact HB9.out.drewN' k
  clear hw hr HB9
  subst hr2
  go_wp2_with fail
  go_ret
  exact ⟨rfl, HBA.out⟩
end Go.Proofs.YtlplbnlfajdcbaaGreatDoor
