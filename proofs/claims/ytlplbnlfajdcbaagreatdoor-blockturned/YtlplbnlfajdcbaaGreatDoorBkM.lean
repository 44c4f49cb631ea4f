/-
  block.Open of an image that is cut behind its head. Conditions: as it says.
-/
import Derived.Test.YtlplbnlfajdcbaaGreatDoorBkL
namespace Go.Proofs.YtlplbnlfajdcbaaGreatDoor
open Go.RowKit
set_option linter.unusedVariables false
set_option linter.unusedSimpArgs false
set_option maxHeartbeats 4000000 in
set_option maxRecDepth 100000 in
theorem open_short (a b c d e f g h i k : Nat) (l : List Rec.Ln) (w : World) (o : HdOf a b c d e f g h i l) (hk : 73 ≤ k) (hki : k < 77 + i) (ht : Tab w) :
    Calls Tryz.prog 18 #[.string (nums ((imgH a b c d e f g h i l).take k))] w fun r w' => ∃ p, r = .returned (.tuple #[hdV 0 0 0 0 0 0 0 0 0, .slice none 0 0, .iface 61 (.pointer (some ⟨p, 0, none⟩))]) ∧ w'.heap[p]? = some (.cells #[.int .i64 (k : Int), .int .i64 30] 63 (0, 0)) ∧ w.heap.size ≤ p ∧ Below w.heap.size w w' := by
  have hlen := imgH_len o
  have hi := o.ok.i1
  have hqb : (smd (Sums.bl (pkL (payT l) g))).length = 4 + i := by rw [smd_len, Sums.bl_length, o.i]; omega
  have hcut : (imgH a b c d e f g h i l).take k = smd (hdL [a, b, c, d, e, f, h, i] g) ++ (smd (Sums.bl (pkL (payT l) g))).take (k - 73) := by
    unfold imgH
    rw [List.take_append, List.take_of_length_le (by rw [smd_len, hdL_len _ _ rfl]; omega), smd_len, hdL_len _ _ rfl]
  have hsz0 : ((imgH a b c d e f g h i l).take k).length = k := by rw [List.length_take, hlen]; omega
  have HLO : Hid (∀ W, Tab W → Calls Tryz.prog 16 #[.string (nums ((imgH a b c d e f g h i l).take k))] W fun r w' => r = .returned (.tuple #[hdV a b c d e f g h i, .nilIface]) ∧ Below W.heap.size W w') := fun W hW => by
    rw [hcut]
    exact look_ok a b c d e f h i g _ (fun z hz => smd_byt _ (Sums.bl_byt _) z (List.mem_of_mem_take hz)) (by rw [List.length_take]; omega) W o.ok o.g2 hW
  obtain ⟨s, hs⟩ : ∃ s, nums ((imgH a b c d e f g h i l).take k) = s := ⟨_, rfl⟩
  have hsz : s.size = k := by rw [← hs, nums_size, hsz0]
  rw [hs] at HLO ⊢
  have HBO := Hid.mk' (fun W => bodyOf_short s a b c d e f g h i W hi (by omega))
  rw [hsz] at HBO
  have HT := Hid.mk' ht
  unfold hdV at HLO HBO ⊢
  clear hs hlen hqb ht o hi hcut hsz0 hsz
  obtain ⟨B, hB⟩ : ∃ B, w.heap.size = B := ⟨_, rfl⟩
  obtain ⟨w0, hw0⟩ : ∃ w0, w.alloc (.cells #[.int .i64 0, .int .i64 0, .int .i64 0, .int .i64 0, .int .i64 0, .int .i64 0, .int .i64 0, .int .i64 0, .int .i64 0] 23) = w0 := ⟨_, rfl⟩
  have HK0 : Hid (w0.heap[B]? = some (.cells #[.int .i64 0, .int .i64 0, .int .i64 0, .int .i64 0, .int .i64 0, .int .i64 0, .int .i64 0, .int .i64 0, .int .i64 0] 23 (0, 0)) ∧ Below B w w0 ∧ w0.heap.size = B + 1) := by
    unfold Hid
    rw [← hw0, ← hB]
    exact ⟨heap_alloc_new _ _, (Below.refl _ _).alloc (Nat.le_refl _) _, World.size_alloc ..⟩
  go_enter Tryz.func18, Tryz.ntmps18
  go_upto_region 1 with fail
  clear hw0
  go_upto_region 2 with (go_at_call 16; refine (HLO.out w0 (HT.out.below (by rw [hB]; exact HK0.out.2.1))).mono ?_; rintro r w1 ⟨rfl, hb1⟩; have HB1 := Hid.mk' hb1; clear hb1)
  obtain ⟨w2, hw2⟩ : ∃ w2, w1.alloc (.cells #[.int .i64 (a : Int), .int .i64 (b : Int), .int .i64 (c : Int), .int .i64 (d : Int), .int .i64 (e : Int), .int .i64 (f : Int), .int .i64 (g : Int), .int .i64 (h : Int), .int .i64 (i : Int)] 23) = w2 := ⟨_, rfl⟩
  obtain ⟨C, hC⟩ : ∃ C, w1.heap.size = C := ⟨_, rfl⟩
  have hCB : B + 1 ≤ C := by have := HB1.out.size; have := HK0.out.2.2; omega
  have HK2 : Hid (w2.heap[C]? = some (.cells #[.int .i64 (a : Int), .int .i64 (b : Int), .int .i64 (c : Int), .int .i64 (d : Int), .int .i64 (e : Int), .int .i64 (f : Int), .int .i64 (g : Int), .int .i64 (h : Int), .int .i64 (i : Int)] 23 (0, 0)) ∧ w2.heap[B]? = some (.cells #[.int .i64 0, .int .i64 0, .int .i64 0, .int .i64 0, .int .i64 0, .int .i64 0, .int .i64 0, .int .i64 0, .int .i64 0] 23 (0, 0)) ∧ Below B w w2 ∧ w2.heap.size = C + 1) := by
    unfold Hid
    rw [← hw2, ← hC]
    have h1 := HB1.out
    have h2 := HK0.out.2.2
    have h3 := h1.size
    exact ⟨heap_alloc_new _ _, (Below.heap_alloc _ _ _ (by omega)).trans ((h1.block B (by omega)).trans HK0.out.1), (HK0.out.2.1.trans (h1.mono (by omega))).alloc (by omega) _, World.size_alloc ..⟩
  have HX : Hid (∀ X, Below (C + 1) w2 X → X.heap[C]? = some (.cells #[.int .i64 (a : Int), .int .i64 (b : Int), .int .i64 (c : Int), .int .i64 (d : Int), .int .i64 (e : Int), .int .i64 (f : Int), .int .i64 (g : Int), .int .i64 (h : Int), .int .i64 (i : Int)] 23 (0, 0)) ∧ X.heap[B]? = some (.cells #[.int .i64 0, .int .i64 0, .int .i64 0, .int .i64 0, .int .i64 0, .int .i64 0, .int .i64 0, .int .i64 0, .int .i64 0] 23 (0, 0)) ∧ Tab X ∧ Below B w X) := fun X hX => by
    obtain ⟨k1, k2, k3, k4⟩ := HK2.out
    have hb : Below B w X := k3.trans (hX.mono (by omega))
    exact ⟨(hX.block C (by omega)).trans k1, (hX.block B (by omega)).trans k2, HT.out.below (by rw [hB]; exact hb), hb⟩
  have HL : Hid (w2.heap.size = C + 1) := HK2.out.2.2.2
  try rw [hw2]
  try rw [hC]
  clear hw2 hC HB1 HK0
  have p0 := cell_at (k := 0) HK2.out.1 rfl
  have p1 := cell_at (k := 1) HK2.out.1 rfl
  have p2 := cell_at (k := 2) HK2.out.1 rfl
  have p3 := cell_at (k := 3) HK2.out.1 rfl
  have p4 := cell_at (k := 4) HK2.out.1 rfl
  have p5 := cell_at (k := 5) HK2.out.1 rfl
  have p6 := cell_at (k := 6) HK2.out.1 rfl
  have p7 := cell_at (k := 7) HK2.out.1 rfl
  have p8 := cell_at (k := 8) HK2.out.1 rfl
  go_wp2_with fail
  refine (HBO.out w2).mono ?_
  rintro r w3 ⟨p, rfl, hp, hpg, hb3⟩
  have HB3 : Hid (Below (C + 1) w2 w3) := by unfold Hid; rw [← HL.out]; exact hb3
  have HP3 := Hid.mk' (And.intro hp hpg)
  clear hb3 hp hpg p0 p1 p2 p3 p4 p5 p6 p7 p8
  have r0 := cell_at (k := 0) (HX.out w3 HB3.out).2.1 rfl
  have g0 := frozen_at (k := 0) (HX.out w3 HB3.out).2.1
  have r1 := cell_at (k := 1) (HX.out w3 HB3.out).2.1 rfl
  have g1 := frozen_at (k := 1) (HX.out w3 HB3.out).2.1
  have r2 := cell_at (k := 2) (HX.out w3 HB3.out).2.1 rfl
  have g2 := frozen_at (k := 2) (HX.out w3 HB3.out).2.1
  have r3 := cell_at (k := 3) (HX.out w3 HB3.out).2.1 rfl
  have g3 := frozen_at (k := 3) (HX.out w3 HB3.out).2.1
  have r4 := cell_at (k := 4) (HX.out w3 HB3.out).2.1 rfl
  have g4 := frozen_at (k := 4) (HX.out w3 HB3.out).2.1
  have r5 := cell_at (k := 5) (HX.out w3 HB3.out).2.1 rfl
  have g5 := frozen_at (k := 5) (HX.out w3 HB3.out).2.1
  have r6 := cell_at (k := 6) (HX.out w3 HB3.out).2.1 rfl
  have g6 := frozen_at (k := 6) (HX.out w3 HB3.out).2.1
  have r7 := cell_at (k := 7) (HX.out w3 HB3.out).2.1 rfl
  have g7 := frozen_at (k := 7) (HX.out w3 HB3.out).2.1
  have r8 := cell_at (k := 8) (HX.out w3 HB3.out).2.1 rfl
  have g8 := frozen_at (k := 8) (HX.out w3 HB3.out).2.1
  go_wp2_with fail
  obtain ⟨Y, hY⟩ : ∃ Y, (((((((((w3.setCell ⟨B, 0, none⟩ (.int .i64 0)).setCell ⟨B, 1, none⟩ (.int .i64 0)).setCell ⟨B, 2, none⟩ (.int .i64 0)).setCell ⟨B, 3, none⟩ (.int .i64 0)).setCell ⟨B, 4, none⟩ (.int .i64 0)).setCell ⟨B, 5, none⟩ (.int .i64 0)).setCell ⟨B, 6, none⟩ (.int .i64 0)).setCell ⟨B, 7, none⟩ (.int .i64 0)).setCell ⟨B, 8, none⟩ (.int .i64 0)) = Y := ⟨_, rfl⟩
  have hb9 : Below B w Y := by rw [← hY]; exact nine_below _ _ _ _ _ _ _ _ _ (HX.out w3 HB3.out).2.2.2 (Nat.le_refl _)
  have hc9 : Y.heap[B]? = some (.cells #[.int .i64 0, .int .i64 0, .int .i64 0, .int .i64 0, .int .i64 0, .int .i64 0, .int .i64 0, .int .i64 0, .int .i64 0] 23 (0, 0)) := by rw [← hY]; exact nine_put _ _ _ _ _ _ _ _ _ (HX.out w3 HB3.out).2.1
  have hpp := HP3.out.2
  have hp9 : Y.heap[p]? = some (.cells #[.int .i64 (k : Int), .int .i64 30] 63 (0, 0)) := by rw [← hY]; exact (nine_other _ _ _ _ _ _ _ _ _ (by have := HL.out; omega)).trans HP3.out.1
  rw [hY]
  have y0 := cell_at (k := 0) hc9 rfl
  have y1 := cell_at (k := 1) hc9 rfl
  have y2 := cell_at (k := 2) hc9 rfl
  have y3 := cell_at (k := 3) hc9 rfl
  have y4 := cell_at (k := 4) hc9 rfl
  have y5 := cell_at (k := 5) hc9 rfl
  have y6 := cell_at (k := 6) hc9 rfl
  have y7 := cell_at (k := 7) hc9 rfl
  have y8 := cell_at (k := 8) hc9 rfl
  exact bodyPost_ret (v := .tuple #[.agg #[.int .i64 0, .int .i64 0, .int .i64 0, .int .i64 0, .int .i64 0, .int .i64 0, .int .i64 0, .int .i64 0, .int .i64 0], .slice none 0 0, .iface 61 (.pointer (some ⟨p, 0, none⟩))]) (by simp [results, Tryz.results18, go_sem, y0, y1, y2, y3, y4, y5, y6, y7, y8]) rfl ⟨p, rfl, hp9, by have := HL.out; omega, by rw [hB]; exact hb9⟩
end Go.Proofs.YtlplbnlfajdcbaaGreatDoor
