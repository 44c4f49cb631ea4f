/-
  block.Open of an image, and of one that is cut behind its head. Conditions: as each says.
-/
import Derived.Test.YtlplbnlfajdcbaaGreatDoorBkK
namespace Go.Proofs.YtlplbnlfajdcbaaGreatDoor
open Go.RowKit
set_option linter.unusedVariables false
set_option linter.unusedSimpArgs false
/-- an image, by its head's numbers -/
def imgH (a b c d e f g h i : Nat) (l : List Rec.Ln) : List Nat := smd (hdL [a, b, c, d, e, f, h, i] g) ++ smd (Sums.bl (pkL (payT l) g))
theorem imgH_byt (a b c d e f g h i : Nat) (l : List Rec.Ln) : ∀ z ∈ imgH a b c d e f g h i l, z < 256 := by
  intro z hz
  rcases List.mem_append.1 hz with h | h
  · exact smd_byt _ (hdL_byt _ _) z h
  · exact smd_byt _ (Sums.bl_byt _) z h
theorem imgH_len {a b c d e f g h i : Nat} {l : List Rec.Ln} (o : HdOf a b c d e f g h i l) : (imgH a b c d e f g h i l).length = 77 + i := by
  unfold imgH
  rw [List.length_append, smd_len, smd_len, hdL_len _ _ rfl, Sums.bl_length, o.i]
  omega
theorem imgH_of {a b c d e f g h i : Nat} {l : List Rec.Ln} (o : HdOf a b c d e f g h i l) : imgL a b f g l = imgH a b c d e f g h i l := by
  unfold imgL imgH wsL
  rw [o.c, o.d, o.e, o.h, o.i]
  rfl
theorem nine_other {W : World} {C j : Nat} (x0 x1 x2 x3 x4 x5 x6 x7 x8 : Value) (h : j ≠ C) : (((((((((W.setCell ⟨C, 0, none⟩ x0).setCell ⟨C, 1, none⟩ x1).setCell ⟨C, 2, none⟩ x2).setCell ⟨C, 3, none⟩ x3).setCell ⟨C, 4, none⟩ x4).setCell ⟨C, 5, none⟩ x5).setCell ⟨C, 6, none⟩ x6).setCell ⟨C, 7, none⟩ x7).setCell ⟨C, 8, none⟩ x8).heap[j]? = W.heap[j]? :=
  (((((((((put_other _ C 8 j x8 h)).trans (put_other _ C 7 j x7 h)).trans (put_other _ C 6 j x6 h)).trans (put_other _ C 5 j x5 h)).trans (put_other _ C 4 j x4 h)).trans (put_other _ C 3 j x3 h)).trans (put_other _ C 2 j x2 h)).trans (put_other _ C 1 j x1 h)).trans (put_other _ C 0 j x0 h)
set_option maxHeartbeats 4000000 in
set_option maxRecDepth 100000 in
theorem open_ok (a b c d e f g h i : Nat) (l : List Rec.Ln) (w : World) (o : HdOf a b c d e f g h i l) (ht : Tab w) :
    Calls Tryz.prog 18 #[.string (nums (imgH a b c d e f g h i l))] w fun r w' => ∃ v, r = .returned (.tuple #[hdV a b c d e f g h i, v, .nilIface]) ∧ w'.ownsRow w.heap.size 26 2 v l.length (lnV l) ∧ Below w.heap.size w w' := by
  have hlen := imgH_len o
  have hi := o.ok.i1
  have hqb : (smd (Sums.bl (pkL (payT l) g))).length = 4 + i := by rw [smd_len, Sums.bl_length, o.i]; omega
  have HLO : Hid (∀ W, Tab W → Calls Tryz.prog 16 #[.string (nums (imgH a b c d e f g h i l))] W fun r w' => r = .returned (.tuple #[hdV a b c d e f g h i, .nilIface]) ∧ Below W.heap.size W w') := fun W hW => look_ok a b c d e f h i g (smd (Sums.bl (pkL (payT l) g))) (smd_byt _ (Sums.bl_byt _)) (by omega) W o.ok o.g2 hW
  have HLI := Hid.mk' (fun W hW => linesOf_ok a b c d e f g h i l W o hW)
  have hex : (nums (imgH a b c d e f g h i l)).extract 73 (77 + i) = nums (smd (Sums.bl (pkL (payT l) g))) := by
    have h9 := ext_nums (smd (hdL [a, b, c, d, e, f, h, i] g)) (smd (Sums.bl (pkL (payT l) g))) [] (smd_byt _ (hdL_byt _ _)) (smd_byt _ (Sums.bl_byt _)) (by simp)
    rw [List.append_nil, smd_len, hdL_len _ _ rfl, hqb] at h9
    rw [show 77 + i = 69 + 4 + (4 + i) by omega]
    exact h9
  obtain ⟨s, hs⟩ : ∃ s, nums (imgH a b c d e f g h i l) = s := ⟨_, rfl⟩
  have hsz : s.size = 77 + i := by rw [← hs, nums_size, hlen]
  obtain ⟨T, hT⟩ : ∃ T, nums (smd (Sums.bl (pkL (payT l) g))) = T := ⟨_, rfl⟩
  rw [hs] at HLO hex ⊢
  rw [hT] at hex HLI
  have HBO : Hid (∀ W, Calls Tryz.prog 42 #[.string s, hdV a b c d e f g h i] W fun r w' => r = .returned (.tuple #[.string T, .nilIface]) ∧ Below W.heap.size W w') := fun W => by
    have := bodyOf_ok s a b c d e f g h i W hi hsz
    rw [hsz, hex] at this
    exact this
  have HT := Hid.mk' ht
  unfold hdV at HLO HLI HBO ⊢
  clear hs hT hex hlen hqb ht o hi hsz
  obtain ⟨B, hB⟩ : ∃ B, w.heap.size = B := ⟨_, rfl⟩
  obtain ⟨w0, hw0⟩ : ∃ w0, w.alloc (.cells #[.int .i64 0, .int .i64 0, .int .i64 0, .int .i64 0, .int .i64 0, .int .i64 0, .int .i64 0, .int .i64 0, .int .i64 0] 23) = w0 := ⟨_, rfl⟩
  have HK0 : Hid (w0.heap[B]? = some (.cells #[.int .i64 0, .int .i64 0, .int .i64 0, .int .i64 0, .int .i64 0, .int .i64 0, .int .i64 0, .int .i64 0, .int .i64 0] 23 (0, 0)) ∧ Below B w w0 ∧ w0.heap.size = B + 1) := by
    unfold Hid
    rw [← hw0, ← hB]
    exact ⟨heap_alloc_new _ _, (Below.refl _ _).alloc (Nat.le_refl _) _, World.size_alloc ..⟩
  go_enter Tryz.func18, Tryz.ntmps18
  go_upto_region 1 with fail
  clear hw0
  go_upto_region 2 with (go_at_call 16; refine (HLO.out w0 (HT.out.below (by rw [hB]; exact HK0.out.2.1))).mono ?_; rintro r w1 ⟨rfl, hb1⟩; have HB1 := Hid.mk' hb1; clear hb1)
  obtain ⟨w2, hw2⟩ : ∃ w2, w1.alloc (.cells #[.int .i64 (a : Int), .int .i64 (b : Int), .int .i64 (c : Int), .int .i64 (d : Int), .int .i64 (e : Int), .int .i64 (f : Int), .int .i64 (g : Int), .int .i64 (h : Int), .int .i64 (i : Int)] 23) = w2 := ⟨_, rfl⟩
  obtain ⟨C, hC⟩ : ∃ C, w1.heap.size = C := ⟨_, rfl⟩
  have hCB : B + 1 ≤ C := by have := HB1.out.size; have := HK0.out.2.2; omega
  have HK2 : Hid (w2.heap[C]? = some (.cells #[.int .i64 (a : Int), .int .i64 (b : Int), .int .i64 (c : Int), .int .i64 (d : Int), .int .i64 (e : Int), .int .i64 (f : Int), .int .i64 (g : Int), .int .i64 (h : Int), .int .i64 (i : Int)] 23 (0, 0)) ∧ w2.heap[B]? = some (.cells #[.int .i64 0, .int .i64 0, .int .i64 0, .int .i64 0, .int .i64 0, .int .i64 0, .int .i64 0, .int .i64 0, .int .i64 0] 23 (0, 0)) ∧ Below B w w2 ∧ w2.heap.size = C + 1) := by
    unfold Hid
    rw [← hw2, ← hC]
    have h1 := HB1.out
    have h2 := HK0.out.2.2
    have h3 := h1.size
    exact ⟨heap_alloc_new _ _, (Below.heap_alloc _ _ _ (by omega)).trans ((h1.block B (by omega)).trans HK0.out.1), (HK0.out.2.1.trans (h1.mono (by omega))).alloc (by omega) _, World.size_alloc ..⟩
  have HX : Hid (∀ X, Below (C + 1) w2 X → X.heap[C]? = some (.cells #[.int .i64 (a : Int), .int .i64 (b : Int), .int .i64 (c : Int), .int .i64 (d : Int), .int .i64 (e : Int), .int .i64 (f : Int), .int .i64 (g : Int), .int .i64 (h : Int), .int .i64 (i : Int)] 23 (0, 0)) ∧ X.heap[B]? = some (.cells #[.int .i64 0, .int .i64 0, .int .i64 0, .int .i64 0, .int .i64 0, .int .i64 0, .int .i64 0, .int .i64 0, .int .i64 0] 23 (0, 0)) ∧ Tab X ∧ Below B w X) := fun X hX => by
    obtain ⟨k1, k2, k3, k4⟩ := HK2.out
    have hb : Below B w X := k3.trans (hX.mono (by omega))
    exact ⟨(hX.block C (by omega)).trans k1, (hX.block B (by omega)).trans k2, HT.out.below (by rw [hB]; exact hb), hb⟩
  have HL : Hid (w2.heap.size = C + 1) := HK2.out.2.2.2
  try rw [hw2]
  try rw [hC]
  clear hw2 hC HB1 HK0
  have p0 := cell_at (k := 0) HK2.out.1 rfl
  have p1 := cell_at (k := 1) HK2.out.1 rfl
  have p2 := cell_at (k := 2) HK2.out.1 rfl
  have p3 := cell_at (k := 3) HK2.out.1 rfl
  have p4 := cell_at (k := 4) HK2.out.1 rfl
  have p5 := cell_at (k := 5) HK2.out.1 rfl
  have p6 := cell_at (k := 6) HK2.out.1 rfl
  have p7 := cell_at (k := 7) HK2.out.1 rfl
  have p8 := cell_at (k := 8) HK2.out.1 rfl
  go_wp2_with fail
  refine (HBO.out w2).mono ?_
  rintro r w3 ⟨rfl, hb3⟩
  have HB3 : Hid (Below (C + 1) w2 w3) := by unfold Hid; rw [← HL.out]; exact hb3
  clear hb3 p0 p1 p2 p3 p4 p5 p6 p7 p8
  have p0 := cell_at (k := 0) (HX.out w3 HB3.out).1 rfl
  have p1 := cell_at (k := 1) (HX.out w3 HB3.out).1 rfl
  have p2 := cell_at (k := 2) (HX.out w3 HB3.out).1 rfl
  have p3 := cell_at (k := 3) (HX.out w3 HB3.out).1 rfl
  have p4 := cell_at (k := 4) (HX.out w3 HB3.out).1 rfl
  have p5 := cell_at (k := 5) (HX.out w3 HB3.out).1 rfl
  have p6 := cell_at (k := 6) (HX.out w3 HB3.out).1 rfl
  have p7 := cell_at (k := 7) (HX.out w3 HB3.out).1 rfl
  have p8 := cell_at (k := 8) (HX.out w3 HB3.out).1 rfl
  go_wp2_with fail
  refine (HLI.out w3 (HX.out w3 HB3.out).2.2.1).mono ?_
  rintro r w6 ⟨v, rfl, hv, hb6⟩
  have HB6 : Hid (Below (C + 1) w2 w6) := HB3.out.trans (hb6.mono (by have := HB3.out.size; have := HL.out; omega))
  have HV6 : Hid (w6.ownsRow (B + 1) 26 2 v l.length (lnV l)) := own_mono hv (by have := HB3.out.size; have := HL.out; omega)
  clear hb6 hv p0 p1 p2 p3 p4 p5 p6 p7 p8
  have p0 := cell_at (k := 0) (HX.out w6 HB6.out).1 rfl
  have r0 := cell_at (k := 0) (HX.out w6 HB6.out).2.1 rfl
  have g0 := frozen_at (k := 0) (HX.out w6 HB6.out).2.1
  have p1 := cell_at (k := 1) (HX.out w6 HB6.out).1 rfl
  have r1 := cell_at (k := 1) (HX.out w6 HB6.out).2.1 rfl
  have g1 := frozen_at (k := 1) (HX.out w6 HB6.out).2.1
  have p2 := cell_at (k := 2) (HX.out w6 HB6.out).1 rfl
  have r2 := cell_at (k := 2) (HX.out w6 HB6.out).2.1 rfl
  have g2 := frozen_at (k := 2) (HX.out w6 HB6.out).2.1
  have p3 := cell_at (k := 3) (HX.out w6 HB6.out).1 rfl
  have r3 := cell_at (k := 3) (HX.out w6 HB6.out).2.1 rfl
  have g3 := frozen_at (k := 3) (HX.out w6 HB6.out).2.1
  have p4 := cell_at (k := 4) (HX.out w6 HB6.out).1 rfl
  have r4 := cell_at (k := 4) (HX.out w6 HB6.out).2.1 rfl
  have g4 := frozen_at (k := 4) (HX.out w6 HB6.out).2.1
  have p5 := cell_at (k := 5) (HX.out w6 HB6.out).1 rfl
  have r5 := cell_at (k := 5) (HX.out w6 HB6.out).2.1 rfl
  have g5 := frozen_at (k := 5) (HX.out w6 HB6.out).2.1
  have p6 := cell_at (k := 6) (HX.out w6 HB6.out).1 rfl
  have r6 := cell_at (k := 6) (HX.out w6 HB6.out).2.1 rfl
  have g6 := frozen_at (k := 6) (HX.out w6 HB6.out).2.1
  have p7 := cell_at (k := 7) (HX.out w6 HB6.out).1 rfl
  have r7 := cell_at (k := 7) (HX.out w6 HB6.out).2.1 rfl
  have g7 := frozen_at (k := 7) (HX.out w6 HB6.out).2.1
  have p8 := cell_at (k := 8) (HX.out w6 HB6.out).1 rfl
  have r8 := cell_at (k := 8) (HX.out w6 HB6.out).2.1 rfl
  have g8 := frozen_at (k := 8) (HX.out w6 HB6.out).2.1
  go_wp2_with fail
  obtain ⟨Y, hY⟩ : ∃ Y, (((((((((w6.setCell ⟨B, 0, none⟩ (.int .i64 (a : Int))).setCell ⟨B, 1, none⟩ (.int .i64 (b : Int))).setCell ⟨B, 2, none⟩ (.int .i64 (c : Int))).setCell ⟨B, 3, none⟩ (.int .i64 (d : Int))).setCell ⟨B, 4, none⟩ (.int .i64 (e : Int))).setCell ⟨B, 5, none⟩ (.int .i64 (f : Int))).setCell ⟨B, 6, none⟩ (.int .i64 (g : Int))).setCell ⟨B, 7, none⟩ (.int .i64 (h : Int))).setCell ⟨B, 8, none⟩ (.int .i64 (i : Int))) = Y := ⟨_, rfl⟩
  have hb9 : Below B w Y := by rw [← hY]; exact nine_below _ _ _ _ _ _ _ _ _ (HX.out w6 HB6.out).2.2.2 (Nat.le_refl _)
  have hc9 : Y.heap[B]? = some (.cells #[.int .i64 (a : Int), .int .i64 (b : Int), .int .i64 (c : Int), .int .i64 (d : Int), .int .i64 (e : Int), .int .i64 (f : Int), .int .i64 (g : Int), .int .i64 (h : Int), .int .i64 (i : Int)] 23 (0, 0)) := by rw [← hY]; exact nine_put _ _ _ _ _ _ _ _ _ (HX.out w6 HB6.out).2.1
  have hv9 : Y.ownsRow (B + 1) 26 2 v l.length (lnV l) := row_kept HV6.out fun k hk => by rw [← hY]; exact nine_other _ _ _ _ _ _ _ _ _ (by have := (HV6.out.lt k hk).1; omega)
  rw [hY]
  have y0 := cell_at (k := 0) hc9 rfl
  have y1 := cell_at (k := 1) hc9 rfl
  have y2 := cell_at (k := 2) hc9 rfl
  have y3 := cell_at (k := 3) hc9 rfl
  have y4 := cell_at (k := 4) hc9 rfl
  have y5 := cell_at (k := 5) hc9 rfl
  have y6 := cell_at (k := 6) hc9 rfl
  have y7 := cell_at (k := 7) hc9 rfl
  have y8 := cell_at (k := 8) hc9 rfl
  exact bodyPost_ret (v := .tuple #[.agg #[.int .i64 (a : Int), .int .i64 (b : Int), .int .i64 (c : Int), .int .i64 (d : Int), .int .i64 (e : Int), .int .i64 (f : Int), .int .i64 (g : Int), .int .i64 (h : Int), .int .i64 (i : Int)], v, .nilIface]) (by simp [results, Tryz.results18, go_sem, y0, y1, y2, y3, y4, y5, y6, y7, y8]) rfl ⟨v, rfl, by rw [hB]; exact own_mono hv9 (by omega), by rw [hB]; exact hb9⟩
end Go.Proofs.YtlplbnlfajdcbaaGreatDoor
