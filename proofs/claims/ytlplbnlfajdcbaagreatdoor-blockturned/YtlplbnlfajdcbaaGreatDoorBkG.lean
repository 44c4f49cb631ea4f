/-
  block: the numbers of a head, read. Conditions: as each says.
-/
import Derived.Test.YtlplbnlfajdcbaaGreatDoorBkF
namespace Go.Proofs.YtlplbnlfajdcbaaGreatDoor
open Go.RowKit
set_option linter.unusedVariables false
set_option linter.unusedSimpArgs false
/-- the eight numbers that bytes say -/
def rdW (s : ByteArray) : List Nat := [leAt s 0 8, leAt s 8 8, leAt s 16 8, leAt s 24 8, leAt s 32 8, leAt s 40 8, leAt s 48 8, leAt s 56 8]
theorem rdW_at (s : ByteArray) (k : Nat) (h : k < 8) : (rdW s).getD k 0 = leAt s (8 * k) 8 := by
  have h8 : k = 0 ∨ k = 1 ∨ k = 2 ∨ k = 3 ∨ k = 4 ∨ k = 5 ∨ k = 6 ∨ k = 7 := by omega
  rcases h8 with rfl | rfl | rfl | rfl | rfl | rfl | rfl | rfl <;> rfl
/-- so many of them, and noughts -/
def arW (ws : List Nat) (k : Nat) : Array Value := ((ws.take k ++ List.replicate (8 - k) 0).map fun n : Nat => Value.int .u64 (n : Int)).toArray
theorem arW_set (ws : List Nat) (k : Nat) (hk : k < 8) (hl : ws.length = 8) : (arW ws k).setIfInBounds k (.int .u64 ((ws.getD k 0 : Nat) : Int)) = arW ws (k + 1) := by
  unfold arW
  rw [List.setIfInBounds_toArray, ← List.map_set]
  congr 2
  have e : 8 - k = (8 - (k + 1)) + 1 := by omega
  have e2 : (ws.take k).length = k := by rw [List.length_take]; omega
  rw [e, List.replicate_succ, List.set_append_right _ _ (by omega), e2, Nat.sub_self, List.set_cons_zero, List.take_succ_eq_append_getElem (by omega), List.append_assoc, List.getD_eq_getElem?_getD, List.getElem?_eq_getElem (by omega)]
  rfl
theorem arW_size (ws : List Nat) (k : Nat) (hk : k ≤ 8) (hl : ws.length = 8) : (arW ws k).size = 8 := by
  unfold arW
  simp
  omega
theorem arW_some (ws : List Nat) (k j : Nat) (hk : k ≤ 8) (hl : ws.length = 8) (hj : j < 8) : ∃ u, (arW ws k)[j]? = some (.int .u64 u) := by
  have hlen : (ws.take k ++ List.replicate (8 - k) 0).length = 8 := by
    rw [List.length_append, List.length_take, List.length_replicate]
    omega
  unfold arW
  rw [List.getElem?_toArray, List.getElem?_map, List.getElem?_eq_getElem (by omega)]
  exact ⟨_, rfl⟩
theorem rfix_8 (g : Nat) (s : ByteArray) (a : Nat) (w : World) (h : Rdr g s a w) (ha : a + 8 ≤ s.size) (hs : s.size ≤ 281474976710656) :
    Calls Tryz.prog 63 #[.pointer (some ⟨g, 0, none⟩), .int .i64 8] w fun e w' => e = .returned (.tuple #[.int .u64 (leAt s a 8 : Int), .int .i64 0]) ∧ Rdr g s (a + 8) w' ∧ Only g w w' := by
  have h1 := rfix_any g s a 8 w h (by omega) hs
  have e : rfixR s a 8 = (leAt s a 8, 0, 8) := by
    unfold rfixR
    rw [if_neg (by omega)]
    show (if a + 8 ≤ s.size then _ else _) = _
    rw [if_pos ha]
    rfl
  rw [e] at h1
  exact h1
theorem eight_put {W : World} {C : Nat} {t : TypeId} {z : Nat × Nat} {y0 y1 y2 y3 y4 y5 y6 y7 : Value} (x0 x1 x2 x3 x4 x5 x6 x7 : Value) (h0 : W.heap[C]? = some (.cells #[y0, y1, y2, y3, y4, y5, y6, y7] t z)) : ((((((((W.setCell ⟨C, 0, none⟩ x0).setCell ⟨C, 1, none⟩ x1).setCell ⟨C, 2, none⟩ x2).setCell ⟨C, 3, none⟩ x3).setCell ⟨C, 4, none⟩ x4).setCell ⟨C, 5, none⟩ x5).setCell ⟨C, 6, none⟩ x6).setCell ⟨C, 7, none⟩ x7).heap[C]? = some (.cells #[x0, x1, x2, x3, x4, x5, x6, x7] t z) := by
  have h1 : (W.setCell ⟨C, 0, none⟩ x0).heap[C]? = some (.cells #[x0, y1, y2, y3, y4, y5, y6, y7] t z) := (cells_put h0 x0).trans rfl
  have h2 : ((W.setCell ⟨C, 0, none⟩ x0).setCell ⟨C, 1, none⟩ x1).heap[C]? = some (.cells #[x0, x1, y2, y3, y4, y5, y6, y7] t z) := (cells_put h1 x1).trans rfl
  have h3 : (((W.setCell ⟨C, 0, none⟩ x0).setCell ⟨C, 1, none⟩ x1).setCell ⟨C, 2, none⟩ x2).heap[C]? = some (.cells #[x0, x1, x2, y3, y4, y5, y6, y7] t z) := (cells_put h2 x2).trans rfl
  have h4 : ((((W.setCell ⟨C, 0, none⟩ x0).setCell ⟨C, 1, none⟩ x1).setCell ⟨C, 2, none⟩ x2).setCell ⟨C, 3, none⟩ x3).heap[C]? = some (.cells #[x0, x1, x2, x3, y4, y5, y6, y7] t z) := (cells_put h3 x3).trans rfl
  have h5 : (((((W.setCell ⟨C, 0, none⟩ x0).setCell ⟨C, 1, none⟩ x1).setCell ⟨C, 2, none⟩ x2).setCell ⟨C, 3, none⟩ x3).setCell ⟨C, 4, none⟩ x4).heap[C]? = some (.cells #[x0, x1, x2, x3, x4, y5, y6, y7] t z) := (cells_put h4 x4).trans rfl
  have h6 : ((((((W.setCell ⟨C, 0, none⟩ x0).setCell ⟨C, 1, none⟩ x1).setCell ⟨C, 2, none⟩ x2).setCell ⟨C, 3, none⟩ x3).setCell ⟨C, 4, none⟩ x4).setCell ⟨C, 5, none⟩ x5).heap[C]? = some (.cells #[x0, x1, x2, x3, x4, x5, y6, y7] t z) := (cells_put h5 x5).trans rfl
  have h7 : (((((((W.setCell ⟨C, 0, none⟩ x0).setCell ⟨C, 1, none⟩ x1).setCell ⟨C, 2, none⟩ x2).setCell ⟨C, 3, none⟩ x3).setCell ⟨C, 4, none⟩ x4).setCell ⟨C, 5, none⟩ x5).setCell ⟨C, 6, none⟩ x6).heap[C]? = some (.cells #[x0, x1, x2, x3, x4, x5, x6, y7] t z) := (cells_put h6 x6).trans rfl
  have h8 : ((((((((W.setCell ⟨C, 0, none⟩ x0).setCell ⟨C, 1, none⟩ x1).setCell ⟨C, 2, none⟩ x2).setCell ⟨C, 3, none⟩ x3).setCell ⟨C, 4, none⟩ x4).setCell ⟨C, 5, none⟩ x5).setCell ⟨C, 6, none⟩ x6).setCell ⟨C, 7, none⟩ x7).heap[C]? = some (.cells #[x0, x1, x2, x3, x4, x5, x6, x7] t z) := (cells_put h7 x7).trans rfl
  exact h8
theorem eight_below {w W : World} {B C : Nat} (x0 x1 x2 x3 x4 x5 x6 x7 : Value) (h : Below B w W) (hC : B ≤ C) : Below B w ((((((((W.setCell ⟨C, 0, none⟩ x0).setCell ⟨C, 1, none⟩ x1).setCell ⟨C, 2, none⟩ x2).setCell ⟨C, 3, none⟩ x3).setCell ⟨C, 4, none⟩ x4).setCell ⟨C, 5, none⟩ x5).setCell ⟨C, 6, none⟩ x6).setCell ⟨C, 7, none⟩ x7) :=
  ((((((((h.setCell (p := ⟨C, 0, none⟩) hC _).setCell (p := ⟨C, 1, none⟩) hC _).setCell (p := ⟨C, 2, none⟩) hC _).setCell (p := ⟨C, 3, none⟩) hC _).setCell (p := ⟨C, 4, none⟩) hC _).setCell (p := ⟨C, 5, none⟩) hC _).setCell (p := ⟨C, 6, none⟩) hC _).setCell (p := ⟨C, 7, none⟩) hC _)
set_option maxHeartbeats 2000000 in
set_option maxRecDepth 100000 in
theorem readNumbers_any (s : ByteArray) (w : World) (h64 : 64 ≤ s.size) (hs : s.size ≤ 140737488355328) :
    Calls Tryz.prog 37 #[.string s] w fun r w' => r = .returned (.agg (arW (rdW s) 8)) ∧ Below w.heap.size w w' := by
  obtain ⟨B, hB⟩ : ∃ B, w.heap.size = B := ⟨_, rfl⟩
  obtain ⟨w0, hw0⟩ : ∃ w0, (w.alloc (.cells #[.int .u64 0, .int .u64 0, .int .u64 0, .int .u64 0, .int .u64 0, .int .u64 0, .int .u64 0, .int .u64 0] 75)).alloc (.cells #[.int .u64 0, .int .u64 0, .int .u64 0, .int .u64 0, .int .u64 0, .int .u64 0, .int .u64 0, .int .u64 0] 75) = w0 := ⟨_, rfl⟩
  have HK : Hid (w0.heap[B]? = some (.cells #[.int .u64 0, .int .u64 0, .int .u64 0, .int .u64 0, .int .u64 0, .int .u64 0, .int .u64 0, .int .u64 0] 75 (0, 0)) ∧ w0.heap[B + 1]? = some (.cells #[.int .u64 0, .int .u64 0, .int .u64 0, .int .u64 0, .int .u64 0, .int .u64 0, .int .u64 0, .int .u64 0] 75 (0, 0)) ∧ Below B w w0 ∧ w0.heap.size = B + 2) := by
    refine ⟨?_, ?_, ?_, ?_⟩
    · rw [← hw0, ← hB]
      exact (Below.heap_alloc _ _ _ (by simp)).trans (heap_alloc_new w _)
    · have h9 := heap_alloc_new (w.alloc (.cells #[.int .u64 0, .int .u64 0, .int .u64 0, .int .u64 0, .int .u64 0, .int .u64 0, .int .u64 0, .int .u64 0] 75)) (.cells #[.int .u64 0, .int .u64 0, .int .u64 0, .int .u64 0, .int .u64 0, .int .u64 0, .int .u64 0, .int .u64 0] 75)
      rw [World.size_alloc, hB, hw0] at h9
      exact h9
    · rw [← hw0, ← hB]
      exact ((Below.refl _ _).alloc (Nat.le_refl _) _).alloc (by simp) _
    · rw [← hw0, ← hB]
      simp
  have HRD := Hid.mk' (read_any s w0)
  have HF : Hid (∀ g a W, Rdr g s a W → a + 8 ≤ s.size → Calls Tryz.prog 63 #[.pointer (some ⟨g, 0, none⟩), .int .i64 8] W fun e w' => e = .returned (.tuple #[.int .u64 (leAt s a 8 : Int), .int .i64 0]) ∧ Rdr g s (a + 8) w' ∧ Only g W w') := fun g a W h1 h2 => rfix_8 g s a W h1 h2 (by omega)
  have HW : Hid (∀ k, k < 8 → (arW (rdW s) k).setIfInBounds k (.int .u64 (leAt s (8 * k) 8 : Int)) = arW (rdW s) (k + 1)) := fun k hk => by
    rw [← rdW_at s k hk]
    exact arW_set (rdW s) k hk rfl
  have HZ : Hid (arW (rdW s) 0 = #[.int .u64 0, .int .u64 0, .int .u64 0, .int .u64 0, .int .u64 0, .int .u64 0, .int .u64 0, .int .u64 0]) := rfl
  have HS : Hid (∀ k j, k ≤ 8 → j < 8 → ∃ u, (arW (rdW s) k)[j]? = some (.int .u64 u)) := fun k j hk hj => arW_some (rdW s) k j hk rfl hj
  have H8 : Hid (arW (rdW s) 8 = #[.int .u64 (leAt s 0 8 : Int), .int .u64 (leAt s 8 8 : Int), .int .u64 (leAt s 16 8 : Int), .int .u64 (leAt s 24 8 : Int), .int .u64 (leAt s 32 8 : Int), .int .u64 (leAt s 40 8 : Int), .int .u64 (leAt s 48 8 : Int), .int .u64 (leAt s 56 8 : Int)]) := rfl
  generalize arW (rdW s) = A at HW HZ HS H8 ⊢
  go_enter Tryz.func37, Tryz.ntmps37
  go_upto_region 2 with fail
  clear hw0
  go_wp2_with fail
  refine HRD.out.mono ?_
  rintro e w1 ⟨g, hg, rfl, hr1, hb1⟩
  have hgB : B + 2 ≤ g := by have := HK.out.2.2.2; omega
  have HX1 : Hid (w1.heap[B]? = some (.cells #[.int .u64 0, .int .u64 0, .int .u64 0, .int .u64 0, .int .u64 0, .int .u64 0, .int .u64 0, .int .u64 0] 75 (0, 0)) ∧ w1.heap[B + 1]? = some (.cells (A 0) 75 (0, 0)) ∧ Below B w w1 ∧ Rdr g s 0 w1) := by
    obtain ⟨k1, k2, k3, k4⟩ := HK.out
    exact ⟨(hb1.block B (by omega)).trans k1, (hb1.block (B + 1) (by omega)).trans (by rw [HZ.out]; exact k2), k3.trans (hb1.mono (by omega)), hr1⟩
  clear hr1 hb1 hg
  go_wp2_with fail
  go_loopw [5, 8] (fun _ s8 wr => ∃ k : Nat, s8 = .int .i64 (k : Int) ∧ k ≤ 8 ∧ Hid (wr.heap[B]? = some (.cells #[.int .u64 0, .int .u64 0, .int .u64 0, .int .u64 0, .int .u64 0, .int .u64 0, .int .u64 0, .int .u64 0] 75 (0, 0)) ∧ wr.heap[B + 1]? = some (.cells (A k) 75 (0, 0)) ∧ Below B w wr ∧ Rdr g s (8 * k) wr)) (fun _ s8 _ => 8 - (intOf s8).toNat)
  case atStart => exact ⟨0, rfl, by omega, HX1⟩
  case round =>
    obtain ⟨k, rfl, hk, HX⟩ := hrel
    rename World => wr
    clear HX1
    by_cases hk8 : k < 8
    · have hkI : (k : Int) < 8 := by omega
      have hk0 : (0 : Int) ≤ (k : Int) := by omega
      have HFF := Hid.mk' (HF.out g (8 * k) wr HX.out.2.2.2 (by omega))
      have HWK := HW.out k hk8
      obtain ⟨u, hu⟩ := HS.out k k hk hk8
      obtain ⟨x, hx⟩ : ∃ x, leAt s (8 * k) 8 = x := ⟨_, rfl⟩
      rw [hx] at HFF HWK
      have HWW := Hid.mk' HWK
      have HK8 := Hid.mk' hk8
      have HU := Hid.mk' hu
      clear hx hk8 HWK hu
      go_wp2_with fail
      refine HFF.out.mono ?_
      rintro e w2 ⟨rfl, hr2, ho2⟩
      have HY : Hid (w2.heap[B]? = some (.cells #[.int .u64 0, .int .u64 0, .int .u64 0, .int .u64 0, .int .u64 0, .int .u64 0, .int .u64 0, .int .u64 0] 75 (0, 0)) ∧ w2.heap[B + 1]? = some (.cells (A k) 75 (0, 0)) ∧ Below B w w2 ∧ Rdr g s (8 * k + 8) w2) := by
        obtain ⟨k1, k2, k3, k4⟩ := HX.out
        have l1 := (Array.getElem?_eq_some_iff.1 k1).1
        have l2 := (Array.getElem?_eq_some_iff.1 k2).1
        exact ⟨(ho2.block B l1 (by omega)).trans k1, (ho2.block (B + 1) l2 (by omega)).trans k2, k3.trans (ho2.below (by omega) (by omega)), hr2⟩
      have c1 := cell_at (k := k) HY.out.2.1 HU.out
      have f1 := frozen_at (k := k) HY.out.2.1
      clear hr2 ho2 HX
      go_wp2_with fail
      go_roundw
      case rel => exact ⟨k + 1, by simp, HK8.out, (put_other w2 (B + 1) k B _ (by omega)).trans HY.out.1, (cells_put HY.out.2.1 _).trans (by rw [HWW.out]), HY.out.2.2.1.setCell (p := ⟨B + 1, k, none⟩) (by show B ≤ B + 1; omega) _, by rw [show 8 * (k + 1) = 8 * k + 8 by omega]; exact (put_other w2 (B + 1) k g _ (by omega)).trans HY.out.2.2.2⟩
      case measure => have := HK8.out; simp [intOf]; omega
    · have hkI : ¬ (k : Int) < 8 := by omega
      have hke : k = 8 := by omega
      rw [hke, H8.out] at HX
      have p0 := cell_at (k := 0) HX.out.2.1 rfl
      have r0 := cell_at (k := 0) HX.out.1 rfl
      have g0 := frozen_at (k := 0) HX.out.1
      have p1 := cell_at (k := 1) HX.out.2.1 rfl
      have r1 := cell_at (k := 1) HX.out.1 rfl
      have g1 := frozen_at (k := 1) HX.out.1
      have p2 := cell_at (k := 2) HX.out.2.1 rfl
      have r2 := cell_at (k := 2) HX.out.1 rfl
      have g2 := frozen_at (k := 2) HX.out.1
      have p3 := cell_at (k := 3) HX.out.2.1 rfl
      have r3 := cell_at (k := 3) HX.out.1 rfl
      have g3 := frozen_at (k := 3) HX.out.1
      have p4 := cell_at (k := 4) HX.out.2.1 rfl
      have r4 := cell_at (k := 4) HX.out.1 rfl
      have g4 := frozen_at (k := 4) HX.out.1
      have p5 := cell_at (k := 5) HX.out.2.1 rfl
      have r5 := cell_at (k := 5) HX.out.1 rfl
      have g5 := frozen_at (k := 5) HX.out.1
      have p6 := cell_at (k := 6) HX.out.2.1 rfl
      have r6 := cell_at (k := 6) HX.out.1 rfl
      have g6 := frozen_at (k := 6) HX.out.1
      have p7 := cell_at (k := 7) HX.out.2.1 rfl
      have r7 := cell_at (k := 7) HX.out.1 rfl
      have g7 := frozen_at (k := 7) HX.out.1
      clear hke
      go_wp2_with fail
      obtain ⟨Y, hY⟩ : ∃ Y, ((((((((wr.setCell ⟨B, 0, none⟩ (.int .u64 (leAt s 0 8 : Int))).setCell ⟨B, 1, none⟩ (.int .u64 (leAt s 8 8 : Int))).setCell ⟨B, 2, none⟩ (.int .u64 (leAt s 16 8 : Int))).setCell ⟨B, 3, none⟩ (.int .u64 (leAt s 24 8 : Int))).setCell ⟨B, 4, none⟩ (.int .u64 (leAt s 32 8 : Int))).setCell ⟨B, 5, none⟩ (.int .u64 (leAt s 40 8 : Int))).setCell ⟨B, 6, none⟩ (.int .u64 (leAt s 48 8 : Int))).setCell ⟨B, 7, none⟩ (.int .u64 (leAt s 56 8 : Int))) = Y := ⟨_, rfl⟩
      have hb9 : Below B w Y := by rw [← hY]; exact eight_below _ _ _ _ _ _ _ _ HX.out.2.2.1 (Nat.le_refl _)
      have hc9 : Y.heap[B]? = some (.cells #[.int .u64 (leAt s 0 8 : Int), .int .u64 (leAt s 8 8 : Int), .int .u64 (leAt s 16 8 : Int), .int .u64 (leAt s 24 8 : Int), .int .u64 (leAt s 32 8 : Int), .int .u64 (leAt s 40 8 : Int), .int .u64 (leAt s 48 8 : Int), .int .u64 (leAt s 56 8 : Int)] 75 (0, 0)) := by rw [← hY]; exact eight_put _ _ _ _ _ _ _ _ HX.out.1
      rw [hY]
      have w0 := cell_at (k := 0) hc9 rfl
      have w1 := cell_at (k := 1) hc9 rfl
      have w2 := cell_at (k := 2) hc9 rfl
      have w3 := cell_at (k := 3) hc9 rfl
      have w4 := cell_at (k := 4) hc9 rfl
      have w5 := cell_at (k := 5) hc9 rfl
      have w6 := cell_at (k := 6) hc9 rfl
      have w7 := cell_at (k := 7) hc9 rfl
      rw [H8.out]
      exact bodyPost_ret (v := .agg #[.int .u64 (leAt s 0 8 : Int), .int .u64 (leAt s 8 8 : Int), .int .u64 (leAt s 16 8 : Int), .int .u64 (leAt s 24 8 : Int), .int .u64 (leAt s 32 8 : Int), .int .u64 (leAt s 40 8 : Int), .int .u64 (leAt s 48 8 : Int), .int .u64 (leAt s 56 8 : Int)]) (by simp [results, Tryz.results37, go_sem, w0, w1, w2, w3, w4, w5, w6, w7]) rfl ⟨rfl, hb9⟩
end Go.Proofs.YtlplbnlfajdcbaaGreatDoor
