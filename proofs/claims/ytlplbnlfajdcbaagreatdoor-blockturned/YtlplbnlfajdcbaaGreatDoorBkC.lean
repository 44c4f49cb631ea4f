/-
  block: what lines say of themselves, in a head. Conditions: as each says.
-/
import Derived.Test.YtlplbnlfajdcbaaGreatDoorMgE
import Derived.Test.YtlplbnlfajdcbaaGreatDoorRcI
import Derived.Lib.MinMax
namespace Go.Proofs.YtlplbnlfajdcbaaGreatDoor
open Go.RowKit
set_option linter.unusedVariables false
set_option linter.unusedSimpArgs false
def mnK (l : List Rec.Ln) (k : Nat) : Int := Rec.mn (l.take (max k 1))
def mxK (l : List Rec.Ln) (k : Nat) : Int := Rec.mx (l.take (max k 1))
theorem take_one (l : List Rec.Ln) (h : 0 < l.length) : l.take 1 = [l.getD 0 (0, ⟨#[]⟩)] := by
  cases l with
  | nil => simp at h
  | cons x l => rfl
theorem mnK_zero (l : List Rec.Ln) (h : 0 < l.length) : mnK l 0 = (l.getD 0 (0, ⟨#[]⟩)).1 := by
  unfold mnK
  rw [show max 0 1 = 1 by rfl, take_one l h]
  rfl
theorem mxK_zero (l : List Rec.Ln) (h : 0 < l.length) : mxK l 0 = (l.getD 0 (0, ⟨#[]⟩)).1 := by
  unfold mxK
  rw [show max 0 1 = 1 by rfl, take_one l h]
  rfl
theorem take_snoc (l : List Rec.Ln) (k : Nat) (h : k < l.length) : l.take (k + 1) = l.take k ++ [l.getD k (0, ⟨#[]⟩)] := by
  rw [List.take_succ_eq_append_getElem h, List.getD_eq_getElem?_getD, List.getElem?_eq_getElem h]
  rfl
theorem mnK_step (l : List Rec.Ln) (k : Nat) (h : k < l.length) : mnK l (k + 1) = min (mnK l k) (l.getD k (0, ⟨#[]⟩)).1 := by
  by_cases h0 : k = 0
  · subst h0
    rw [mnK_zero l h]
    unfold mnK
    rw [show max (0 + 1) 1 = 1 by rfl, take_one l h]
    show (l.getD 0 (0, ⟨#[]⟩)).1 = _
    omega
  · unfold mnK
    rw [Nat.max_eq_left (by omega), Nat.max_eq_left (by omega), take_snoc l k h, Rec.mn_snoc, if_neg (fun e => by have := congrArg List.length e; rw [List.length_take, List.length_nil] at this; omega)]
theorem mxK_step (l : List Rec.Ln) (k : Nat) (h : k < l.length) : mxK l (k + 1) = max (mxK l k) (l.getD k (0, ⟨#[]⟩)).1 := by
  by_cases h0 : k = 0
  · subst h0
    rw [mxK_zero l h]
    unfold mxK
    rw [show max (0 + 1) 1 = 1 by rfl, take_one l h]
    show (l.getD 0 (0, ⟨#[]⟩)).1 = _
    omega
  · unfold mxK
    rw [Nat.max_eq_left (by omega), Nat.max_eq_left (by omega), take_snoc l k h, Rec.mx_snoc, if_neg (fun e => by have := congrArg List.length e; rw [List.length_take, List.length_nil] at this; omega)]
theorem mnK_all (l : List Rec.Ln) (h : 0 < l.length) : mnK l l.length = Rec.mn l := by
  unfold mnK
  rw [Nat.max_eq_left (by omega), List.take_length]
theorem mxK_all (l : List Rec.Ln) (h : 0 < l.length) : mxK l l.length = Rec.mx l := by
  unfold mxK
  rw [Nat.max_eq_left (by omega), List.take_length]
theorem cells_put {W : World} {B k : Nat} {cs : Array Value} {t : TypeId} {z : Nat × Nat} (h : W.heap[B]? = some (.cells cs t z)) (u : Value) : (W.setCell ⟨B, k, none⟩ u).heap[B]? = some (.cells (cs.setIfInBounds k u) t z) := by
  simp [World.setCell, Array.getElem?_modify, h]
theorem put_other (W : World) (B k j : Nat) (u : Value) (h : j ≠ B) : (W.setCell ⟨B, k, none⟩ u).heap[j]? = W.heap[j]? := by
  simp only [World.setCell]
  rw [Array.getElem?_modify, if_neg (fun e => h e.symm)]
theorem cell_at {W : World} {B k : Nat} {cs : Array Value} {t : TypeId} {z : Nat × Nat} {u : Value} (h : W.heap[B]? = some (.cells cs t z)) (hk : cs[k]? = some u) : W.cell? ⟨B, k, none⟩ = some u := by
  simp [World.cell?, h, hk]
theorem frozen_at {W : World} {B k : Nat} {cs : Array Value} {t : TypeId} (h : W.heap[B]? = some (.cells cs t (0, 0))) : W.frozen? ⟨B, k, none⟩ = false := by
  simp [World.frozen?, h]
theorem nine_put {W : World} {C : Nat} {t : TypeId} {z : Nat × Nat} {y0 y1 y2 y3 y4 y5 y6 y7 y8 : Value} (x0 x1 x2 x3 x4 x5 x6 x7 x8 : Value) (h0 : W.heap[C]? = some (.cells #[y0, y1, y2, y3, y4, y5, y6, y7, y8] t z)) : (((((((((W.setCell ⟨C, 0, none⟩ x0).setCell ⟨C, 1, none⟩ x1).setCell ⟨C, 2, none⟩ x2).setCell ⟨C, 3, none⟩ x3).setCell ⟨C, 4, none⟩ x4).setCell ⟨C, 5, none⟩ x5).setCell ⟨C, 6, none⟩ x6).setCell ⟨C, 7, none⟩ x7).setCell ⟨C, 8, none⟩ x8).heap[C]? = some (.cells #[x0, x1, x2, x3, x4, x5, x6, x7, x8] t z) := by
  have h1 : (W.setCell ⟨C, 0, none⟩ x0).heap[C]? = some (.cells #[x0, y1, y2, y3, y4, y5, y6, y7, y8] t z) := (cells_put h0 x0).trans rfl
  have h2 : ((W.setCell ⟨C, 0, none⟩ x0).setCell ⟨C, 1, none⟩ x1).heap[C]? = some (.cells #[x0, x1, y2, y3, y4, y5, y6, y7, y8] t z) := (cells_put h1 x1).trans rfl
  have h3 : (((W.setCell ⟨C, 0, none⟩ x0).setCell ⟨C, 1, none⟩ x1).setCell ⟨C, 2, none⟩ x2).heap[C]? = some (.cells #[x0, x1, x2, y3, y4, y5, y6, y7, y8] t z) := (cells_put h2 x2).trans rfl
  have h4 : ((((W.setCell ⟨C, 0, none⟩ x0).setCell ⟨C, 1, none⟩ x1).setCell ⟨C, 2, none⟩ x2).setCell ⟨C, 3, none⟩ x3).heap[C]? = some (.cells #[x0, x1, x2, x3, y4, y5, y6, y7, y8] t z) := (cells_put h3 x3).trans rfl
  have h5 : (((((W.setCell ⟨C, 0, none⟩ x0).setCell ⟨C, 1, none⟩ x1).setCell ⟨C, 2, none⟩ x2).setCell ⟨C, 3, none⟩ x3).setCell ⟨C, 4, none⟩ x4).heap[C]? = some (.cells #[x0, x1, x2, x3, x4, y5, y6, y7, y8] t z) := (cells_put h4 x4).trans rfl
  have h6 : ((((((W.setCell ⟨C, 0, none⟩ x0).setCell ⟨C, 1, none⟩ x1).setCell ⟨C, 2, none⟩ x2).setCell ⟨C, 3, none⟩ x3).setCell ⟨C, 4, none⟩ x4).setCell ⟨C, 5, none⟩ x5).heap[C]? = some (.cells #[x0, x1, x2, x3, x4, x5, y6, y7, y8] t z) := (cells_put h5 x5).trans rfl
  have h7 : (((((((W.setCell ⟨C, 0, none⟩ x0).setCell ⟨C, 1, none⟩ x1).setCell ⟨C, 2, none⟩ x2).setCell ⟨C, 3, none⟩ x3).setCell ⟨C, 4, none⟩ x4).setCell ⟨C, 5, none⟩ x5).setCell ⟨C, 6, none⟩ x6).heap[C]? = some (.cells #[x0, x1, x2, x3, x4, x5, x6, y7, y8] t z) := (cells_put h6 x6).trans rfl
  have h8 : ((((((((W.setCell ⟨C, 0, none⟩ x0).setCell ⟨C, 1, none⟩ x1).setCell ⟨C, 2, none⟩ x2).setCell ⟨C, 3, none⟩ x3).setCell ⟨C, 4, none⟩ x4).setCell ⟨C, 5, none⟩ x5).setCell ⟨C, 6, none⟩ x6).setCell ⟨C, 7, none⟩ x7).heap[C]? = some (.cells #[x0, x1, x2, x3, x4, x5, x6, x7, y8] t z) := (cells_put h7 x7).trans rfl
  have h9 : (((((((((W.setCell ⟨C, 0, none⟩ x0).setCell ⟨C, 1, none⟩ x1).setCell ⟨C, 2, none⟩ x2).setCell ⟨C, 3, none⟩ x3).setCell ⟨C, 4, none⟩ x4).setCell ⟨C, 5, none⟩ x5).setCell ⟨C, 6, none⟩ x6).setCell ⟨C, 7, none⟩ x7).setCell ⟨C, 8, none⟩ x8).heap[C]? = some (.cells #[x0, x1, x2, x3, x4, x5, x6, x7, x8] t z) := (cells_put h8 x8).trans rfl
  exact h9
theorem nine_below {w W : World} {B C : Nat} (x0 x1 x2 x3 x4 x5 x6 x7 x8 : Value) (h : Below B w W) (hC : B ≤ C) : Below B w (((((((((W.setCell ⟨C, 0, none⟩ x0).setCell ⟨C, 1, none⟩ x1).setCell ⟨C, 2, none⟩ x2).setCell ⟨C, 3, none⟩ x3).setCell ⟨C, 4, none⟩ x4).setCell ⟨C, 5, none⟩ x5).setCell ⟨C, 6, none⟩ x6).setCell ⟨C, 7, none⟩ x7).setCell ⟨C, 8, none⟩ x8) :=
  (((((((((h.setCell (p := ⟨C, 0, none⟩) hC _).setCell (p := ⟨C, 1, none⟩) hC _).setCell (p := ⟨C, 2, none⟩) hC _).setCell (p := ⟨C, 3, none⟩) hC _).setCell (p := ⟨C, 4, none⟩) hC _).setCell (p := ⟨C, 5, none⟩) hC _).setCell (p := ⟨C, 6, none⟩) hC _).setCell (p := ⟨C, 7, none⟩) hC _).setCell (p := ⟨C, 8, none⟩) hC _)
set_option maxHeartbeats 2000000 in
set_option maxRecDepth 100000 in
theorem counted_any (a b c d e f g h i : Int) (v : Value) (l : List Rec.Ln) (w : World) (hv : LsAt v l w) (h0 : 0 < l.length) (hl : l.length ≤ 1125899906842624) :
    Calls Tryz.prog 32 #[hdV a b c d e f g h i, v] w fun r w' => r = .returned (hdV a b (l.length : Int) (Rec.mn l) (Rec.mx l) f g h i) ∧ Below w.heap.size w w' := by
  obtain ⟨ad, cp, rfl, k1⟩ := hv
  obtain ⟨q, off, rfl, hq, hc⟩ := k1 h0
  obtain ⟨n, hn⟩ : ∃ n, n = l.length := ⟨_, rfl⟩
  obtain ⟨B, hB⟩ : ∃ B, B = w.heap.size := ⟨_, rfl⟩
  have HC : Hid (∀ W, Below B w W → ∀ k, k < n → W.cell? ⟨q, off + k * 2, none⟩ = some (.int .i64 (l.getD k (0, ⟨#[]⟩)).1) ∧ W.cell? ⟨q, off + k * 2 + 1, none⟩ = some (.string (l.getD k (0, ⟨#[]⟩)).2)) := fun W hW k hk => by
    have hqb : q < B := by rw [hB]; exact hq
    exact ⟨(hW.cell (p := ⟨q, off + k * 2, none⟩) hqb).trans (hc k (by omega)).1, (hW.cell (p := ⟨q, off + k * 2 + 1, none⟩) hqb).trans (hc k (by omega)).2⟩
  have HN := Hid.mk' hn
  have HST : Hid (∀ k, k < n → mnK l (k + 1) = min (mnK l k) (l.getD k (0, ⟨#[]⟩)).1 ∧ mxK l (k + 1) = max (mxK l k) (l.getD k (0, ⟨#[]⟩)).1) := fun k hk => ⟨mnK_step l k (by omega), mxK_step l k (by omega)⟩
  have H0 : Hid (mnK l 0 = (l.getD 0 (0, ⟨#[]⟩)).1 ∧ mxK l 0 = (l.getD 0 (0, ⟨#[]⟩)).1) := ⟨mnK_zero l h0, mxK_zero l h0⟩
  have HA : Hid (mnK l n = Rec.mn l ∧ mxK l n = Rec.mx l) := by rw [hn]; exact ⟨mnK_all l h0, mxK_all l h0⟩
  rw [← hn] at h0 hl ⊢
  unfold hdV
  obtain ⟨w0, hw0⟩ : ∃ w0, w0 = (w.alloc (.cells #[.int .i64 a, .int .i64 b, .int .i64 c, .int .i64 d, .int .i64 e, .int .i64 f, .int .i64 g, .int .i64 h, .int .i64 i] 23)).alloc (.cells #[.int .i64 0, .int .i64 0, .int .i64 0, .int .i64 0, .int .i64 0, .int .i64 0, .int .i64 0, .int .i64 0, .int .i64 0] 23) := ⟨_, rfl⟩
  have hb0 : Below B w w0 := by rw [hw0, hB]; exact ((Below.refl _ _).alloc (Nat.le_refl _) _).alloc (by simp) _
  have c0 := HC.out w0 hb0 0 h0
  obtain ⟨x0, t0, hx0⟩ : ∃ x t, l.getD 0 (0, ⟨#[]⟩) = (x, t) := ⟨_, _, rfl⟩
  rw [hx0] at c0 H0
  simp only [Nat.zero_mul, Nat.add_zero] at c0
  have c00 := c0.1
  have h0' : (0 : Int) < (n : Int) := by omega
  have HW0 : Hid (w0 = _) := hw0
  have HB0 := Hid.mk' hb0
  have HBB := Hid.mk' hB
  have HLL := Hid.mk' hl
  clear hc hn k1 hx0 c0 hw0 hb0 hB
  go_enter Tryz.func32, Tryz.ntmps32
  go_wp2_with fail
  rw [← HW0.out, ← HBB.out]
  have hqB : ¬ q = B := by rw [HBB.out]; omega
  have hqB2 : ¬ B = q := by rw [HBB.out]; omega
  have k0 : w0.heap[B]? = some (.cells #[.int .i64 a, .int .i64 b, .int .i64 c, .int .i64 d, .int .i64 e, .int .i64 f, .int .i64 g, .int .i64 h, .int .i64 i] 23 (0, 0)) := by
    rw [HW0.out, HBB.out]
    exact (Below.heap_alloc _ _ _ (by simp)).trans (heap_alloc_new w _)
  have k9 : w0.heap[B + 1]? = some (.cells #[.int .i64 0, .int .i64 0, .int .i64 0, .int .i64 0, .int .i64 0, .int .i64 0, .int .i64 0, .int .i64 0, .int .i64 0] 23 (0, 0)) := by
    rw [HW0.out, HBB.out]
    have h9 := heap_alloc_new (w.alloc (.cells #[.int .i64 a, .int .i64 b, .int .i64 c, .int .i64 d, .int .i64 e, .int .i64 f, .int .i64 g, .int .i64 h, .int .i64 i] 23)) (.cells #[.int .i64 0, .int .i64 0, .int .i64 0, .int .i64 0, .int .i64 0, .int .i64 0, .int .i64 0, .int .i64 0, .int .i64 0] 23)
    rw [World.size_alloc] at h9
    exact h9
  have s2 : w0.cell? ⟨B, 2, none⟩ = some (.int .i64 c) := by simp [World.cell?, k0]
  have s3 : w0.cell? ⟨B, 3, none⟩ = some (.int .i64 d) := by simp [World.cell?, k0]
  have s4 : w0.cell? ⟨B, 4, none⟩ = some (.int .i64 e) := by simp [World.cell?, k0]
  have f2 : w0.frozen? ⟨B, 2, none⟩ = false := by simp [World.frozen?, k0]
  have f3 : w0.frozen? ⟨B, 3, none⟩ = false := by simp [World.frozen?, k0]
  have f4 : w0.frozen? ⟨B, 4, none⟩ = false := by simp [World.frozen?, k0]
  have HK0 := Hid.mk' (And.intro k0 k9)
  clear k0 k9
  go_cut [7, 8, 9, 10, 11, 12, 13, 14, 15, 16, 17, 18, 19] (fun _ _ _ _ _ _ _ _ _ _ _ _ _ wx => Hid (wx.heap[B]? = some (.cells #[.int .i64 a, .int .i64 b, .int .i64 (n : Int), .int .i64 x0, .int .i64 x0, .int .i64 f, .int .i64 g, .int .i64 h, .int .i64 i] 23 (0, 0)) ∧ wx.heap[B + 1]? = some (.cells #[.int .i64 0, .int .i64 0, .int .i64 0, .int .i64 0, .int .i64 0, .int .i64 0, .int .i64 0, .int .i64 0, .int .i64 0] 23 (0, 0)) ∧ Below B w wx))
  case first =>
    go_region
    all_goals (go_wp2_with fail; go_meet)
    all_goals exact ⟨(cells_put (cells_put (cells_put HK0.out.1 _) _) _).trans rfl, ((put_other _ B 4 (B + 1) _ (by omega)).trans ((put_other _ B 3 (B + 1) _ (by omega)).trans (put_other _ B 2 (B + 1) _ (by omega)))).trans HK0.out.2, (((HB0.out.setCell (p := ⟨B, 2, none⟩) (Nat.le_refl _) _).setCell (p := ⟨B, 3, none⟩) (Nat.le_refl _) _).setCell (p := ⟨B, 4, none⟩) (Nat.le_refl _) _).drewN' 1⟩
  case rest =>
    rename_i wx _
    have HX := hcut
    clear s2 s3 s4 f2 f3 f4 c00 hcut
    go_wp2_with fail
    go_loopw [6, 22] (fun _ s22 wr => ∃ k : Nat, s22 = .int .i64 (k : Int) ∧ k ≤ n ∧ Hid (wr.heap[B]? = some (.cells #[.int .i64 a, .int .i64 b, .int .i64 (n : Int), .int .i64 (mnK l k), .int .i64 (mxK l k), .int .i64 f, .int .i64 g, .int .i64 h, .int .i64 i] 23 (0, 0)) ∧ wr.heap[B + 1]? = some (.cells #[.int .i64 0, .int .i64 0, .int .i64 0, .int .i64 0, .int .i64 0, .int .i64 0, .int .i64 0, .int .i64 0, .int .i64 0] 23 (0, 0)) ∧ Below B w wr)) (fun _ s22 _ => n - (intOf s22).toNat)
    case atStart => exact ⟨0, rfl, by omega, by rw [H0.out.1, H0.out.2]; exact HX⟩
    case round =>
      obtain ⟨k, rfl, hk, HY⟩ := hrel
      rename World => wr
      clear HX
      by_cases hkn : k < n
      · have hkI : (k : Int) < (n : Int) := by omega
        have hk0 : (0 : Int) ≤ (k : Int) := by omega
        obtain ⟨x, tx, hxt⟩ : ∃ x t, l.getD k (0, ⟨#[]⟩) = (x, t) := ⟨_, _, rfl⟩
        have e0 := (HC.out wr HY.out.2.2 k hkn).1
        have e1 := (HC.out wr HY.out.2.2 k hkn).2
        rw [hxt] at e0 e1
        have hst := HST.out k hkn
        rw [hxt] at hst
        have HSS := Hid.mk' hst
        have HKN := Hid.mk' hkn
        have hsz := HY.out.2.2.size
        obtain ⟨X, hX⟩ : ∃ X, wr.alloc (.cells #[.int .i64 x, .string tx] 26) = X := ⟨_, rfl⟩
        obtain ⟨Z, hZ⟩ : ∃ Z, wr.heap.size = Z := ⟨_, rfl⟩
        have hB1 := (Array.getElem?_eq_some_iff.1 HY.out.2.1).1
        have x0 : X.heap[B]? = some (.cells #[.int .i64 a, .int .i64 b, .int .i64 (n : Int), .int .i64 (mnK l k), .int .i64 (mxK l k), .int .i64 f, .int .i64 g, .int .i64 h, .int .i64 i] 23 (0, 0)) := by rw [← hX]; exact (Below.heap_alloc _ _ _ (by omega)).trans HY.out.1
        have x1 : X.heap[B + 1]? = some (.cells #[.int .i64 0, .int .i64 0, .int .i64 0, .int .i64 0, .int .i64 0, .int .i64 0, .int .i64 0, .int .i64 0, .int .i64 0] 23 (0, 0)) := by rw [← hX]; exact (Below.heap_alloc _ _ _ (by omega)).trans HY.out.2.1
        have x2 : X.heap[Z]? = some (.cells #[.int .i64 x, .string tx] 26 (0, 0)) := by rw [← hX, ← hZ]; exact heap_alloc_new _ _
        have x3 : Below B w X := by rw [← hX]; exact HY.out.2.2.alloc (by omega) _
        have hZB : Z ≠ B := by omega
        have HXX := Hid.mk' (And.intro x0 (And.intro x1 (And.intro x2 x3)))
        clear hst hxt hkn hB1 hk x0 x1 x2 x3 HY
        go_upto_region 5 with fail
        have y1 := cell_at (k := 3) HXX.out.1 rfl
        have y2 := cell_at (k := 0) HXX.out.2.2.1 rfl
        have y3 := frozen_at (k := 3) HXX.out.1
        have z0 : (X.setCell ⟨B, 3, none⟩ (.int .i64 (min (mnK l k) x))).heap[B]? = some (.cells #[.int .i64 a, .int .i64 b, .int .i64 (n : Int), .int .i64 (min (mnK l k) x), .int .i64 (mxK l k), .int .i64 f, .int .i64 g, .int .i64 h, .int .i64 i] 23 (0, 0)) := (cells_put HXX.out.1 _).trans rfl
        have z1 := cell_at (k := 4) z0 rfl
        have z2 := frozen_at (k := 4) z0
        have z3 : (X.setCell ⟨B, 3, none⟩ (.int .i64 (min (mnK l k) x))).cell? ⟨Z, 0, none⟩ = some (.int .i64 x) := cell_at (k := 0) ((put_other X B 3 Z _ hZB).trans HXX.out.2.2.1) rfl
        have HZ0 := Hid.mk' z0
        clear z0 hX hZ
        go_wp2_with fail
        go_roundw
        case rel => exact ⟨k + 1, by simp, HKN.out, by rw [HSS.out.1, HSS.out.2]; exact ⟨(cells_put HZ0.out _).trans rfl, ((put_other _ B 4 (B + 1) _ (by omega)).trans (put_other _ B 3 (B + 1) _ (by omega))).trans HXX.out.2.1, (HXX.out.2.2.2.setCell (p := ⟨B, 3, none⟩) (Nat.le_refl _) _).setCell (p := ⟨B, 4, none⟩) (Nat.le_refl _) _⟩⟩
        case measure => have := HKN.out; simp [intOf]; omega
      · have hkI : ¬ (k : Int) < (n : Int) := by omega
        have hke : k = n := by omega
        rw [hke, HA.out.1, HA.out.2] at HY
        have p0 := cell_at (k := 0) HY.out.1 rfl
        have r0 := cell_at (k := 0) HY.out.2.1 rfl
        have g0 := frozen_at (k := 0) HY.out.2.1
        have p1 := cell_at (k := 1) HY.out.1 rfl
        have r1 := cell_at (k := 1) HY.out.2.1 rfl
        have g1 := frozen_at (k := 1) HY.out.2.1
        have p2 := cell_at (k := 2) HY.out.1 rfl
        have r2 := cell_at (k := 2) HY.out.2.1 rfl
        have g2 := frozen_at (k := 2) HY.out.2.1
        have p3 := cell_at (k := 3) HY.out.1 rfl
        have r3 := cell_at (k := 3) HY.out.2.1 rfl
        have g3 := frozen_at (k := 3) HY.out.2.1
        have p4 := cell_at (k := 4) HY.out.1 rfl
        have r4 := cell_at (k := 4) HY.out.2.1 rfl
        have g4 := frozen_at (k := 4) HY.out.2.1
        have p5 := cell_at (k := 5) HY.out.1 rfl
        have r5 := cell_at (k := 5) HY.out.2.1 rfl
        have g5 := frozen_at (k := 5) HY.out.2.1
        have p6 := cell_at (k := 6) HY.out.1 rfl
        have r6 := cell_at (k := 6) HY.out.2.1 rfl
        have g6 := frozen_at (k := 6) HY.out.2.1
        have p7 := cell_at (k := 7) HY.out.1 rfl
        have r7 := cell_at (k := 7) HY.out.2.1 rfl
        have g7 := frozen_at (k := 7) HY.out.2.1
        have p8 := cell_at (k := 8) HY.out.1 rfl
        have r8 := cell_at (k := 8) HY.out.2.1 rfl
        have g8 := frozen_at (k := 8) HY.out.2.1
        go_wp2_with fail
        obtain ⟨Y, hY⟩ : ∃ Y, (((((((((wr.setCell ⟨B + 1, 0, none⟩ (.int .i64 a)).setCell ⟨B + 1, 1, none⟩ (.int .i64 b)).setCell ⟨B + 1, 2, none⟩ (.int .i64 (n : Int))).setCell ⟨B + 1, 3, none⟩ (.int .i64 (Rec.mn l))).setCell ⟨B + 1, 4, none⟩ (.int .i64 (Rec.mx l))).setCell ⟨B + 1, 5, none⟩ (.int .i64 f)).setCell ⟨B + 1, 6, none⟩ (.int .i64 g)).setCell ⟨B + 1, 7, none⟩ (.int .i64 h)).setCell ⟨B + 1, 8, none⟩ (.int .i64 i)) = Y := ⟨_, rfl⟩
        have hb9 : Below B w Y := by rw [← hY]; exact nine_below _ _ _ _ _ _ _ _ _ HY.out.2.2 (Nat.le_succ _)
        have hc9 : Y.heap[B + 1]? = some (.cells #[.int .i64 a, .int .i64 b, .int .i64 (n : Int), .int .i64 (Rec.mn l), .int .i64 (Rec.mx l), .int .i64 f, .int .i64 g, .int .i64 h, .int .i64 i] 23 (0, 0)) := by rw [← hY]; exact nine_put _ _ _ _ _ _ _ _ _ HY.out.2.1
        rw [hY]
        have w0 := cell_at (k := 0) hc9 rfl
        have w1 := cell_at (k := 1) hc9 rfl
        have w2 := cell_at (k := 2) hc9 rfl
        have w3 := cell_at (k := 3) hc9 rfl
        have w4 := cell_at (k := 4) hc9 rfl
        have w5 := cell_at (k := 5) hc9 rfl
        have w6 := cell_at (k := 6) hc9 rfl
        have w7 := cell_at (k := 7) hc9 rfl
        have w8 := cell_at (k := 8) hc9 rfl
        exact bodyPost_ret (v := .agg #[.int .i64 a, .int .i64 b, .int .i64 (n : Int), .int .i64 (Rec.mn l), .int .i64 (Rec.mx l), .int .i64 f, .int .i64 g, .int .i64 h, .int .i64 i]) (by simp [results, Tryz.results32, go_sem, w0, w1, w2, w3, w4, w5, w6, w7, w8]) rfl ⟨rfl, by rw [← HBB.out]; exact hb9⟩
end Go.Proofs.YtlplbnlfajdcbaaGreatDoor
