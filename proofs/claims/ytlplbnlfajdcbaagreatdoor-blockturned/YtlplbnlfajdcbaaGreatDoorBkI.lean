/-
  block.Look of bytes that begin with a head. Conditions: as it says.
-/
import Derived.Test.YtlplbnlfajdcbaaGreatDoorBkH
namespace Go.Proofs.YtlplbnlfajdcbaaGreatDoor
open Go.RowKit
set_option linter.unusedVariables false
set_option linter.unusedSimpArgs false
theorem leV_fix : ∀ (k n : Nat), n < 256 ^ k → leV (fixL k n) = n := by
  intro k
  induction k with
  | zero => intro n h; simp at h; subst h; rfl
  | succ k ih =>
    intro n h
    have e : fixL (k + 1) n = n % 256 :: fixL k (n / 256) := by
      unfold fixL
      rw [List.range_succ_eq_map, List.map_cons, List.map_map]
      congr 1
      · simp
      · apply List.map_congr_left
        intro q _
        show n / 256 ^ (q + 1) % 256 = n / 256 / 256 ^ q % 256
        rw [Nat.div_div_eq_div_mul, Nat.pow_succ, Nat.mul_comm]
    rw [e, leV, ih (n / 256) (by rw [Nat.pow_succ] at h; omega)]
    omega
theorem flat_at (ws : List Nat) (k : Nat) (hk : k < ws.length) : ((ws.flatMap (fixL 8)).drop (8 * k)).take 8 = fixL 8 (ws.getD k 0) := by
  have h1 : ws = ws.take k ++ ws.drop k := (List.take_append_drop k ws).symm
  have h2 : ws.drop k = ws.getD k 0 :: ws.drop (k + 1) := by
    rw [List.drop_eq_getElem_cons hk, List.getD_eq_getElem?_getD, List.getElem?_eq_getElem hk]
    rfl
  have h3 : ((ws.take k).flatMap (fixL 8)).length = 8 * k := by
    rw [flat_len, List.length_take, Nat.min_eq_left (by omega)]
  have h4 : ws.flatMap (fixL 8) = (ws.take k).flatMap (fixL 8) ++ (fixL 8 (ws.getD k 0) ++ (ws.drop (k + 1)).flatMap (fixL 8)) := by
    rw [← List.flatMap_cons, ← h2, ← List.flatMap_append, List.take_append_drop]
  rw [h4, List.drop_append_of_le_length (by omega), ← h3, List.drop_length, List.nil_append, List.take_append_of_le_length (by rw [fixL_len]; omega), List.take_of_length_le (by rw [fixL_len]; omega)]
theorem leAt_flat (ws : List Nat) (k : Nat) (hk : k < ws.length) (hw : ws.getD k 0 < 256 ^ 8) : leAt (nums (ws.flatMap (fixL 8))) (8 * k) 8 = ws.getD k 0 := by
  unfold leAt
  rw [bl_nums _ (flat_byt ws), flat_at ws k hk, leV_fix 8 _ hw]
theorem OkW.lt {a b c d e f h i : Nat} (o : OkW a b c d e f h i) : ∀ x ∈ [a, b, c, d, e, f, h, i], x < 256 ^ 8 := by
  obtain ⟨a1, b1, c0, c1, d1, e0, e1, f1, h0, h1, i0, i1⟩ := o
  intro x hx
  have h9 : (256 : Nat) ^ 8 = 18446744073709551616 := by decide
  rw [h9]
  simp at hx
  omega
theorem rdW_flat {a b c d e f h i : Nat} (o : OkW a b c d e f h i) : arW (rdW (nums ([a, b, c, d, e, f, h, i].flatMap (fixL 8)))) 8 = #[.int .u64 (a : Int), .int .u64 (b : Int), .int .u64 (c : Int), .int .u64 (d : Int), .int .u64 (e : Int), .int .u64 (f : Int), .int .u64 (h : Int), .int .u64 (i : Int)] := by
  have hat : ∀ k, k < 8 → leAt (nums ([a, b, c, d, e, f, h, i].flatMap (fixL 8))) (8 * k) 8 = [a, b, c, d, e, f, h, i].getD k 0 := fun k hk => leAt_flat [a, b, c, d, e, f, h, i] k hk (all_getD _ o.lt k hk)
  have g0 := hat 0 (by decide)
  have g1 := hat 1 (by decide)
  have g2 := hat 2 (by decide)
  have g3 := hat 3 (by decide)
  have g4 := hat 4 (by decide)
  have g5 := hat 5 (by decide)
  have g6 := hat 6 (by decide)
  have g7 := hat 7 (by decide)
  have e : rdW (nums ([a, b, c, d, e, f, h, i].flatMap (fixL 8))) = [a, b, c, d, e, f, h, i] := by
    unfold rdW
    have q0 : leAt (nums ([a, b, c, d, e, f, h, i].flatMap (fixL 8))) 0 8 = a := g0
    have q1 : leAt (nums ([a, b, c, d, e, f, h, i].flatMap (fixL 8))) 8 8 = b := g1
    have q2 : leAt (nums ([a, b, c, d, e, f, h, i].flatMap (fixL 8))) 16 8 = c := g2
    have q3 : leAt (nums ([a, b, c, d, e, f, h, i].flatMap (fixL 8))) 24 8 = d := g3
    have q4 : leAt (nums ([a, b, c, d, e, f, h, i].flatMap (fixL 8))) 32 8 = e := g4
    have q5 : leAt (nums ([a, b, c, d, e, f, h, i].flatMap (fixL 8))) 40 8 = f := g5
    have q6 : leAt (nums ([a, b, c, d, e, f, h, i].flatMap (fixL 8))) 48 8 = h := g6
    have q7 : leAt (nums ([a, b, c, d, e, f, h, i].flatMap (fixL 8))) 56 8 = i := g7
    rw [q0, q1, q2, q3, q4, q5, q6, q7]
  rw [e]
  rfl
theorem hdL_eq (ws : List Nat) (g : Nat) (h : ws.length = 8) : hdL ws g = [68, 82, 71, 49] ++ ws.flatMap (fixL 8) ++ [g % 256] := by
  unfold hdL hpre
  rw [List.take_of_length_le (by omega)]
  have e : fixL 1 g = [g % 256] := by
    unfold fixL
    simp
  rw [e]
theorem eight_other {W : World} {C j : Nat} (x0 x1 x2 x3 x4 x5 x6 x7 : Value) (h : j ≠ C) : ((((((((W.setCell ⟨C, 0, none⟩ x0).setCell ⟨C, 1, none⟩ x1).setCell ⟨C, 2, none⟩ x2).setCell ⟨C, 3, none⟩ x3).setCell ⟨C, 4, none⟩ x4).setCell ⟨C, 5, none⟩ x5).setCell ⟨C, 6, none⟩ x6).setCell ⟨C, 7, none⟩ x7).heap[j]? = W.heap[j]? :=
  ((((((((put_other _ C 7 j x7 h)).trans (put_other _ C 6 j x6 h)).trans (put_other _ C 5 j x5 h)).trans (put_other _ C 4 j x4 h)).trans (put_other _ C 3 j x3 h)).trans (put_other _ C 2 j x2 h)).trans (put_other _ C 1 j x1 h)).trans (put_other _ C 0 j x0 h)
theorem look_A {w w1 w' : World} {Rz Az : Array Value} {tH tN : TypeId} (hx : w1.heap[w.heap.size]? = some (.cells Rz tH (0, 0))) (hb1 : Below w.heap.size w w1) (hb : Below w1.heap.size w1 w') : w.heap.size ≤ w'.heap.size ∧ w'.heap.size ≠ w.heap.size ∧ (w'.alloc (.cells Az tN)).heap[w'.heap.size]? = some (.cells Az tN (0, 0)) ∧ (w'.alloc (.cells Az tN)).heap[w.heap.size]? = some (.cells Rz tH (0, 0)) ∧ Below w.heap.size w (w'.alloc (.cells Az tN)) := by
  have h1 := (Array.getElem?_eq_some_iff.1 hx).1
  have h2 := hb.size
  have h3 := hb1.size
  exact ⟨by omega, by omega, heap_alloc_new _ _, (Below.heap_alloc _ _ _ (by omega)).trans ((hb.block _ h1).trans hx), (hb1.trans (hb.mono h3)).alloc (by omega) _⟩
theorem look_B {w w1 w' : World} {Rz : Array Value} {tH tN : TypeId} {y0 y1 y2 y3 y4 y5 y6 y7 : Value} (x0 x1 x2 x3 x4 x5 x6 x7 : Value) (hx : w1.heap[w.heap.size]? = some (.cells Rz tH (0, 0))) (hb1 : Below w.heap.size w w1) (hb : Below (w1.heap.size + 1) (w1.alloc (.cells #[y0, y1, y2, y3, y4, y5, y6, y7] tN)) w') : w.heap.size ≤ w1.heap.size ∧ w1.heap.size ≠ w.heap.size ∧ ((((((((w'.setCell ⟨w1.heap.size, 0, none⟩ x0).setCell ⟨w1.heap.size, 1, none⟩ x1).setCell ⟨w1.heap.size, 2, none⟩ x2).setCell ⟨w1.heap.size, 3, none⟩ x3).setCell ⟨w1.heap.size, 4, none⟩ x4).setCell ⟨w1.heap.size, 5, none⟩ x5).setCell ⟨w1.heap.size, 6, none⟩ x6).setCell ⟨w1.heap.size, 7, none⟩ x7).heap[w1.heap.size]? = some (.cells #[x0, x1, x2, x3, x4, x5, x6, x7] tN (0, 0)) ∧ ((((((((w'.setCell ⟨w1.heap.size, 0, none⟩ x0).setCell ⟨w1.heap.size, 1, none⟩ x1).setCell ⟨w1.heap.size, 2, none⟩ x2).setCell ⟨w1.heap.size, 3, none⟩ x3).setCell ⟨w1.heap.size, 4, none⟩ x4).setCell ⟨w1.heap.size, 5, none⟩ x5).setCell ⟨w1.heap.size, 6, none⟩ x6).setCell ⟨w1.heap.size, 7, none⟩ x7).heap[w.heap.size]? = some (.cells Rz tH (0, 0)) ∧ Below w.heap.size w ((((((((w'.setCell ⟨w1.heap.size, 0, none⟩ x0).setCell ⟨w1.heap.size, 1, none⟩ x1).setCell ⟨w1.heap.size, 2, none⟩ x2).setCell ⟨w1.heap.size, 3, none⟩ x3).setCell ⟨w1.heap.size, 4, none⟩ x4).setCell ⟨w1.heap.size, 5, none⟩ x5).setCell ⟨w1.heap.size, 6, none⟩ x6).setCell ⟨w1.heap.size, 7, none⟩ x7) := by
  have h1 := (Array.getElem?_eq_some_iff.1 hx).1
  have h3 := hb1.size
  have k1 := (hb.block w1.heap.size (by omega)).trans (heap_alloc_new w1 _)
  have k2 := (hb.block w.heap.size (by omega)).trans ((Below.heap_alloc _ _ _ h1).trans hx)
  have k3 : Below w.heap.size w w' := (hb1.alloc h3 (.cells #[y0, y1, y2, y3, y4, y5, y6, y7] tN)).trans (hb.mono (by omega))
  exact ⟨h3, by omega, eight_put _ _ _ _ _ _ _ _ k1, (eight_other _ _ _ _ _ _ _ _ (by omega)).trans k2, eight_below _ _ _ _ _ _ _ _ k3 h3⟩
set_option maxHeartbeats 2000000 in
set_option maxRecDepth 100000 in
theorem look_ok (a b c d e f h i g : Nat) (rest : List Nat) (hr : ∀ z ∈ rest, z < 256) (hrl : rest.length ≤ 1048576) (w : World) (o : OkW a b c d e f h i) (hg : g ≤ 2) (ht : Tab w) :
    Calls Tryz.prog 16 #[.string (nums (smd (hdL [a, b, c, d, e, f, h, i] g) ++ rest))] w fun r w' => r = .returned (.tuple #[hdV a b c d e f g h i, .nilIface]) ∧ Below w.heap.size w w' := by
  obtain ⟨ws, hws⟩ : ∃ ws, ws = [a, b, c, d, e, f, h, i] := ⟨_, rfl⟩
  have hl8 : ws.length = 8 := by rw [hws]; rfl
  have hA := rdW_flat o
  rw [← hws] at hA ⊢
  have hhd := hdL_eq ws g hl8
  have hhb := hdL_byt ws g
  have hlen := hdL_len ws g hl8
  have hm : ∀ z ∈ [68, 82, 71, 49], z < 256 := by decide
  have hf := flat_byt ws
  have hfl : (ws.flatMap (fixL 8)).length = 64 := by rw [flat_len, hl8]
  obtain ⟨hd, hhe⟩ : ∃ hd, hdL ws g = hd := ⟨_, rfl⟩
  rw [hhe] at hhd hhb hlen ⊢
  have hsb := smd_byt hd hhb
  have hsl := smd_len hd
  obtain ⟨s, hs⟩ : ∃ s, nums (smd hd ++ rest) = s := ⟨_, rfl⟩
  have hz : s.size = 73 + rest.length := by rw [← hs, nums_size, List.length_append, hsl]; omega
  have e4 : s.extract 0 4 = ⟨#[68, 82, 71, 49]⟩ := by
    have h9 := ext_nums [] [68, 82, 71, 49] (ws.flatMap (fixL 8) ++ [g % 256] ++ smL hd ++ rest) (by simp) hm (by
      intro z hz
      simp only [List.mem_append] at hz
      rcases hz with ((h | h) | h) | h
      · exact hf z h
      · simp at h; omega
      · exact smL_byt _ z h
      · exact hr z h)
    have e9 : [] ++ [68, 82, 71, 49] ++ (ws.flatMap (fixL 8) ++ [g % 256] ++ smL hd ++ rest) = smd hd ++ rest := by
      unfold smd
      rw [hhd]
      simp
    rw [e9, hs] at h9
    rw [show (0 : Nat) = ([] : List Nat).length by rfl]
    refine h9.trans ?_
    decide +kernel
  have e73 : s.extract 0 73 = nums (smd hd) := by
    have h9 := ext_nums [] (smd hd) rest (by simp) hsb hr
    rw [List.nil_append, hs, hsl, hlen] at h9
    exact h9
  have e68 : (nums hd).extract 4 68 = nums (ws.flatMap (fixL 8)) := by
    have h9 := ext_nums [68, 82, 71, 49] (ws.flatMap (fixL 8)) [g % 256] hm hf (by intro z hz; simp at hz; omega)
    rw [← hhd, hfl] at h9
    exact h9
  have HUN := Hid.mk' (fun W hW => unsummed_ok hd hhb W (by omega) hW)
  have HRN : Hid (∀ W, Calls Tryz.prog 37 #[.string (nums (ws.flatMap (fixL 8)))] W fun r w' => r = .returned (.agg #[.int .u64 (a : Int), .int .u64 (b : Int), .int .u64 (c : Int), .int .u64 (d : Int), .int .u64 (e : Int), .int .u64 (f : Int), .int .u64 (h : Int), .int .u64 (i : Int)]) ∧ Below W.heap.size W w') := fun W => by
    have := readNumbers_any (nums (ws.flatMap (fixL 8))) W (by rw [nums_size, hfl]; omega) (by rw [nums_size, hfl]; omega)
    rw [hA] at this
    exact this
  have HRI := Hid.mk' (fun W => right_ok a b c d e f h i W o)
  have HHO := Hid.mk' (fun W => headOf_ok a b c d e f h i W o)
  have hdz : (nums hd).size = 69 := by rw [nums_size, hlen]
  have hd68 : (Sums.bl (nums hd)).getD 68 0 = g := by
    rw [bl_nums hd hhb, hhd, List.getD_eq_getElem?_getD, List.getElem?_append_right (by simp [hfl])]
    simp [hfl]
    omega
  obtain ⟨S2, hS2⟩ : ∃ S2, nums (smd hd) = S2 := ⟨_, rfl⟩
  obtain ⟨S3, hS3⟩ : ∃ S3, nums hd = S3 := ⟨_, rfl⟩
  obtain ⟨S4, hS4⟩ : ∃ S4, nums (ws.flatMap (fixL 8)) = S4 := ⟨_, rfl⟩
  rw [hS2] at e73 HUN
  rw [hS3] at e68 HUN hdz hd68
  have hS68 : (S3[68]'(by omega)).toNat = g := by
    rw [← Sums.bl_get S3 68 (by omega)]
    exact hd68
  rw [hS4] at e68 HRN
  rw [hs]
  have HT := Hid.mk' ht
  have hnq := str_neq_same ⟨#[68, 82, 71, 49]⟩
  obtain ⟨m, hmm⟩ : ∃ m, s.size = m := ⟨_, rfl⟩
  have hm73 : ¬ (m : Int) < 73 := by omega
  have hm73b : (73 : Int) ≤ (m : Int) := by omega
  have hm4 : (4 : Int) ≤ (m : Int) := by omega
  have hmN : 73 ≤ m := by omega
  have hmb : m ≤ 1048649 := by omega
  have hmN4 : 4 ≤ m := by omega
  unfold hdV at HHO ⊢
  clear hws hl8 hA hhd hhb hlen hm hf hfl hhe hsb hsl hs hz hr hS2 hS3 hS4 ht o hrl
  go_enter Tryz.func16, Tryz.ntmps16
  go_wp2_with fail
  obtain ⟨w0, hw0⟩ : ∃ w0, w.alloc (.cells #[.int .i64 0, .int .i64 0, .int .i64 0, .int .i64 0, .int .i64 0, .int .i64 0, .int .i64 0, .int .i64 0, .int .i64 0] 23) = w0 := ⟨_, rfl⟩
  have HX0 : Hid (w0.heap[w.heap.size]? = some (.cells #[.int .i64 0, .int .i64 0, .int .i64 0, .int .i64 0, .int .i64 0, .int .i64 0, .int .i64 0, .int .i64 0, .int .i64 0] 23 (0, 0)) ∧ Below w.heap.size w w0) := by
    rw [← hw0]
    exact ⟨heap_alloc_new w _, (Below.refl _ _).alloc (Nat.le_refl _) _⟩
  rw [hw0]
  refine (HUN.out w0 (HT.out.below HX0.out.2)).mono ?_
  rintro r w1 ⟨rfl, hb1⟩
  have HX1 : Hid (w1.heap[w.heap.size]? = some (.cells #[.int .i64 0, .int .i64 0, .int .i64 0, .int .i64 0, .int .i64 0, .int .i64 0, .int .i64 0, .int .i64 0, .int .i64 0] 23 (0, 0)) ∧ Below w.heap.size w w1) := ⟨(hb1.block _ (Array.getElem?_eq_some_iff.1 HX0.out.1).1).trans HX0.out.1, HX0.out.2.trans (hb1.mono HX0.out.2.size)⟩
  clear hb1 hw0 HX0
  go_upto_region 8 with fail
  go_cut [6, 7, 36, 37, 38, 39, 40] (fun s6 s7 _ _ _ _ _ wx => ∃ P, s6 = .pointer (some ⟨P, 0, none⟩) ∧ s7 = .int .u8 (g : Int) ∧ Hid (w.heap.size ≤ P ∧ P ≠ w.heap.size ∧ wx.heap[P]? = some (.cells #[.int .u64 (a : Int), .int .u64 (b : Int), .int .u64 (c : Int), .int .u64 (d : Int), .int .u64 (e : Int), .int .u64 (f : Int), .int .u64 (h : Int), .int .u64 (i : Int)] 75 (0, 0)) ∧ wx.heap[w.heap.size]? = some (.cells #[.int .i64 0, .int .i64 0, .int .i64 0, .int .i64 0, .int .i64 0, .int .i64 0, .int .i64 0, .int .i64 0, .int .i64 0] 23 (0, 0)) ∧ Below w.heap.size w wx))
  case first =>
    go_region_with (go_at_call 37; refine (HRN.out _).mono ?_; rintro r w' ⟨rfl, hb⟩; first | (have hk := (hb.block w1.heap.size (by simp)).trans (heap_alloc_new w1.drew _); have pc0 := cell_at (k := 0) hk rfl; have pf0 := frozen_at (k := 0) hk; have pc1 := cell_at (k := 1) hk rfl; have pf1 := frozen_at (k := 1) hk; have pc2 := cell_at (k := 2) hk rfl; have pf2 := frozen_at (k := 2) hk; have pc3 := cell_at (k := 3) hk rfl; have pf3 := frozen_at (k := 3) hk; have pc4 := cell_at (k := 4) hk rfl; have pf4 := frozen_at (k := 4) hk; have pc5 := cell_at (k := 5) hk rfl; have pf5 := frozen_at (k := 5) hk; have pc6 := cell_at (k := 6) hk rfl; have pf6 := frozen_at (k := 6) hk; have pc7 := cell_at (k := 7) hk rfl; have pf7 := frozen_at (k := 7) hk; have HB := Hid.mk' hb; have HKK := Hid.mk' hk; clear hb hk) | (have HB := Hid.mk' hb; clear hb))
    all_goals (go_wp2_with fail; go_meet)
    all_goals first | (have hkk := HKK.out; have hbb : Below (w1.heap.size + 1) (w1.alloc (.cells #[.int .u64 0, .int .u64 0, .int .u64 0, .int .u64 0, .int .u64 0, .int .u64 0, .int .u64 0, .int .u64 0] 75)) w' := ⟨HB.out.os, HB.out.tape, HB.out.output, by have := HB.out.size; simp at this ⊢; omega, fun k hk => HB.out.block k (by simp; omega)⟩; exact ⟨w1.heap.size, rfl, rfl, look_B _ _ _ _ _ _ _ _ HX1.out.1 HX1.out.2 hbb⟩) | (have hbb : Below w1.heap.size w1 w' := ⟨HB.out.os, HB.out.tape, HB.out.output, HB.out.size, HB.out.block⟩; exact ⟨w'.heap.size, rfl, rfl, look_A HX1.out.1 HX1.out.2 hbb⟩)
  case rest =>
    obtain ⟨P, rfl, rfl, HP⟩ := hcut
    rename_i wc
    have q0 := cell_at (k := 0) HP.out.2.2.1 rfl
    have q1 := cell_at (k := 1) HP.out.2.2.1 rfl
    have q2 := cell_at (k := 2) HP.out.2.2.1 rfl
    have q3 := cell_at (k := 3) HP.out.2.2.1 rfl
    have q4 := cell_at (k := 4) HP.out.2.2.1 rfl
    have q5 := cell_at (k := 5) HP.out.2.2.1 rfl
    have q6 := cell_at (k := 6) HP.out.2.2.1 rfl
    have q7 := cell_at (k := 7) HP.out.2.2.1 rfl
    clear e4 e73 e68 hnq
    go_wp2_with fail
    refine (HRI.out _).mono ?_
    rintro r w3 ⟨rfl, hb3⟩
    have HP3 : Hid (w.heap.size ≤ P ∧ P ≠ w.heap.size ∧ w3.heap[P]? = some (.cells #[.int .u64 (a : Int), .int .u64 (b : Int), .int .u64 (c : Int), .int .u64 (d : Int), .int .u64 (e : Int), .int .u64 (f : Int), .int .u64 (h : Int), .int .u64 (i : Int)] 75 (0, 0)) ∧ w3.heap[w.heap.size]? = some (.cells #[.int .i64 0, .int .i64 0, .int .i64 0, .int .i64 0, .int .i64 0, .int .i64 0, .int .i64 0, .int .i64 0, .int .i64 0] 23 (0, 0)) ∧ Below w.heap.size w w3) := by
      obtain ⟨k1, k2, k3, k4, k5⟩ := HP.out
      exact ⟨k1, k2, (hb3.block _ (Array.getElem?_eq_some_iff.1 k3).1).trans k3, (hb3.block _ (Array.getElem?_eq_some_iff.1 k4).1).trans k4, k5.trans (hb3.mono k5.size)⟩
    clear hb3 q0 q1 q2 q3 q4 q5 q6 q7 HP
    have q0 := cell_at (k := 0) HP3.out.2.2.1 rfl
    have q1 := cell_at (k := 1) HP3.out.2.2.1 rfl
    have q2 := cell_at (k := 2) HP3.out.2.2.1 rfl
    have q3 := cell_at (k := 3) HP3.out.2.2.1 rfl
    have q4 := cell_at (k := 4) HP3.out.2.2.1 rfl
    have q5 := cell_at (k := 5) HP3.out.2.2.1 rfl
    have q6 := cell_at (k := 6) HP3.out.2.2.1 rfl
    have q7 := cell_at (k := 7) HP3.out.2.2.1 rfl
    have hg2 : ¬ (2 : Int) < (g : Int) := by omega
    have hg3 : (g : Int) ≤ 255 := by omega
    go_wp2_with fail
    refine (HHO.out _).mono ?_
    rintro r w4 ⟨rfl, hb4⟩
    have HP4 : Hid (w4.heap[w.heap.size]? = some (.cells #[.int .i64 0, .int .i64 0, .int .i64 0, .int .i64 0, .int .i64 0, .int .i64 0, .int .i64 0, .int .i64 0, .int .i64 0] 23 (0, 0)) ∧ Below w.heap.size w w4) := by
      obtain ⟨k1, k2, k3, k4, k5⟩ := HP3.out
      exact ⟨(hb4.block _ (Array.getElem?_eq_some_iff.1 k4).1).trans k4, k5.trans (hb4.mono k5.size)⟩
    clear hb4 q0 q1 q2 q3 q4 q5 q6 q7 HP3
    go_upto_region 16 with fail
    obtain ⟨w5, hw5⟩ : ∃ w5, w4.alloc (.cells #[.int .i64 (a : Int), .int .i64 (b : Int), .int .i64 (c : Int), .int .i64 (d : Int), .int .i64 (e : Int), .int .i64 (f : Int), .int .i64 (g : Int), .int .i64 (h : Int), .int .i64 (i : Int)] 23) = w5 := ⟨_, rfl⟩
    have HP5 : Hid (w5.heap[w.heap.size]? = some (.cells #[.int .i64 0, .int .i64 0, .int .i64 0, .int .i64 0, .int .i64 0, .int .i64 0, .int .i64 0, .int .i64 0, .int .i64 0] 23 (0, 0)) ∧ Below w.heap.size w w5) := by
      unfold Hid
      rw [← hw5]
      exact ⟨(Below.heap_alloc _ _ _ (Array.getElem?_eq_some_iff.1 HP4.out.1).1).trans HP4.out.1, HP4.out.2.alloc HP4.out.2.size _⟩
    have hq5 : w5.heap[w4.heap.size]? = some (.cells #[.int .i64 (a : Int), .int .i64 (b : Int), .int .i64 (c : Int), .int .i64 (d : Int), .int .i64 (e : Int), .int .i64 (f : Int), .int .i64 (g : Int), .int .i64 (h : Int), .int .i64 (i : Int)] 23 (0, 0)) := by rw [← hw5]; exact heap_alloc_new _ _
    rw [hw5]
    obtain ⟨Q, hQ⟩ : ∃ Q, w4.heap.size = Q := ⟨_, rfl⟩
    rw [hQ] at hq5 ⊢
    have p0 := cell_at (k := 0) hq5 rfl
    have r0 := cell_at (k := 0) HP5.out.1 rfl
    have g0 := frozen_at (k := 0) HP5.out.1
    have p1 := cell_at (k := 1) hq5 rfl
    have r1 := cell_at (k := 1) HP5.out.1 rfl
    have g1 := frozen_at (k := 1) HP5.out.1
    have p2 := cell_at (k := 2) hq5 rfl
    have r2 := cell_at (k := 2) HP5.out.1 rfl
    have g2 := frozen_at (k := 2) HP5.out.1
    have p3 := cell_at (k := 3) hq5 rfl
    have r3 := cell_at (k := 3) HP5.out.1 rfl
    have g3 := frozen_at (k := 3) HP5.out.1
    have p4 := cell_at (k := 4) hq5 rfl
    have r4 := cell_at (k := 4) HP5.out.1 rfl
    have g4 := frozen_at (k := 4) HP5.out.1
    have p5 := cell_at (k := 5) hq5 rfl
    have r5 := cell_at (k := 5) HP5.out.1 rfl
    have g5 := frozen_at (k := 5) HP5.out.1
    have p6 := cell_at (k := 6) hq5 rfl
    have r6 := cell_at (k := 6) HP5.out.1 rfl
    have g6 := frozen_at (k := 6) HP5.out.1
    have p7 := cell_at (k := 7) hq5 rfl
    have r7 := cell_at (k := 7) HP5.out.1 rfl
    have g7 := frozen_at (k := 7) HP5.out.1
    have p8 := cell_at (k := 8) hq5 rfl
    have r8 := cell_at (k := 8) HP5.out.1 rfl
    have g8 := frozen_at (k := 8) HP5.out.1
    clear hw5 hq5 HP4 hQ
    go_wp2_with fail
    obtain ⟨Y, hY⟩ : ∃ Y, (((((((((w5.setCell ⟨w.heap.size, 0, none⟩ (.int .i64 (a : Int))).setCell ⟨w.heap.size, 1, none⟩ (.int .i64 (b : Int))).setCell ⟨w.heap.size, 2, none⟩ (.int .i64 (c : Int))).setCell ⟨w.heap.size, 3, none⟩ (.int .i64 (d : Int))).setCell ⟨w.heap.size, 4, none⟩ (.int .i64 (e : Int))).setCell ⟨w.heap.size, 5, none⟩ (.int .i64 (f : Int))).setCell ⟨w.heap.size, 6, none⟩ (.int .i64 (g : Int))).setCell ⟨w.heap.size, 7, none⟩ (.int .i64 (h : Int))).setCell ⟨w.heap.size, 8, none⟩ (.int .i64 (i : Int))) = Y := ⟨_, rfl⟩
    have hb9 : Below w.heap.size w Y := by rw [← hY]; exact nine_below _ _ _ _ _ _ _ _ _ HP5.out.2 (Nat.le_refl _)
    have hc9 : Y.heap[w.heap.size]? = some (.cells #[.int .i64 (a : Int), .int .i64 (b : Int), .int .i64 (c : Int), .int .i64 (d : Int), .int .i64 (e : Int), .int .i64 (f : Int), .int .i64 (g : Int), .int .i64 (h : Int), .int .i64 (i : Int)] 23 (0, 0)) := by rw [← hY]; exact nine_put _ _ _ _ _ _ _ _ _ HP5.out.1
    rw [hY]
    have y0 := cell_at (k := 0) hc9 rfl
    have y1 := cell_at (k := 1) hc9 rfl
    have y2 := cell_at (k := 2) hc9 rfl
    have y3 := cell_at (k := 3) hc9 rfl
    have y4 := cell_at (k := 4) hc9 rfl
    have y5 := cell_at (k := 5) hc9 rfl
    have y6 := cell_at (k := 6) hc9 rfl
    have y7 := cell_at (k := 7) hc9 rfl
    have y8 := cell_at (k := 8) hc9 rfl
    exact bodyPost_ret (v := .tuple #[.agg #[.int .i64 (a : Int), .int .i64 (b : Int), .int .i64 (c : Int), .int .i64 (d : Int), .int .i64 (e : Int), .int .i64 (f : Int), .int .i64 (g : Int), .int .i64 (h : Int), .int .i64 (i : Int)], .nilIface]) (by simp [results, Tryz.results16, go_sem, y0, y1, y2, y3, y4, y5, y6, y7, y8]) rfl ⟨rfl, hb9⟩
end Go.Proofs.YtlplbnlfajdcbaaGreatDoor
