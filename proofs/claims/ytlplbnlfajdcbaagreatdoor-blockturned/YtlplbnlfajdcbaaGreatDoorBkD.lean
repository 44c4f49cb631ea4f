/-
  block: a head as bytes, and lines as an image. Conditions: as each says.
-/
import Derived.Test.YtlplbnlfajdcbaaGreatDoorBkC
namespace Go.Proofs.YtlplbnlfajdcbaaGreatDoor
open Go.RowKit
set_option linter.unusedVariables false
set_option linter.unusedSimpArgs false
/-- the numbers as bytes, behind the magic -/
def hpre (ws : List Nat) (k : Nat) : List Nat := [68, 82, 71, 49] ++ (ws.take k).flatMap (fixL 8)
def hdL (ws : List Nat) (lev : Nat) : List Nat := hpre ws 8 ++ fixL 1 lev
theorem flat_byt (ws : List Nat) : ∀ z ∈ ws.flatMap (fixL 8), z < 256 := by
  intro z hz
  obtain ⟨x, _, hx⟩ := List.mem_flatMap.1 hz
  exact fixL_byt _ _ z hx
theorem hpre_byt (ws : List Nat) (k : Nat) : ∀ z ∈ hpre ws k, z < 256 := by
  intro z hz
  rcases List.mem_append.1 hz with h | h
  · simp at h
    omega
  · exact flat_byt _ z h
theorem hdL_byt (ws : List Nat) (lev : Nat) : ∀ z ∈ hdL ws lev, z < 256 := by
  intro z hz
  rcases List.mem_append.1 hz with h | h
  · exact hpre_byt _ _ z h
  · exact fixL_byt _ _ z h
theorem hpre_step (ws : List Nat) (k : Nat) (h : k < ws.length) : hpre ws (k + 1) = hpre ws k ++ fixL 8 (ws.getD k 0) := by
  unfold hpre
  rw [List.take_succ_eq_append_getElem h, List.flatMap_append, List.getD_eq_getElem?_getD, List.getElem?_eq_getElem h, ← List.append_assoc]
  simp
theorem flat_len : ∀ ws : List Nat, (ws.flatMap (fixL 8)).length = 8 * ws.length
  | [] => rfl
  | x :: ws => by rw [List.flatMap_cons, List.length_append, fixL_len, flat_len ws, List.length_cons]; omega
theorem hpre_len (ws : List Nat) (k : Nat) (h : k ≤ ws.length) : (hpre ws k).length = 4 + 8 * k := by
  unfold hpre
  rw [List.length_append, flat_len, List.length_take, Nat.min_eq_left h]
  rfl
theorem hdL_len (ws : List Nat) (lev : Nat) (h : ws.length = 8) : (hdL ws lev).length = 69 := by
  unfold hdL
  rw [List.length_append, hpre_len ws 8 (by omega), fixL_len]
theorem nwV_index (a b c d e f h i k : Nat) (hk : k < 8) (W : World) : (Instr.index 75 (.agg #[.int .u64 (a : Int), .int .u64 (b : Int), .int .u64 (c : Int), .int .u64 (d : Int), .int .u64 (e : Int), .int .u64 (f : Int), .int .u64 (h : Int), .int .u64 (i : Int)]) (.int .i64 (k : Int))).run Tryz.prog W = .ok (.int .u64 ((([a, b, c, d, e, f, h, i].getD k 0 : Nat)) : Int)) W := by
  have h8 : k = 0 ∨ k = 1 ∨ k = 2 ∨ k = 3 ∨ k = 4 ∨ k = 5 ∨ k = 6 ∨ k = 7 := by omega
  rcases h8 with rfl | rfl | rfl | rfl | rfl | rfl | rfl | rfl <;> (show _ = _; kernel_rfl)
theorem all_getD {P : Nat → Prop} (ws : List Nat) (h : ∀ x ∈ ws, P x) (k : Nat) (hk : k < ws.length) : P (ws.getD k 0) := by
  rw [List.getD_eq_getElem?_getD, List.getElem?_eq_getElem hk]
  exact h _ (List.getElem_mem _)
set_option maxHeartbeats 2000000 in
set_option maxRecDepth 100000 in
theorem writeHead_any (a b c d e f h i g : Nat) (w : World) (ha : a ≤ 9223372036854775807) (hb : b ≤ 9223372036854775807) (hc : c ≤ 9223372036854775807) (hd : d ≤ 9223372036854775807) (he : e ≤ 9223372036854775807) (hf : f ≤ 9223372036854775807) (hh : h ≤ 9223372036854775807) (hi : i ≤ 9223372036854775807) (hg : g ≤ 255) :
    Calls Tryz.prog 31 #[hdV a b c d e f g h i] w fun r w' => r = .returned (.string (nums (hdL [a, b, c, d, e, f, h, i] g))) ∧ Below w.heap.size w w' := by
  obtain ⟨ws, hws⟩ : ∃ ws, ws = [a, b, c, d, e, f, h, i] := ⟨_, rfl⟩
  have hall : ∀ x ∈ ws, x < 256 ^ 8 := by
    intro x hx
    rw [hws] at hx
    simp at hx
    have h9 : (256 : Nat) ^ 8 = 18446744073709551616 := by decide
    rw [h9]
    omega
  obtain ⟨B, hB⟩ : ∃ B, B = w.heap.size := ⟨_, rfl⟩
  obtain ⟨w0, hw0⟩ : ∃ w0, w0 = w.alloc (.cells #[.int .i64 (a : Int), .int .i64 (b : Int), .int .i64 (c : Int), .int .i64 (d : Int), .int .i64 (e : Int), .int .i64 (f : Int), .int .i64 (g : Int), .int .i64 (h : Int), .int .i64 (i : Int)] 23) := ⟨_, rfl⟩
  have k0 : w0.heap[B]? = some (.cells #[.int .i64 (a : Int), .int .i64 (b : Int), .int .i64 (c : Int), .int .i64 (d : Int), .int .i64 (e : Int), .int .i64 (f : Int), .int .i64 (g : Int), .int .i64 (h : Int), .int .i64 (i : Int)] 23 (0, 0)) := by rw [hw0, hB]; exact heap_alloc_new _ _
  have hb0 : Below B w w0 := by rw [hw0, hB]; exact (Below.refl _ _).alloc (Nat.le_refl _) _
  have HNU := Hid.mk' (numbersOf_any a b c d e f h i (g : Int) w0 ha hb hc hd he hf hh hi)
  have HIX : Hid (∀ k : Nat, k < 8 → ∀ z : Int, z = (k : Int) → ∀ W, (Instr.index 75 (.agg #[.int .u64 (a : Int), .int .u64 (b : Int), .int .u64 (c : Int), .int .u64 (d : Int), .int .u64 (e : Int), .int .u64 (f : Int), .int .u64 (h : Int), .int .u64 (i : Int)]) (.int .i64 z)).run Tryz.prog W = .ok (.int .u64 ((ws.getD k 0 : Nat) : Int)) W) := fun k hk z hz W => by rw [hws, hz]; exact nwV_index a b c d e f h i k hk W
  have HLEN : Hid (ws.length = 8) := by rw [hws]; rfl
  rw [← hws]
  unfold hdV at HNU ⊢
  unfold nwV at HNU
  have HALL := Hid.mk' hall
  have HK0 := Hid.mk' k0
  have HB0 := Hid.mk' hb0
  have HW0 : Hid (w0 = _) := hw0
  have HBB := Hid.mk' hB
  have p0 := cell_at (k := 0) HK0.out rfl
  have p1 := cell_at (k := 1) HK0.out rfl
  have p2 := cell_at (k := 2) HK0.out rfl
  have p3 := cell_at (k := 3) HK0.out rfl
  have p4 := cell_at (k := 4) HK0.out rfl
  have p5 := cell_at (k := 5) HK0.out rfl
  have p6 := cell_at (k := 6) HK0.out rfl
  have p7 := cell_at (k := 7) HK0.out rfl
  have p8 := cell_at (k := 8) HK0.out rfl
  clear hws hall ha hb hc hd he hf hh hi k0 hb0 hw0
  subst hB
  go_enter Tryz.func31, Tryz.ntmps31
  go_wp2_with fail
  rw [← HW0.out]
  refine HNU.out.mono ?_
  rintro r w1 ⟨rfl, hb1⟩
  have HB1 : Hid (Below w.heap.size w w1) := HB0.out.trans (hb1.mono HB0.out.size)
  have HK1 : Hid (w1.heap[w.heap.size]? = some (.cells #[.int .i64 (a : Int), .int .i64 (b : Int), .int .i64 (c : Int), .int .i64 (d : Int), .int .i64 (e : Int), .int .i64 (f : Int), .int .i64 (g : Int), .int .i64 (h : Int), .int .i64 (i : Int)] 23 (0, 0))) := (hb1.block w.heap.size (Array.getElem?_eq_some_iff.1 HK0.out).1).trans HK0.out
  have hB1 : w.heap.size < w1.heap.size := (Array.getElem?_eq_some_iff.1 HK1.out).1
  have HBL := Hid.mk' hB1
  clear hb1 p0 p1 p2 p3 p4 p5 p6 p7 p8 hB1
  go_wp2_with fail
  go_loopw [3, 5, 8] (fun s3 _ s8 wr => ∃ (k : Nat) (T : ByteArray), s3 = .string T ∧ s8 = .int .i64 (k : Int) ∧ k ≤ 8 ∧ T.size = 4 + 8 * k ∧ Hid (T = nums (hpre ws k)) ∧ Hid (Below w1.heap.size w1 wr)) (fun _ _ s8 _ => 8 - (intOf s8).toNat)
  case atStart => exact ⟨0, ⟨#[68, 82, 71, 49]⟩, rfl, rfl, by omega, rfl, by show _ = nums ([68, 82, 71, 49] ++ List.flatMap (fixL 8) (ws.take 0)); rw [List.take_zero]; decide +kernel, Below.refl _ _⟩
  case round =>
    obtain ⟨k, T, rfl, rfl, hk, hT, HT, HB⟩ := hrel
    rename World => wr
    by_cases hk8 : k < 8
    · have h8 : k = 0 ∨ k = 1 ∨ k = 2 ∨ k = 3 ∨ k = 4 ∨ k = 5 ∨ k = 6 ∨ k = 7 := by omega
      clear hk8 hk
      rcases h8 with rfl | rfl | rfl | rfl | rfl | rfl | rfl | rfl
      · have hix := HIX.out 0 (by decide) 0 rfl
        have hxl : ws.getD 0 0 < 256 ^ 8 := all_getD ws HALL.out 0 (by rw [HLEN.out]; decide)
        have hst := hpre_step ws 0 (by rw [HLEN.out]; decide)
        obtain ⟨x, hx⟩ : ∃ x, ws.getD 0 0 = x := ⟨_, rfl⟩
        rw [hx] at hxl hst
        simp only [hx] at hix
        have HF := Hid.mk' (fun W => bfixed_any x 8 W (by decide) (by decide) hxl)
        have HTN : Hid (T ++ nums (fixL 8 x) = nums (hpre ws (0 + 1))) := by
          rw [hst, HT.out]
          exact nums_app _ _ (hpre_byt ws 0) (fixL_byt 8 x)
        have hz : (nums (fixL 8 x)).size = 8 := by rw [nums_size, fixL_len]
        have HZ := Hid.mk' hz
        have HTS := Hid.mk' hT
        clear hxl hst hx
        go_wp2_with fail
        refine (HF.out _).mono ?_
        rintro r w2 ⟨rfl, hb2⟩
        have HB2 : Hid (Below w1.heap.size w1 w2) := HB.out.trans (hb2.mono HB.out.size)
        clear hb2 HB
        go_wp2_with fail
        go_roundw
        case rel => exact ⟨0 + 1, _, rfl, by simp, by omega, by rw [HTN.out, nums_size, hpre_len ws (0 + 1) (by rw [HLEN.out]; decide)], HTN.out, HB2⟩
        case measure => simp [intOf]
      · have hix := HIX.out 1 (by decide) 1 rfl
        have hxl : ws.getD 1 0 < 256 ^ 8 := all_getD ws HALL.out 1 (by rw [HLEN.out]; decide)
        have hst := hpre_step ws 1 (by rw [HLEN.out]; decide)
        obtain ⟨x, hx⟩ : ∃ x, ws.getD 1 0 = x := ⟨_, rfl⟩
        rw [hx] at hxl hst
        simp only [hx] at hix
        have HF := Hid.mk' (fun W => bfixed_any x 8 W (by decide) (by decide) hxl)
        have HTN : Hid (T ++ nums (fixL 8 x) = nums (hpre ws (1 + 1))) := by
          rw [hst, HT.out]
          exact nums_app _ _ (hpre_byt ws 1) (fixL_byt 8 x)
        have hz : (nums (fixL 8 x)).size = 8 := by rw [nums_size, fixL_len]
        have HZ := Hid.mk' hz
        have HTS := Hid.mk' hT
        clear hxl hst hx
        go_wp2_with fail
        refine (HF.out _).mono ?_
        rintro r w2 ⟨rfl, hb2⟩
        have HB2 : Hid (Below w1.heap.size w1 w2) := HB.out.trans (hb2.mono HB.out.size)
        clear hb2 HB
        go_wp2_with fail
        go_roundw
        case rel => exact ⟨1 + 1, _, rfl, by simp, by omega, by rw [HTN.out, nums_size, hpre_len ws (1 + 1) (by rw [HLEN.out]; decide)], HTN.out, HB2⟩
        case measure => simp [intOf]
      · have hix := HIX.out 2 (by decide) 2 rfl
        have hxl : ws.getD 2 0 < 256 ^ 8 := all_getD ws HALL.out 2 (by rw [HLEN.out]; decide)
        have hst := hpre_step ws 2 (by rw [HLEN.out]; decide)
        obtain ⟨x, hx⟩ : ∃ x, ws.getD 2 0 = x := ⟨_, rfl⟩
        rw [hx] at hxl hst
        simp only [hx] at hix
        have HF := Hid.mk' (fun W => bfixed_any x 8 W (by decide) (by decide) hxl)
        have HTN : Hid (T ++ nums (fixL 8 x) = nums (hpre ws (2 + 1))) := by
          rw [hst, HT.out]
          exact nums_app _ _ (hpre_byt ws 2) (fixL_byt 8 x)
        have hz : (nums (fixL 8 x)).size = 8 := by rw [nums_size, fixL_len]
        have HZ := Hid.mk' hz
        have HTS := Hid.mk' hT
        clear hxl hst hx
        go_wp2_with fail
        refine (HF.out _).mono ?_
        rintro r w2 ⟨rfl, hb2⟩
        have HB2 : Hid (Below w1.heap.size w1 w2) := HB.out.trans (hb2.mono HB.out.size)
        clear hb2 HB
        go_wp2_with fail
        go_roundw
        case rel => exact ⟨2 + 1, _, rfl, by simp, by omega, by rw [HTN.out, nums_size, hpre_len ws (2 + 1) (by rw [HLEN.out]; decide)], HTN.out, HB2⟩
        case measure => simp [intOf]
      · have hix := HIX.out 3 (by decide) 3 rfl
        have hxl : ws.getD 3 0 < 256 ^ 8 := all_getD ws HALL.out 3 (by rw [HLEN.out]; decide)
        have hst := hpre_step ws 3 (by rw [HLEN.out]; decide)
        obtain ⟨x, hx⟩ : ∃ x, ws.getD 3 0 = x := ⟨_, rfl⟩
        rw [hx] at hxl hst
        simp only [hx] at hix
        have HF := Hid.mk' (fun W => bfixed_any x 8 W (by decide) (by decide) hxl)
        have HTN : Hid (T ++ nums (fixL 8 x) = nums (hpre ws (3 + 1))) := by
          rw [hst, HT.out]
          exact nums_app _ _ (hpre_byt ws 3) (fixL_byt 8 x)
        have hz : (nums (fixL 8 x)).size = 8 := by rw [nums_size, fixL_len]
        have HZ := Hid.mk' hz
        have HTS := Hid.mk' hT
        clear hxl hst hx
        go_wp2_with fail
        refine (HF.out _).mono ?_
        rintro r w2 ⟨rfl, hb2⟩
        have HB2 : Hid (Below w1.heap.size w1 w2) := HB.out.trans (hb2.mono HB.out.size)
        clear hb2 HB
        go_wp2_with fail
        go_roundw
        case rel => exact ⟨3 + 1, _, rfl, by simp, by omega, by rw [HTN.out, nums_size, hpre_len ws (3 + 1) (by rw [HLEN.out]; decide)], HTN.out, HB2⟩
        case measure => simp [intOf]
      · have hix := HIX.out 4 (by decide) 4 rfl
        have hxl : ws.getD 4 0 < 256 ^ 8 := all_getD ws HALL.out 4 (by rw [HLEN.out]; decide)
        have hst := hpre_step ws 4 (by rw [HLEN.out]; decide)
        obtain ⟨x, hx⟩ : ∃ x, ws.getD 4 0 = x := ⟨_, rfl⟩
        rw [hx] at hxl hst
        simp only [hx] at hix
        have HF := Hid.mk' (fun W => bfixed_any x 8 W (by decide) (by decide) hxl)
        have HTN : Hid (T ++ nums (fixL 8 x) = nums (hpre ws (4 + 1))) := by
          rw [hst, HT.out]
          exact nums_app _ _ (hpre_byt ws 4) (fixL_byt 8 x)
        have hz : (nums (fixL 8 x)).size = 8 := by rw [nums_size, fixL_len]
        have HZ := Hid.mk' hz
        have HTS := Hid.mk' hT
        clear hxl hst hx
        go_wp2_with fail
        refine (HF.out _).mono ?_
        rintro r w2 ⟨rfl, hb2⟩
        have HB2 : Hid (Below w1.heap.size w1 w2) := HB.out.trans (hb2.mono HB.out.size)
        clear hb2 HB
        go_wp2_with fail
        go_roundw
        case rel => exact ⟨4 + 1, _, rfl, by simp, by omega, by rw [HTN.out, nums_size, hpre_len ws (4 + 1) (by rw [HLEN.out]; decide)], HTN.out, HB2⟩
        case measure => simp [intOf]
      · have hix := HIX.out 5 (by decide) 5 rfl
        have hxl : ws.getD 5 0 < 256 ^ 8 := all_getD ws HALL.out 5 (by rw [HLEN.out]; decide)
        have hst := hpre_step ws 5 (by rw [HLEN.out]; decide)
        obtain ⟨x, hx⟩ : ∃ x, ws.getD 5 0 = x := ⟨_, rfl⟩
        rw [hx] at hxl hst
        simp only [hx] at hix
        have HF := Hid.mk' (fun W => bfixed_any x 8 W (by decide) (by decide) hxl)
        have HTN : Hid (T ++ nums (fixL 8 x) = nums (hpre ws (5 + 1))) := by
          rw [hst, HT.out]
          exact nums_app _ _ (hpre_byt ws 5) (fixL_byt 8 x)
        have hz : (nums (fixL 8 x)).size = 8 := by rw [nums_size, fixL_len]
        have HZ := Hid.mk' hz
        have HTS := Hid.mk' hT
        clear hxl hst hx
        go_wp2_with fail
        refine (HF.out _).mono ?_
        rintro r w2 ⟨rfl, hb2⟩
        have HB2 : Hid (Below w1.heap.size w1 w2) := HB.out.trans (hb2.mono HB.out.size)
        clear hb2 HB
        go_wp2_with fail
        go_roundw
        case rel => exact ⟨5 + 1, _, rfl, by simp, by omega, by rw [HTN.out, nums_size, hpre_len ws (5 + 1) (by rw [HLEN.out]; decide)], HTN.out, HB2⟩
        case measure => simp [intOf]
      · have hix := HIX.out 6 (by decide) 6 rfl
        have hxl : ws.getD 6 0 < 256 ^ 8 := all_getD ws HALL.out 6 (by rw [HLEN.out]; decide)
        have hst := hpre_step ws 6 (by rw [HLEN.out]; decide)
        obtain ⟨x, hx⟩ : ∃ x, ws.getD 6 0 = x := ⟨_, rfl⟩
        rw [hx] at hxl hst
        simp only [hx] at hix
        have HF := Hid.mk' (fun W => bfixed_any x 8 W (by decide) (by decide) hxl)
        have HTN : Hid (T ++ nums (fixL 8 x) = nums (hpre ws (6 + 1))) := by
          rw [hst, HT.out]
          exact nums_app _ _ (hpre_byt ws 6) (fixL_byt 8 x)
        have hz : (nums (fixL 8 x)).size = 8 := by rw [nums_size, fixL_len]
        have HZ := Hid.mk' hz
        have HTS := Hid.mk' hT
        clear hxl hst hx
        go_wp2_with fail
        refine (HF.out _).mono ?_
        rintro r w2 ⟨rfl, hb2⟩
        have HB2 : Hid (Below w1.heap.size w1 w2) := HB.out.trans (hb2.mono HB.out.size)
        clear hb2 HB
        go_wp2_with fail
        go_roundw
        case rel => exact ⟨6 + 1, _, rfl, by simp, by omega, by rw [HTN.out, nums_size, hpre_len ws (6 + 1) (by rw [HLEN.out]; decide)], HTN.out, HB2⟩
        case measure => simp [intOf]
      · have hix := HIX.out 7 (by decide) 7 rfl
        have hxl : ws.getD 7 0 < 256 ^ 8 := all_getD ws HALL.out 7 (by rw [HLEN.out]; decide)
        have hst := hpre_step ws 7 (by rw [HLEN.out]; decide)
        obtain ⟨x, hx⟩ : ∃ x, ws.getD 7 0 = x := ⟨_, rfl⟩
        rw [hx] at hxl hst
        simp only [hx] at hix
        have HF := Hid.mk' (fun W => bfixed_any x 8 W (by decide) (by decide) hxl)
        have HTN : Hid (T ++ nums (fixL 8 x) = nums (hpre ws (7 + 1))) := by
          rw [hst, HT.out]
          exact nums_app _ _ (hpre_byt ws 7) (fixL_byt 8 x)
        have hz : (nums (fixL 8 x)).size = 8 := by rw [nums_size, fixL_len]
        have HZ := Hid.mk' hz
        have HTS := Hid.mk' hT
        clear hxl hst hx
        go_wp2_with fail
        refine (HF.out _).mono ?_
        rintro r w2 ⟨rfl, hb2⟩
        have HB2 : Hid (Below w1.heap.size w1 w2) := HB.out.trans (hb2.mono HB.out.size)
        clear hb2 HB
        go_wp2_with fail
        go_roundw
        case rel => exact ⟨7 + 1, _, rfl, by simp, by omega, by rw [HTN.out, nums_size, hpre_len ws (7 + 1) (by rw [HLEN.out]; decide)], HTN.out, HB2⟩
        case measure => simp [intOf]
    · have hkI : ¬ (k : Int) < 8 := by omega
      have hke : k = 8 := by omega
      rw [hke] at HT
      have hg6 := cell_at (k := 6) ((HB.out.block w.heap.size HBL.out).trans HK1.out) rfl
      have HF := Hid.mk' (fun W => bfixed_any g 1 W (by decide) (by decide) (by omega))
      have HTN : Hid (T ++ nums (fixL 1 g) = nums (hdL ws g)) := by
        rw [HT.out]
        exact nums_app _ _ (hpre_byt ws 8) (fixL_byt 1 g)
      have hz : (nums (fixL 1 g)).size = 1 := by rw [nums_size, fixL_len]
      clear hke
      go_wp2_with fail
      refine (HF.out _).mono ?_
      rintro r w2 ⟨rfl, hb2⟩
      have HB2 : Hid (Below w.heap.size w w2) := HB1.out.trans ((HB.out.trans (hb2.mono HB.out.size)).mono HB1.out.size)
      clear hb2
      go_wp2_with fail
      go_ret
      exact ⟨by rw [HTN.out]; rfl, HB2.out⟩
end Go.Proofs.YtlplbnlfajdcbaaGreatDoor
