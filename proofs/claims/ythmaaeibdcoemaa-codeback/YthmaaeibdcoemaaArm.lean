/-
  What code.Armor does. Conditions: the text has at most 2^40 bytes.
-/
import Derived.Test.YthmaaeibdcoemaaWait
import Derived.Test.YthmaaeibdcoemaaBldB
import Derived.LoopN
namespace Go.Proofs.Ythmaaeibdcoemaa
open Go.RowKit
set_option linter.unusedVariables false
theorem bl_tab : Sums.bl ⟨#[65, 66, 67, 68, 69, 70, 71, 72, 73, 74, 75, 76, 77, 78, 79, 80, 81, 82, 83, 84, 85, 86, 87, 88, 89, 90, 97, 98, 99, 100, 101, 102, 103, 104, 105, 106, 107, 108, 109, 110, 111, 112, 113, 114, 115, 116, 117, 118, 119, 120, 121, 122, 48, 49, 50, 51, 52, 53, 54, 55, 56, 57, 45, 95]⟩ = Code.tab := by decide +kernel
theorem idx_tab (r : Nat) (h : r < 64) (w : World) : (Instr.index 9 (.string ⟨#[65, 66, 67, 68, 69, 70, 71, 72, 73, 74, 75, 76, 77, 78, 79, 80, 81, 82, 83, 84, 85, 86, 87, 88, 89, 90, 97, 98, 99, 100, 101, 102, 103, 104, 105, 106, 107, 108, 109, 110, 111, 112, 113, 114, 115, 116, 117, 118, 119, 120, 121, 122, 48, 49, 50, 51, 52, 53, 54, 55, 56, 57, 45, 95]⟩) (.int .u32 (r : Int))).run Try.prog w = .ok (.int .u8 (Code.ch r : Int)) w := by
  have hz : (r : Int) < (⟨#[65, 66, 67, 68, 69, 70, 71, 72, 73, 74, 75, 76, 77, 78, 79, 80, 81, 82, 83, 84, 85, 86, 87, 88, 89, 90, 97, 98, 99, 100, 101, 102, 103, 104, 105, 106, 107, 108, 109, 110, 111, 112, 113, 114, 115, 116, 117, 118, 119, 120, 121, 122, 48, 49, 50, 51, 52, 53, 54, 55, 56, 57, 45, 95]⟩ : ByteArray).size := by
    have : (⟨#[65, 66, 67, 68, 69, 70, 71, 72, 73, 74, 75, 76, 77, 78, 79, 80, 81, 82, 83, 84, 85, 86, 87, 88, 89, 90, 97, 98, 99, 100, 101, 102, 103, 104, 105, 106, 107, 108, 109, 110, 111, 112, 113, 114, 115, 116, 117, 118, 119, 120, 121, 122, 48, 49, 50, 51, 52, 53, 54, 55, 56, 57, 45, 95]⟩ : ByteArray).size = 64 := by decide +kernel
    omega
  rw [run_index_string w 9 _ .u32 (r : Int) Try.underlying9, dif_pos ⟨by omega, hz⟩]
  have hg := Sums.bl_get ⟨#[65, 66, 67, 68, 69, 70, 71, 72, 73, 74, 75, 76, 77, 78, 79, 80, 81, 82, 83, 84, 85, 86, 87, 88, 89, 90, 97, 98, 99, 100, 101, 102, 103, 104, 105, 106, 107, 108, 109, 110, 111, 112, 113, 114, 115, 116, 117, 118, 119, 120, 121, 122, 48, 49, 50, 51, 52, 53, 54, 55, 56, 57, 45, 95]⟩ r (by omega)
  rw [bl_tab] at hg
  simp only [Int.toNat_natCast]
  rw [← hg]
  rfl
theorem put8 (g v b grp : Nat) (w : World) (h : Wt g v b w) (hb : b ≤ 12) (hg : grp < 256) :
    Calls Try.prog 39 #[.pointer (some ⟨g, 0, none⟩), .int .u32 (grp : Int), .int .i64 8] w fun e w' => e = .returned (.tuple #[]) ∧ Wt g (v * 256 + grp) (b + 8) w' ∧ Only g w w' :=
  put_any g v b grp 8 w h (by omega) hb hg
theorem take6 (g v b d : Nat) (w : World) (h : Wt g v b w) (hd : d = 0 ∨ d = 2 ∨ d = 4 ∨ d = 6) (hb : b = d + 6) :
    Calls Try.prog 41 #[.pointer (some ⟨g, 0, none⟩), .int .i64 6] w fun e w' => e = .returned (.int .u32 ((v / 2 ^ d : Nat) : Int)) ∧ Wt g (v % 2 ^ d) d w' ∧ Only g w w' :=
  take_any g v b 6 d w h ⟨by omega, hd⟩ hb
theorem put4 (g v b : Nat) (w : World) (h : Wt g v b w) (hb : b ≤ 12) :
    Calls Try.prog 39 #[.pointer (some ⟨g, 0, none⟩), .int .u32 0, .int .i64 4] w fun e w' => e = .returned (.tuple #[]) ∧ Wt g (v * 16 + 0) (b + 4) w' ∧ Only g w w' :=
  put_any g v b 0 4 w h (by omega) hb (by decide)
theorem put2 (g v b : Nat) (w : World) (h : Wt g v b w) (hb : b ≤ 12) :
    Calls Try.prog 39 #[.pointer (some ⟨g, 0, none⟩), .int .u32 0, .int .i64 2] w fun e w' => e = .returned (.tuple #[]) ∧ Wt g (v * 4 + 0) (b + 2) w' ∧ Only g w w' :=
  put_any g v b 0 2 w h (by omega) hb (by decide)
set_option maxRecDepth 100000 in
set_option maxHeartbeats 2000000 in
theorem armor_nil (w : World) :
    Calls Try.prog 18 #[.string ⟨#[]⟩] w fun e w' => e = .returned (.string ⟨#[]⟩) ∧ Below w.heap.size w w' := by
  go_enter Try.func18, Try.ntmps18
  go_wp2_with fail
  refine (Grow_zero w.heap.size w.heap.size _ (Nat.le_refl _) (heap_alloc_new w _) (by simp)).mono ?_
  rintro e w1 ⟨rfl, hb1, hbl1⟩
  have hlt : w.heap.size < w1.heap.size := (Array.getElem?_eq_some_iff.1 hb1).1
  have HB1 : Hid (Below w.heap.size w w1) := ((Below.refl _ _).alloc (Nat.le_refl _) _).trans hbl1
  obtain ⟨w2, hw2⟩ : ∃ w2, w2 = w1.alloc (.cells #[.int .u32 0, .int .i64 0] 73) := ⟨_, rfl⟩
  have d1 : (w1.alloc (.cells #[.int .u32 0, .int .i64 0] 73)).cell? ⟨w1.heap.size, 1, none⟩ = some (.int .i64 0) := by simp [go_sem]
  have HB2 : Hid (Below w.heap.size w w2) := by rw [hw2]; exact HB1.out.alloc (by have := HB1.out.size; omega) _
  have HK2 : Hid (w2.heap[w.heap.size]? = some (.cells #[own w.heap.size, .slice none 0 0] 69 (0, 0))) := by rw [hw2]; exact (Below.heap_alloc w1 _ _ hlt).trans hb1
  have HW2 := Hid.mk' hw2
  clear hb1 hbl1 hw2
  go_wp2_with fail
  refine wp_loop_rounds 1 ?_
  rw [rounds_succ]
  go_wp2_with fail
  rw [← HW2.out]
  refine (str_nil w.heap.size w.heap.size _ w2 HK2.out).mono ?_
  rintro e w3 ⟨rfl, hb3⟩
  go_wp2_with fail
  go_ret
  exact ⟨rfl, HB2.out.trans hb3⟩
set_option maxRecDepth 100000 in
set_option maxHeartbeats 1000000 in
theorem armor_some (s : ByteArray) (w : World) (hs : s.size ≤ 1099511627776) (h0 : 0 < s.size) :
    Calls Try.prog 18 #[.string s] w fun e w' => e = .returned (.string (nums (Code.arm 0 0 (Sums.bl s)))) ∧ Below w.heap.size w w' := by
  have hs2 : (s.size : Int) ≤ 1099511627776 := by omega
  have HS := Hid.mk' hs
  obtain ⟨q, HQ⟩ : ∃ q, Hid (q = (s.size * 8 + 5) / 6) := ⟨_, rfl⟩
  go_enter Try.func18, Try.ntmps18
  go_wp2_with fail
  rw [show ((s.size : Int) * 8 + 6 - 1) / 6 = (q : Int) by have := HQ.out; omega]
  refine (Grow_new w.heap.size w.heap.size q _ (Nat.le_refl _) (heap_alloc_new w _) (by simp) (by have := HQ.out; omega) (by have := HQ.out; omega)).mono ?_
  rintro e w1 ⟨rfl, hb1, hbl1⟩
  have hlt : w.heap.size < w1.heap.size := hb1.lt
  have HB1 : Hid (Below w.heap.size w w1) := ((Below.refl _ _).alloc (Nat.le_refl _) _).trans hbl1
  obtain ⟨w2, hw2⟩ : ∃ w2, w2 = w1.alloc (.cells #[.int .u32 0, .int .i64 0] 73) := ⟨_, rfl⟩
  have HB2 : Hid (Below w.heap.size w w2) := by rw [hw2]; exact HB1.out.alloc (by have := HB1.out.size; omega) _
  have HK2 : Hid (Bld w.heap.size w.heap.size (own w.heap.size) [] w2) := by
    obtain ⟨hB, x, hbk, hown, hne⟩ := hb1
    rw [hw2]
    exact ⟨hB, x, (Below.heap_alloc w1 _ _ hlt).trans hbk, hown.alloc _, hne⟩
  obtain ⟨g, HG⟩ : ∃ g, Hid (g = w1.heap.size) := ⟨_, rfl⟩
  have HT2 : Hid (Wt g 0 0 w2) := ⟨0, by decide, by decide, by rw [hw2, HG.out]; exact heap_alloc_new w1 _⟩
  have hgb : Hid (g ≠ w.heap.size ∧ w.heap.size ≤ g) := by have := HG.out; exact ⟨by omega, by omega⟩
  have HW2 := Hid.mk' hw2
  clear hb1 hbl1 hw2 hs hlt
  go_wp2_with fail
  rw [← HW2.out, ← HG.out]
  clear HW2 HG HB1
  go_loopw [15] (fun i' wr => ∃ (i r v : Nat) (out : List Nat), i' = .int .i64 (i : Int) ∧ i ≤ s.size ∧ (r = 0 ∨ r = 1 ∨ r = 2) ∧ v < Code.wide r ∧ out ++ Code.arm r v ((Sums.bl s).drop i) = Code.arm 0 0 (Sums.bl s) ∧ out.length ≤ 2 * i ∧ Bld w.heap.size w.heap.size (own w.heap.size) out wr ∧ Wt g v (2 * r) wr ∧ Below w.heap.size w wr) (fun i' _ => s.size - (intOf i').toNat)
  case atStart => exact ⟨0, 0, 0, [], rfl, by omega, .inl rfl, by decide, rfl, by simp, HK2.out, HT2.out, HB2.out⟩
  case round =>
    obtain ⟨i, r, v, out, rfl, hi, hr, hv, hout, hol, hbl, hwt, hb⟩ := hrel
    have HI := Hid.mk' hi
    have HV := Hid.mk' hv
    have HOUT := Hid.mk' hout
    have HOL := Hid.mk' hol
    have HBL := Hid.mk' hbl
    have HWT := Hid.mk' hwt
    have HB := Hid.mk' hb
    clear hi hv hout hol hbl hwt hb HK2 HT2 HB2
    by_cases hlt : i < s.size
    · have i0 : (0 : Int) ≤ (i : Int) := by omega
      have i1 : (i : Int) < (s.size : Int) := by omega
      obtain ⟨c, HC⟩ : ∃ c, Hid (c = (Sums.bl s).getD i 0) := ⟨_, rfl⟩
      have HC2 := Hid.mk' (Sums.bl_get s i hlt)
      have HC256 : Hid (c < 256) := by rw [HC.out]; exact bl_lt _ _
      have HL := Hid.mk' hlt
      have HD : Hid ((Sums.bl s).drop i = c :: (Sums.bl s).drop (i + 1)) := by unfold Hid; rw [HC.out]; exact drop_cons s i hlt
      go_wp2_with fail
      rw [← HC2.out, ← HC.out]
      clear HC2
      rw [show (c : Int) % 4294967296 = (c : Int) by have := HC256.out; omega]
      refine (put8 g v (2 * r) c wr HWT.out (by omega) HC256.out).mono ?_
      rintro e w3 ⟨rfl, hwt3, ho3⟩
      have HBL3 : Hid (Bld w.heap.size w.heap.size (own w.heap.size) out w3) := Bld.only HBL.out ho3 HWT.out hgb.out.1.symm
      have HB3 : Hid (Below w.heap.size w w3) := HB.out.trans (ho3.below hgb.out.2 HB.out.size)
      have c3 := hwt3.c1
      have HWT3 := Hid.mk' hwt3
      clear hwt3 ho3 HBL HWT HB HC hlt
      rcases hr with rfl | rfl | rfl
      · have v0 : v = 0 := by have : v < 1 := HV.out; omega
        subst v0
        have HV2 : Hid (0 < 4) := Hid.mk' (by decide)
        simp only [Nat.mul_zero, Nat.zero_add, Int.cast_ofNat_Int] at c3
        go_wp2_with fail
        refine wp_loop_rounds 2 ?_
        rw [rounds_succ]
        go_wp2_with fail
        refine (take6 g (0 * 256 + c) _ 2 w3 HWT3.out (by omega) (by omega)).mono ?_
        rintro e a4 ⟨rfl, hwtA, hoA⟩
        obtain ⟨x4, HX4⟩ : ∃ x : Nat, Hid (x = (0 * 256 + c) / 2 ^ 2) := ⟨_, Hid.mk' rfl⟩
        rw [← HX4.out]
        have HY4 : Hid (x4 < 64) := by unfold Hid; rw [HX4.out]; refine Nat.div_lt_of_lt_mul ?_; have := HC256.out; have := HV2.out; simp only [Nat.reducePow, Nat.reduceMul]; omega
        have hidx4 := idx_tab x4 HY4.out
        have HBA4 : Hid (Bld w.heap.size w.heap.size (own w.heap.size) (out) a4) := Bld.only HBL3.out hoA HWT3.out hgb.out.1.symm
        have HA4 : Hid (Below w.heap.size w a4) := HB3.out.trans (hoA.below hgb.out.2 HB3.out.size)
        have HWA4 := Hid.mk' hwtA
        clear hwtA hoA
        go_wp2_with fail
        refine (wbyte_any w.heap.size w.heap.size (out) (Code.ch x4) a4 HBA4.out (by have := HOL.out; have := HS.out; have := HI.out; skip; omega) HA4.out.size).mono ?_
        rintro e b4 ⟨rfl, hblB, hbB, hrB⟩
        have HBL4 := Hid.mk' hblB
        have HB4 : Hid (Below w.heap.size w b4) := HA4.out.trans hbB
        have hwtB := HWA4.out.rest hrB hgb.out.1
        have cB4 := hwtB.c1
        push_cast at cB4
        have HWT4 := Hid.mk' hwtB
        clear hblB hbB hrB hwtB hidx4
        go_wp2_with fail
        rw [rounds_succ]
        go_wp2_with fail
        go_roundw
        case rel =>
          refine ⟨i + 1, 1, c % 4, out ++ [Code.ch x4], by go_num, HL.out, by omega, ?_, ?_, ?_, HBL4.out, ?_, HB4.out⟩
          · have := HC256.out
            show _ < 4
            omega
          · have ho := HOUT.out
            rw [HD.out] at ho
            rw [← ho]
            simp only [Code.arm, List.append_assoc, List.cons_append, List.nil_append]
            rw [HX4.out, show (0 * 256 + c) / 2 ^ 2 = c / 4 by simp]
          · have := HOL.out
            simp
            omega
          · have h := HWT4.out
            rw [show (0 * 256 + c) % 2 ^ 2 = c % 4 by simp] at h
            exact h
        case measure => have := HL.out; simp [intOf]; omega
      · have HV2 : Hid (v < 4) := HV.out
        simp only [Nat.mul_one, Nat.reduceAdd, Int.cast_ofNat_Int] at c3
        go_wp2_with fail
        refine wp_loop_rounds 2 ?_
        rw [rounds_succ]
        go_wp2_with fail
        refine (take6 g (v * 256 + c) _ 4 w3 HWT3.out (by omega) (by omega)).mono ?_
        rintro e a4 ⟨rfl, hwtA, hoA⟩
        obtain ⟨x4, HX4⟩ : ∃ x : Nat, Hid (x = (v * 256 + c) / 2 ^ 4) := ⟨_, Hid.mk' rfl⟩
        rw [← HX4.out]
        have HY4 : Hid (x4 < 64) := by unfold Hid; rw [HX4.out]; refine Nat.div_lt_of_lt_mul ?_; have := HC256.out; have := HV2.out; simp only [Nat.reducePow, Nat.reduceMul]; omega
        have hidx4 := idx_tab x4 HY4.out
        have HBA4 : Hid (Bld w.heap.size w.heap.size (own w.heap.size) (out) a4) := Bld.only HBL3.out hoA HWT3.out hgb.out.1.symm
        have HA4 : Hid (Below w.heap.size w a4) := HB3.out.trans (hoA.below hgb.out.2 HB3.out.size)
        have HWA4 := Hid.mk' hwtA
        clear hwtA hoA
        go_wp2_with fail
        refine (wbyte_any w.heap.size w.heap.size (out) (Code.ch x4) a4 HBA4.out (by have := HOL.out; have := HS.out; have := HI.out; skip; omega) HA4.out.size).mono ?_
        rintro e b4 ⟨rfl, hblB, hbB, hrB⟩
        have HBL4 := Hid.mk' hblB
        have HB4 : Hid (Below w.heap.size w b4) := HA4.out.trans hbB
        have hwtB := HWA4.out.rest hrB hgb.out.1
        have cB4 := hwtB.c1
        push_cast at cB4
        have HWT4 := Hid.mk' hwtB
        clear hblB hbB hrB hwtB hidx4
        go_wp2_with fail
        rw [rounds_succ]
        go_wp2_with fail
        go_roundw
        case rel =>
          refine ⟨i + 1, 2, c % 16, out ++ [Code.ch x4], by go_num, HL.out, by omega, ?_, ?_, ?_, HBL4.out, ?_, HB4.out⟩
          · have := HC256.out
            show _ < 16
            omega
          · have ho := HOUT.out
            rw [HD.out] at ho
            rw [← ho]
            simp only [Code.arm, List.append_assoc, List.cons_append, List.nil_append]
            rw [HX4.out, show (v * 256 + c) / 2 ^ 4 = v * 16 + c / 16 by simp only [Nat.reducePow]; omega]
          · have := HOL.out
            simp
            omega
          · have h := HWT4.out
            rw [show (v * 256 + c) % 2 ^ 4 = c % 16 by simp only [Nat.reducePow]; omega] at h
            exact h
        case measure => have := HL.out; simp [intOf]; omega
      · have HV2 : Hid (v < 16) := HV.out
        simp only [Nat.reduceMul, Nat.reduceAdd, Int.cast_ofNat_Int] at c3
        go_wp2_with fail
        refine wp_loop_rounds 3 ?_
        rw [rounds_succ]
        go_wp2_with fail
        refine (take6 g (v * 256 + c) _ 6 w3 HWT3.out (by omega) (by omega)).mono ?_
        rintro e a4 ⟨rfl, hwtA, hoA⟩
        obtain ⟨x4, HX4⟩ : ∃ x : Nat, Hid (x = (v * 256 + c) / 2 ^ 6) := ⟨_, Hid.mk' rfl⟩
        rw [← HX4.out]
        have HY4 : Hid (x4 < 64) := by unfold Hid; rw [HX4.out]; refine Nat.div_lt_of_lt_mul ?_; have := HC256.out; have := HV2.out; simp only [Nat.reducePow, Nat.reduceMul]; omega
        have hidx4 := idx_tab x4 HY4.out
        have HBA4 : Hid (Bld w.heap.size w.heap.size (own w.heap.size) (out) a4) := Bld.only HBL3.out hoA HWT3.out hgb.out.1.symm
        have HA4 : Hid (Below w.heap.size w a4) := HB3.out.trans (hoA.below hgb.out.2 HB3.out.size)
        have HWA4 := Hid.mk' hwtA
        clear hwtA hoA
        go_wp2_with fail
        refine (wbyte_any w.heap.size w.heap.size (out) (Code.ch x4) a4 HBA4.out (by have := HOL.out; have := HS.out; have := HI.out; skip; omega) HA4.out.size).mono ?_
        rintro e b4 ⟨rfl, hblB, hbB, hrB⟩
        have HBL4 := Hid.mk' hblB
        have HB4 : Hid (Below w.heap.size w b4) := HA4.out.trans hbB
        have hwtB := HWA4.out.rest hrB hgb.out.1
        have cB4 := hwtB.c1
        push_cast at cB4
        have HWT4 := Hid.mk' hwtB
        clear hblB hbB hrB hwtB hidx4
        go_wp2_with fail
        rw [rounds_succ]
        go_wp2_with fail
        refine (take6 g ((v * 256 + c) % 2 ^ 6) _ 0 b4 HWT4.out (by omega) (by omega)).mono ?_
        rintro e a5 ⟨rfl, hwtA, hoA⟩
        obtain ⟨x5, HX5⟩ : ∃ x : Nat, Hid (x = ((v * 256 + c) % 2 ^ 6) / 2 ^ 0) := ⟨_, Hid.mk' rfl⟩
        rw [← HX5.out]
        have HY5 : Hid (x5 < 64) := by unfold Hid; rw [HX5.out]; refine Nat.div_lt_of_lt_mul ?_; have := HC256.out; have := HV2.out; simp only [Nat.reducePow, Nat.reduceMul]; omega
        have hidx5 := idx_tab x5 HY5.out
        have HBA5 : Hid (Bld w.heap.size w.heap.size (own w.heap.size) (out ++ [Code.ch x4]) a5) := Bld.only HBL4.out hoA HWT4.out hgb.out.1.symm
        have HA5 : Hid (Below w.heap.size w a5) := HB4.out.trans (hoA.below hgb.out.2 HB4.out.size)
        have HWA5 := Hid.mk' hwtA
        clear hwtA hoA
        go_wp2_with fail
        refine (wbyte_any w.heap.size w.heap.size (out ++ [Code.ch x4]) (Code.ch x5) a5 HBA5.out (by have := HOL.out; have := HS.out; have := HI.out; simp; omega) HA5.out.size).mono ?_
        rintro e b5 ⟨rfl, hblB, hbB, hrB⟩
        have HBL5 := Hid.mk' hblB
        have HB5 : Hid (Below w.heap.size w b5) := HA5.out.trans hbB
        have hwtB := HWA5.out.rest hrB hgb.out.1
        have cB5 := hwtB.c1
        push_cast at cB5
        have HWT5 := Hid.mk' hwtB
        clear hblB hbB hrB hwtB hidx5
        go_wp2_with fail
        rw [rounds_succ]
        go_wp2_with fail
        go_roundw
        case rel =>
          refine ⟨i + 1, 0, 0, out ++ [Code.ch x4] ++ [Code.ch x5], by go_num, HL.out, by omega, ?_, ?_, ?_, HBL5.out, ?_, HB5.out⟩
          · have := HC256.out
            show _ < 1
            omega
          · have ho := HOUT.out
            rw [HD.out] at ho
            rw [← ho]
            simp only [Code.arm, List.append_assoc, List.cons_append, List.nil_append]
            rw [HX4.out, HX5.out, show (v * 256 + c) / 2 ^ 6 = v * 4 + c / 64 by simp only [Nat.reducePow]; omega, show (v * 256 + c) % 2 ^ 6 / 2 ^ 0 = c % 64 by simp only [Nat.reducePow]; omega]
          · have := HOL.out
            simp
            omega
          · have h := HWT5.out
            rw [show (v * 256 + c) % 2 ^ 6 % 2 ^ 0 = 0 by simp only [Nat.reducePow]; omega] at h
            exact h
        case measure => have := HL.out; simp [intOf]; omega
    · have hge : ¬ (i : Int) < (s.size : Int) := by omega
      have HNE : Hid (Code.arm 0 0 (Sums.bl s) ≠ []) := by
        have h := drop_cons s 0 h0
        rw [List.drop_zero] at h
        rw [h]
        exact fun e => by cases e
      have HBYT : Hid (∀ z ∈ Code.arm 0 0 (Sums.bl s), z < 256) := by
        intro z hz
        obtain ⟨n, hn, rfl⟩ := Code.arm_byt _ 0 0 (by decide) (Sums.bl_byt s) z hz
        exact Code.ch_lt n hn
      rcases hr with rfl | rfl | rfl
      · have c1 := HWT.out.c1
        simp only [Nat.mul_zero, Int.cast_ofNat_Int] at c1
        have HF : Hid (out = Code.arm 0 0 (Sums.bl s)) := by
          have ho := HOUT.out
          rw [drop_end s i (by omega)] at ho
          unfold Hid
          rw [← ho, show Code.arm 0 v [] = [] from rfl, List.append_nil]
        go_wp2_with fail
        rw [HF.out] at HBL
        refine (str_some w.heap.size w.heap.size _ _ wr HBL.out HNE.out HBYT.out).mono ?_
        rintro e w5 ⟨rfl, hb5⟩
        go_wp2_with fail
        go_ret
        exact ⟨rfl, HB.out.trans hb5⟩
      · have HV2 : Hid (v < 4) := HV.out
        have c1 := HWT.out.c1
        simp only [Nat.mul_one, Int.cast_ofNat_Int] at c1
        go_wp2_with fail
        refine (put4 g v _ wr HWT.out (by omega)).mono ?_
        rintro e w3 ⟨rfl, hwt3, ho3⟩
        have HBL3 : Hid (Bld w.heap.size w.heap.size (own w.heap.size) out w3) := Bld.only HBL.out ho3 HWT.out hgb.out.1.symm
        have HB3 : Hid (Below w.heap.size w w3) := HB.out.trans (ho3.below hgb.out.2 HB.out.size)
        have HWT3 := Hid.mk' hwt3
        have HC256 : Hid (0 < 256) := Hid.mk' (by decide)
        clear hwt3 ho3 HBL HWT HB c1
        go_wp2_with fail
        refine (take6 g (v * 16 + 0) _ 0 w3 HWT3.out (by omega) (by omega)).mono ?_
        rintro e a4 ⟨rfl, hwtA, hoA⟩
        obtain ⟨x4, HX4⟩ : ∃ x : Nat, Hid (x = (v * 16 + 0) / 2 ^ 0) := ⟨_, Hid.mk' rfl⟩
        rw [← HX4.out]
        have HY4 : Hid (x4 < 64) := by unfold Hid; rw [HX4.out]; refine Nat.div_lt_of_lt_mul ?_; have := HC256.out; have := HV2.out; simp only [Nat.reducePow, Nat.reduceMul]; omega
        have hidx4 := idx_tab x4 HY4.out
        have HBA4 : Hid (Bld w.heap.size w.heap.size (own w.heap.size) (out) a4) := Bld.only HBL3.out hoA HWT3.out hgb.out.1.symm
        have HA4 : Hid (Below w.heap.size w a4) := HB3.out.trans (hoA.below hgb.out.2 HB3.out.size)
        have HWA4 := Hid.mk' hwtA
        clear hwtA hoA
        go_wp2_with fail
        refine (wbyte_any w.heap.size w.heap.size (out) (Code.ch x4) a4 HBA4.out (by have := HOL.out; have := HS.out; have := HI.out; skip; omega) HA4.out.size).mono ?_
        rintro e b4 ⟨rfl, hblB, hbB, hrB⟩
        have HBL4 := Hid.mk' hblB
        have HB4 : Hid (Below w.heap.size w b4) := HA4.out.trans hbB
        have hwtB := HWA4.out.rest hrB hgb.out.1
        have cB4 := hwtB.c1
        push_cast at cB4
        have HWT4 := Hid.mk' hwtB
        clear hblB hbB hrB hwtB hidx4
        go_wp2_with fail
        have HF : Hid (out ++ [Code.ch x4] = Code.arm 0 0 (Sums.bl s)) := by
          have ho := HOUT.out
          rw [drop_end s i (by omega)] at ho
          unfold Hid
          rw [← ho, HX4.out, show (v * 16 + 0) / 2 ^ 0 = v * 16 by simp only [Nat.reducePow]; omega]
          rfl
        rw [HF.out] at HBL4
        refine (str_some w.heap.size w.heap.size _ _ b4 HBL4.out HNE.out HBYT.out).mono ?_
        rintro e w5 ⟨rfl, hb5⟩
        go_wp2_with fail
        go_ret
        exact ⟨rfl, HB4.out.trans hb5⟩
      · have HV2 : Hid (v < 16) := HV.out
        have c1 := HWT.out.c1
        simp only [Nat.reduceMul, Int.cast_ofNat_Int] at c1
        go_wp2_with fail
        refine (put2 g v _ wr HWT.out (by omega)).mono ?_
        rintro e w3 ⟨rfl, hwt3, ho3⟩
        have HBL3 : Hid (Bld w.heap.size w.heap.size (own w.heap.size) out w3) := Bld.only HBL.out ho3 HWT.out hgb.out.1.symm
        have HB3 : Hid (Below w.heap.size w w3) := HB.out.trans (ho3.below hgb.out.2 HB.out.size)
        have HWT3 := Hid.mk' hwt3
        have HC256 : Hid (0 < 256) := Hid.mk' (by decide)
        clear hwt3 ho3 HBL HWT HB c1
        go_wp2_with fail
        refine (take6 g (v * 4 + 0) _ 0 w3 HWT3.out (by omega) (by omega)).mono ?_
        rintro e a4 ⟨rfl, hwtA, hoA⟩
        obtain ⟨x4, HX4⟩ : ∃ x : Nat, Hid (x = (v * 4 + 0) / 2 ^ 0) := ⟨_, Hid.mk' rfl⟩
        rw [← HX4.out]
        have HY4 : Hid (x4 < 64) := by unfold Hid; rw [HX4.out]; refine Nat.div_lt_of_lt_mul ?_; have := HC256.out; have := HV2.out; simp only [Nat.reducePow, Nat.reduceMul]; omega
        have hidx4 := idx_tab x4 HY4.out
        have HBA4 : Hid (Bld w.heap.size w.heap.size (own w.heap.size) (out) a4) := Bld.only HBL3.out hoA HWT3.out hgb.out.1.symm
        have HA4 : Hid (Below w.heap.size w a4) := HB3.out.trans (hoA.below hgb.out.2 HB3.out.size)
        have HWA4 := Hid.mk' hwtA
        clear hwtA hoA
        go_wp2_with fail
        refine (wbyte_any w.heap.size w.heap.size (out) (Code.ch x4) a4 HBA4.out (by have := HOL.out; have := HS.out; have := HI.out; skip; omega) HA4.out.size).mono ?_
        rintro e b4 ⟨rfl, hblB, hbB, hrB⟩
        have HBL4 := Hid.mk' hblB
        have HB4 : Hid (Below w.heap.size w b4) := HA4.out.trans hbB
        have hwtB := HWA4.out.rest hrB hgb.out.1
        have cB4 := hwtB.c1
        push_cast at cB4
        have HWT4 := Hid.mk' hwtB
        clear hblB hbB hrB hwtB hidx4
        go_wp2_with fail
        have HF : Hid (out ++ [Code.ch x4] = Code.arm 0 0 (Sums.bl s)) := by
          have ho := HOUT.out
          rw [drop_end s i (by omega)] at ho
          unfold Hid
          rw [← ho, HX4.out, show (v * 4 + 0) / 2 ^ 0 = v * 4 by simp only [Nat.reducePow]; omega]
          rfl
        rw [HF.out] at HBL4
        refine (str_some w.heap.size w.heap.size _ _ b4 HBL4.out HNE.out HBYT.out).mono ?_
        rintro e w5 ⟨rfl, hb5⟩
        go_wp2_with fail
        go_ret
        exact ⟨rfl, HB4.out.trans hb5⟩
theorem armor_any (s : ByteArray) (w : World) (hs : s.size ≤ 1099511627776) :
    Calls Try.prog 18 #[.string s] w fun e w' => e = .returned (.string (nums (Code.arm 0 0 (Sums.bl s)))) ∧ Below w.heap.size w w' := by
  by_cases h0 : s.size = 0
  · obtain rfl := empty_of_size h0
    exact armor_nil w
  · exact armor_some s w hs (by omega)
end Go.Proofs.Ythmaaeibdcoemaa
