/-
  What the document's Armor does. Conditions: the text has at most 2^40 bytes.
-/
import Derived.Test.YthmaaeibdcoemaaKnown
namespace Go.Proofs.Ythmaaeibdcoemaa
open Go.RowKit
set_option linter.unusedVariables false
theorem idx_tab2 (r : Nat) (h : r < 64) (w : World) : (Instr.index 9 (.string ⟨#[65, 66, 67, 68, 69, 70, 71, 72, 73, 74, 75, 76, 77, 78, 79, 80, 81, 82, 83, 84, 85, 86, 87, 88, 89, 90, 97, 98, 99, 100, 101, 102, 103, 104, 105, 106, 107, 108, 109, 110, 111, 112, 113, 114, 115, 116, 117, 118, 119, 120, 121, 122, 48, 49, 50, 51, 52, 53, 54, 55, 56, 57, 45, 95]⟩) (.int .i64 (r : Int))).run Try.prog w = .ok (.int .u8 (Code.ch r : Int)) w := by
  have hz : (r : Int) < (⟨#[65, 66, 67, 68, 69, 70, 71, 72, 73, 74, 75, 76, 77, 78, 79, 80, 81, 82, 83, 84, 85, 86, 87, 88, 89, 90, 97, 98, 99, 100, 101, 102, 103, 104, 105, 106, 107, 108, 109, 110, 111, 112, 113, 114, 115, 116, 117, 118, 119, 120, 121, 122, 48, 49, 50, 51, 52, 53, 54, 55, 56, 57, 45, 95]⟩ : ByteArray).size := by
    have : (⟨#[65, 66, 67, 68, 69, 70, 71, 72, 73, 74, 75, 76, 77, 78, 79, 80, 81, 82, 83, 84, 85, 86, 87, 88, 89, 90, 97, 98, 99, 100, 101, 102, 103, 104, 105, 106, 107, 108, 109, 110, 111, 112, 113, 114, 115, 116, 117, 118, 119, 120, 121, 122, 48, 49, 50, 51, 52, 53, 54, 55, 56, 57, 45, 95]⟩ : ByteArray).size = 64 := by decide +kernel
    omega
  rw [run_index_string w 9 _ .i64 (r : Int) Try.underlying9, dif_pos ⟨by omega, hz⟩]
  have hg := Sums.bl_get ⟨#[65, 66, 67, 68, 69, 70, 71, 72, 73, 74, 75, 76, 77, 78, 79, 80, 81, 82, 83, 84, 85, 86, 87, 88, 89, 90, 97, 98, 99, 100, 101, 102, 103, 104, 105, 106, 107, 108, 109, 110, 111, 112, 113, 114, 115, 116, 117, 118, 119, 120, 121, 122, 48, 49, 50, 51, 52, 53, 54, 55, 56, 57, 45, 95]⟩ r (by omega)
  rw [bl_tab] at hg
  simp only [Int.toNat_natCast]
  rw [← hg]
  rfl
theorem idx_any (s : ByteArray) (i c : Nat) (hi : i < s.size) (hc : c = (Sums.bl s).getD i 0) (W : World) : (Instr.index 9 (.string s) (.int .i64 (i : Int))).run Try.prog W = .ok (.int .u8 (c : Int)) W := by
  have hg := Sums.bl_get s i hi
  rw [run_index_string W 9 _ .i64 (i : Int) Try.underlying9, dif_pos ⟨by omega, by omega⟩]
  simp only [Int.toNat_natCast]
  rw [hc, hg]
theorem ch_byv (x : Nat) : [Value.int .u8 (Code.ch x : Int)] = byv [Code.ch x] := rfl
set_option maxRecDepth 100000 in
set_option maxHeartbeats 4000000 in
theorem refArmor_any (s : ByteArray) (w : World) (hs : s.size ≤ 1099511627776) :
    Calls Try.prog 21 #[.string s] w fun e w' => e = .returned (.string (nums (Code.arm 0 0 (Sums.bl s)))) ∧ Below w.heap.size w w' := by
  obtain ⟨i0, hi, hz0, hz1, hz2⟩ := info_parts infoB
  have hs2 : (s.size : Int) ≤ 1099511627776 := by omega
  have HS := Hid.mk' hs
  clear hs
  go_enter Try.func21, Try.ntmps21
  go_wp2_with fail
  go_loopw [3, 4, 5, 6] (fun o' n' h' i' wr => ∃ (i r v : Nat) (out : List Nat), i' = .int .i64 (i : Int) ∧ n' = .int .i64 (v : Int) ∧ h' = .int .i64 ((2 * r : Nat) : Int) ∧ i ≤ s.size ∧ (r = 0 ∨ r = 1 ∨ r = 2) ∧ v < Code.wide r ∧ out ++ Code.arm r v ((Sums.bl s).drop i) = Code.arm 0 0 (Sums.bl s) ∧ out.length ≤ 2 * i ∧ wr.ownsRow w.heap.size 5 1 o' out.length (byv out) ∧ Below w.heap.size w wr) (fun _ _ _ i' _ => s.size - (intOf i').toNat)
  case atStart => exact ⟨0, 0, 0, [], rfl, rfl, rfl, by omega, .inl rfl, by decide, rfl, by simp, World.ownsRow_nil _ _ _ _, Below.refl _ _⟩
  case round =>
    obtain ⟨i, r, v, out, rfl, rfl, rfl, hi', hr, hv, hout, hol, hown, hb⟩ := hrel
    have HI := Hid.mk' hi'
    have HV := Hid.mk' hv
    have HOUT := Hid.mk' hout
    have HOL := Hid.mk' hol
    have HOWN := Hid.mk' hown
    have HB := Hid.mk' hb
    clear hi' hv hout hol hown hb
    by_cases hlt : i < s.size
    · have hlt2 : (i : Int) < (s.size : Int) := by omega
      obtain ⟨c, HC⟩ : ∃ c, Hid (c = (Sums.bl s).getD i 0) := ⟨_, Hid.mk' rfl⟩
      have HC256 : Hid (c < 256) := by rw [HC.out]; exact bl_lt _ _
      have HL := Hid.mk' hlt
      have HD : Hid ((Sums.bl s).drop i = c :: (Sums.bl s).drop (i + 1)) := by unfold Hid; rw [HC.out]; exact drop_cons s i hlt
      have hidx := idx_any s i c hlt HC.out
      have c1 : (c : Int) < 256 := by have := HC256.out; omega
      clear hlt HC
      have HO := HOWN
      have hol : out.length ≤ 2199023255552 := by have := HOL.out; have := HI.out; have := HS.out; omega
      rcases hr with rfl | rfl | rfl
      · have v0 : v = 0 := by have : v < 1 := HV.out; omega
        subst v0
        simp only [Nat.mul_zero, Int.cast_ofNat_Int]
        go_wp2_with fail
        refine wp_loop_rounds 9 ?_
        rw [rounds_succ]
        go_wp2_with fail
        obtain ⟨m1, Hm1⟩ : ∃ x : Nat, Hid (x = c / 128 % 2) := ⟨_, Hid.mk' rfl⟩
        have bm1 : (m1 : Int) < 2 := by have := Hm1.out; omega
        rw [show (c : Int) / 128 % 2 = (m1 : Int) by have := Hm1.out; omega]
        rw [rounds_succ]
        go_wp2_with fail
        obtain ⟨m2, Hm2⟩ : ∃ x : Nat, Hid (x = 2 * m1 + c / 64 % 2) := ⟨_, Hid.mk' rfl⟩
        have bm2 : (m2 : Int) < 4 := by have := Hm2.out; omega
        rw [show 2 * (m1 : Int) + (c : Int) / 64 % 2 = (m2 : Int) by have := Hm2.out; omega]
        rw [rounds_succ]
        go_wp2_with fail
        obtain ⟨m3, Hm3⟩ : ∃ x : Nat, Hid (x = 2 * m2 + c / 32 % 2) := ⟨_, Hid.mk' rfl⟩
        have bm3 : (m3 : Int) < 8 := by have := Hm3.out; omega
        rw [show 2 * (m2 : Int) + (c : Int) / 32 % 2 = (m3 : Int) by have := Hm3.out; omega]
        rw [rounds_succ]
        go_wp2_with fail
        obtain ⟨m4, Hm4⟩ : ∃ x : Nat, Hid (x = 2 * m3 + c / 16 % 2) := ⟨_, Hid.mk' rfl⟩
        have bm4 : (m4 : Int) < 16 := by have := Hm4.out; omega
        rw [show 2 * (m3 : Int) + (c : Int) / 16 % 2 = (m4 : Int) by have := Hm4.out; omega]
        rw [rounds_succ]
        go_wp2_with fail
        obtain ⟨m5, Hm5⟩ : ∃ x : Nat, Hid (x = 2 * m4 + c / 8 % 2) := ⟨_, Hid.mk' rfl⟩
        have bm5 : (m5 : Int) < 32 := by have := Hm5.out; omega
        rw [show 2 * (m4 : Int) + (c : Int) / 8 % 2 = (m5 : Int) by have := Hm5.out; omega]
        obtain ⟨x1, Hx1⟩ : ∃ x : Nat, Hid (x = 2 * m5 + c / 4 % 2) := ⟨_, Hid.mk' rfl⟩
        have bx1 : x1 < 64 := by have := Hx1.out; omega
        have ex1 : 2 * (m5 : Int) + (c : Int) / 4 % 2 = (x1 : Int) := by have := Hx1.out; omega
        have hix1 := idx_tab2 x1 bx1
        have hoA : wr.ownsRow w.heap.size 5 1 _ (out).length (byv (out)) := HOWN.out
        have hBs := HB.out.size
        have holA : (out).length + 1 ≤ 2199023255560 := by have := HOL.out; have := HI.out; have := HS.out; simp; omega
        clear bx1
        rw [rounds_succ]
        go_wp2_with (first | (at_builtin; refine wpList_append_own _ rfl _ _ 64 rfl w.heap.size 5 i0 (.int .u8 0) 1 1 Try.underlying64 hi hz0 hz1 hz2 rfl (by decide) _ _ _ rfl (hoA.alloc _) ⟨wr.heap.size, 0, none⟩ 1 1 [.int .u8 (Code.ch x1 : Int)] rfl rfl (cell_one_new _ _ _) (by simp [Value.oneCell']) (by unfold maxLen; omega) (by omega) (by simp; omega) ?_; intro v1 w1 hown' hgrow _; have HBw1 := Hid.mk' (own_rel hBs hoA HB.out hgrow); rw [ch_byv, ← byv_append, show (out).length + 1 = (out ++ [Code.ch x1]).length from (by simp)] at hown'; have HOw1 := Hid.mk' hown'; clear hown' hgrow hoA hBs ex1 hix1 holA) | fail)
        rw [rounds_succ]
        go_wp2_with fail
        obtain ⟨n1, Hn1⟩ : ∃ x : Nat, Hid (x = c / 2 % 2) := ⟨_, Hid.mk' rfl⟩
        have bn1 : (n1 : Int) < 2 := by have := Hn1.out; omega
        rw [show (c : Int) / 2 % 2 = (n1 : Int) by have := Hn1.out; omega]
        rw [rounds_succ]
        go_wp2_with fail
        obtain ⟨n2, Hn2⟩ : ∃ x : Nat, Hid (x = 2 * n1 + c % 2) := ⟨_, Hid.mk' rfl⟩
        have bn2 : (n2 : Int) < 4 := by have := Hn2.out; omega
        rw [show 2 * (n1 : Int) + (c : Int) % 2 = (n2 : Int) by have := Hn2.out; omega]
        rw [rounds_succ]
        go_wp2_with fail
        go_roundw
        case rel =>
          refine ⟨i + 1, 1, n2, out ++ [Code.ch x1], by go_num, rfl, rfl, HL.out, by omega, ?_, ?_, ?_, HOw1.out, HBw1.out⟩
          · have := HC256.out
            show _ < 4
            have := Hn1.out; have := Hn2.out; omega
          · have ho := HOUT.out
            rw [HD.out] at ho
            rw [← ho]
            simp only [Code.arm, List.append_assoc, List.cons_append, List.nil_append]
            have := Hm1.out; have := Hm2.out; have := Hm3.out; have := Hm4.out; have := Hm5.out; have := Hx1.out; have := Hn1.out; have := Hn2.out; rw [show x1 = c / 4 by have := HC256.out; omega, show n2 = c % 4 by omega]
          · have := HOL.out
            simp
            omega
        case measure => have := HL.out; simp [intOf]; omega
      · have bv : (v : Int) < 4 := by have : v < 4 := HV.out; omega
        simp only [Nat.mul_one, Int.cast_ofNat_Int]
        go_wp2_with fail
        refine wp_loop_rounds 9 ?_
        rw [rounds_succ]
        go_wp2_with fail
        obtain ⟨m1, Hm1⟩ : ∃ x : Nat, Hid (x = 2 * v + c / 128 % 2) := ⟨_, Hid.mk' rfl⟩
        have bm1 : (m1 : Int) < 8 := by have := Hm1.out; omega
        rw [show 2 * (v : Int) + (c : Int) / 128 % 2 = (m1 : Int) by have := Hm1.out; omega]
        rw [rounds_succ]
        go_wp2_with fail
        obtain ⟨m2, Hm2⟩ : ∃ x : Nat, Hid (x = 2 * m1 + c / 64 % 2) := ⟨_, Hid.mk' rfl⟩
        have bm2 : (m2 : Int) < 16 := by have := Hm2.out; omega
        rw [show 2 * (m1 : Int) + (c : Int) / 64 % 2 = (m2 : Int) by have := Hm2.out; omega]
        rw [rounds_succ]
        go_wp2_with fail
        obtain ⟨m3, Hm3⟩ : ∃ x : Nat, Hid (x = 2 * m2 + c / 32 % 2) := ⟨_, Hid.mk' rfl⟩
        have bm3 : (m3 : Int) < 32 := by have := Hm3.out; omega
        rw [show 2 * (m2 : Int) + (c : Int) / 32 % 2 = (m3 : Int) by have := Hm3.out; omega]
        obtain ⟨x1, Hx1⟩ : ∃ x : Nat, Hid (x = 2 * m3 + c / 16 % 2) := ⟨_, Hid.mk' rfl⟩
        have bx1 : x1 < 64 := by have := Hx1.out; omega
        have ex1 : 2 * (m3 : Int) + (c : Int) / 16 % 2 = (x1 : Int) := by have := Hx1.out; omega
        have hix1 := idx_tab2 x1 bx1
        have hoA : wr.ownsRow w.heap.size 5 1 _ (out).length (byv (out)) := HOWN.out
        have hBs := HB.out.size
        have holA : (out).length + 1 ≤ 2199023255560 := by have := HOL.out; have := HI.out; have := HS.out; simp; omega
        clear bx1
        rw [rounds_succ]
        go_wp2_with (first | (at_builtin; refine wpList_append_own _ rfl _ _ 64 rfl w.heap.size 5 i0 (.int .u8 0) 1 1 Try.underlying64 hi hz0 hz1 hz2 rfl (by decide) _ _ _ rfl (hoA.alloc _) ⟨wr.heap.size, 0, none⟩ 1 1 [.int .u8 (Code.ch x1 : Int)] rfl rfl (cell_one_new _ _ _) (by simp [Value.oneCell']) (by unfold maxLen; omega) (by omega) (by simp; omega) ?_; intro v1 w1 hown' hgrow _; have HBw1 := Hid.mk' (own_rel hBs hoA HB.out hgrow); rw [ch_byv, ← byv_append, show (out).length + 1 = (out ++ [Code.ch x1]).length from (by simp)] at hown'; have HOw1 := Hid.mk' hown'; clear hown' hgrow hoA hBs ex1 hix1 holA) | fail)
        rw [rounds_succ]
        go_wp2_with fail
        obtain ⟨n1, Hn1⟩ : ∃ x : Nat, Hid (x = c / 8 % 2) := ⟨_, Hid.mk' rfl⟩
        have bn1 : (n1 : Int) < 2 := by have := Hn1.out; omega
        rw [show (c : Int) / 8 % 2 = (n1 : Int) by have := Hn1.out; omega]
        rw [rounds_succ]
        go_wp2_with fail
        obtain ⟨n2, Hn2⟩ : ∃ x : Nat, Hid (x = 2 * n1 + c / 4 % 2) := ⟨_, Hid.mk' rfl⟩
        have bn2 : (n2 : Int) < 4 := by have := Hn2.out; omega
        rw [show 2 * (n1 : Int) + (c : Int) / 4 % 2 = (n2 : Int) by have := Hn2.out; omega]
        rw [rounds_succ]
        go_wp2_with fail
        obtain ⟨n3, Hn3⟩ : ∃ x : Nat, Hid (x = 2 * n2 + c / 2 % 2) := ⟨_, Hid.mk' rfl⟩
        have bn3 : (n3 : Int) < 8 := by have := Hn3.out; omega
        rw [show 2 * (n2 : Int) + (c : Int) / 2 % 2 = (n3 : Int) by have := Hn3.out; omega]
        rw [rounds_succ]
        go_wp2_with fail
        obtain ⟨n4, Hn4⟩ : ∃ x : Nat, Hid (x = 2 * n3 + c % 2) := ⟨_, Hid.mk' rfl⟩
        have bn4 : (n4 : Int) < 16 := by have := Hn4.out; omega
        rw [show 2 * (n3 : Int) + (c : Int) % 2 = (n4 : Int) by have := Hn4.out; omega]
        rw [rounds_succ]
        go_wp2_with fail
        go_roundw
        case rel =>
          refine ⟨i + 1, 2, n4, out ++ [Code.ch x1], by go_num, rfl, rfl, HL.out, by omega, ?_, ?_, ?_, HOw1.out, HBw1.out⟩
          · have := HC256.out
            show _ < 16
            have := Hn1.out; have := Hn2.out; have := Hn3.out; have := Hn4.out; omega
          · have ho := HOUT.out
            rw [HD.out] at ho
            rw [← ho]
            simp only [Code.arm, List.append_assoc, List.cons_append, List.nil_append]
            have := Hm1.out; have := Hm2.out; have := Hm3.out; have := Hx1.out; have := Hn1.out; have := Hn2.out; have := Hn3.out; have := Hn4.out; rw [show x1 = v * 16 + c / 16 by have := HC256.out; omega, show n4 = c % 16 by omega]
          · have := HOL.out
            simp
            omega
        case measure => have := HL.out; simp [intOf]; omega
      · have bv : (v : Int) < 16 := by have : v < 16 := HV.out; omega
        simp only [Nat.reduceMul, Int.cast_ofNat_Int]
        go_wp2_with fail
        refine wp_loop_rounds 9 ?_
        rw [rounds_succ]
        go_wp2_with fail
        obtain ⟨m1, Hm1⟩ : ∃ x : Nat, Hid (x = 2 * v + c / 128 % 2) := ⟨_, Hid.mk' rfl⟩
        have bm1 : (m1 : Int) < 32 := by have := Hm1.out; omega
        rw [show 2 * (v : Int) + (c : Int) / 128 % 2 = (m1 : Int) by have := Hm1.out; omega]
        obtain ⟨x1, Hx1⟩ : ∃ x : Nat, Hid (x = 2 * m1 + c / 64 % 2) := ⟨_, Hid.mk' rfl⟩
        have bx1 : x1 < 64 := by have := Hx1.out; omega
        have ex1 : 2 * (m1 : Int) + (c : Int) / 64 % 2 = (x1 : Int) := by have := Hx1.out; omega
        have hix1 := idx_tab2 x1 bx1
        have hoA : wr.ownsRow w.heap.size 5 1 _ (out).length (byv (out)) := HOWN.out
        have hBs := HB.out.size
        have holA : (out).length + 1 ≤ 2199023255560 := by have := HOL.out; have := HI.out; have := HS.out; simp; omega
        clear bx1
        rw [rounds_succ]
        go_wp2_with (first | (at_builtin; refine wpList_append_own _ rfl _ _ 64 rfl w.heap.size 5 i0 (.int .u8 0) 1 1 Try.underlying64 hi hz0 hz1 hz2 rfl (by decide) _ _ _ rfl (hoA.alloc _) ⟨wr.heap.size, 0, none⟩ 1 1 [.int .u8 (Code.ch x1 : Int)] rfl rfl (cell_one_new _ _ _) (by simp [Value.oneCell']) (by unfold maxLen; omega) (by omega) (by simp; omega) ?_; intro v1 w1 hown' hgrow _; have HBw1 := Hid.mk' (own_rel hBs hoA HB.out hgrow); rw [ch_byv, ← byv_append, show (out).length + 1 = (out ++ [Code.ch x1]).length from (by simp)] at hown'; have HOw1 := Hid.mk' hown'; clear hown' hgrow hoA hBs ex1 hix1 holA) | fail)
        rw [rounds_succ]
        go_wp2_with fail
        obtain ⟨n1, Hn1⟩ : ∃ x : Nat, Hid (x = c / 32 % 2) := ⟨_, Hid.mk' rfl⟩
        have bn1 : (n1 : Int) < 2 := by have := Hn1.out; omega
        rw [show (c : Int) / 32 % 2 = (n1 : Int) by have := Hn1.out; omega]
        rw [rounds_succ]
        go_wp2_with fail
        obtain ⟨n2, Hn2⟩ : ∃ x : Nat, Hid (x = 2 * n1 + c / 16 % 2) := ⟨_, Hid.mk' rfl⟩
        have bn2 : (n2 : Int) < 4 := by have := Hn2.out; omega
        rw [show 2 * (n1 : Int) + (c : Int) / 16 % 2 = (n2 : Int) by have := Hn2.out; omega]
        rw [rounds_succ]
        go_wp2_with fail
        obtain ⟨n3, Hn3⟩ : ∃ x : Nat, Hid (x = 2 * n2 + c / 8 % 2) := ⟨_, Hid.mk' rfl⟩
        have bn3 : (n3 : Int) < 8 := by have := Hn3.out; omega
        rw [show 2 * (n2 : Int) + (c : Int) / 8 % 2 = (n3 : Int) by have := Hn3.out; omega]
        rw [rounds_succ]
        go_wp2_with fail
        obtain ⟨n4, Hn4⟩ : ∃ x : Nat, Hid (x = 2 * n3 + c / 4 % 2) := ⟨_, Hid.mk' rfl⟩
        have bn4 : (n4 : Int) < 16 := by have := Hn4.out; omega
        rw [show 2 * (n3 : Int) + (c : Int) / 4 % 2 = (n4 : Int) by have := Hn4.out; omega]
        rw [rounds_succ]
        go_wp2_with fail
        obtain ⟨n5, Hn5⟩ : ∃ x : Nat, Hid (x = 2 * n4 + c / 2 % 2) := ⟨_, Hid.mk' rfl⟩
        have bn5 : (n5 : Int) < 32 := by have := Hn5.out; omega
        rw [show 2 * (n4 : Int) + (c : Int) / 2 % 2 = (n5 : Int) by have := Hn5.out; omega]
        obtain ⟨x2, Hx2⟩ : ∃ x : Nat, Hid (x = 2 * n5 + c % 2) := ⟨_, Hid.mk' rfl⟩
        have bx2 : x2 < 64 := by have := Hx2.out; omega
        have ex2 : 2 * (n5 : Int) + (c : Int) % 2 = (x2 : Int) := by have := Hx2.out; omega
        have hix2 := idx_tab2 x2 bx2
        have hoA : w1.ownsRow w.heap.size 5 1 _ (out ++ [Code.ch x1]).length (byv (out ++ [Code.ch x1])) := HOw1.out
        have hBs := HBw1.out.size
        have holA : (out ++ [Code.ch x1]).length + 1 ≤ 2199023255560 := by have := HOL.out; have := HI.out; have := HS.out; simp; omega
        clear bx2
        rw [rounds_succ]
        go_wp2_with (first | (at_builtin; refine wpList_append_own _ rfl _ _ 64 rfl w.heap.size 5 i0 (.int .u8 0) 1 1 Try.underlying64 hi hz0 hz1 hz2 rfl (by decide) _ _ _ rfl (hoA.alloc _) ⟨w1.heap.size, 0, none⟩ 1 1 [.int .u8 (Code.ch x2 : Int)] rfl rfl (cell_one_new _ _ _) (by simp [Value.oneCell']) (by unfold maxLen; omega) (by omega) (by simp; omega) ?_; intro v2 w2 hown' hgrow _; have HBw2 := Hid.mk' (own_rel hBs hoA HBw1.out hgrow); rw [ch_byv, ← byv_append, show (out ++ [Code.ch x1]).length + 1 = (out ++ [Code.ch x1] ++ [Code.ch x2]).length from (by simp)] at hown'; have HOw2 := Hid.mk' hown'; clear hown' hgrow hoA hBs ex2 hix2 holA) | fail)
        rw [rounds_succ]
        go_wp2_with fail
        go_roundw
        case rel =>
          refine ⟨i + 1, 0, 0, out ++ [Code.ch x1] ++ [Code.ch x2], by go_num, rfl, rfl, HL.out, by omega, ?_, ?_, ?_, HOw2.out, HBw2.out⟩
          · have := HC256.out
            show _ < 1
            omega
          · have ho := HOUT.out
            rw [HD.out] at ho
            rw [← ho]
            simp only [Code.arm, List.append_assoc, List.cons_append, List.nil_append]
            have := Hm1.out; have := Hx1.out; have := Hn1.out; have := Hn2.out; have := Hn3.out; have := Hn4.out; have := Hn5.out; have := Hx2.out; rw [show x1 = v * 4 + c / 64 by have := HC256.out; omega, show x2 = c % 64 by have := HC256.out; omega]
          · have := HOL.out
            simp
            omega
        case measure => have := HL.out; simp [intOf]; omega
    · have hge : ¬ (i : Int) < (s.size : Int) := by omega
      have hd := drop_end s i (by omega)
      rw [hd] at HOUT
      clear hd hlt
      rcases hr with rfl | rfl | rfl
      · have HF : Hid (out = Code.arm 0 0 (Sums.bl s)) := by
          unfold Hid
          rw [← HOUT.out, show Code.arm 0 v [] = [] from rfl, List.append_nil]
        have hcv := conv_own w.heap.size _ out wr _ rfl HOWN.out
        simp only [Nat.mul_zero, Int.cast_ofNat_Int]
        go_wp2_with fail
        refine wp_loop_rounds 1 ?_
        rw [rounds_succ]
        go_wp2_with fail
        go_ret
        exact ⟨ret_str (by rw [HF.out]), HB.out⟩
      · have bv : (v : Int) < 4 := by have : v < 4 := HV.out; omega
        simp only [Nat.mul_one, Int.cast_ofNat_Int]
        go_wp2_with fail
        refine wp_loop_rounds 5 ?_
        rw [rounds_succ]
        go_wp2_with fail
        obtain ⟨m1, Hm1⟩ : ∃ x : Nat, Hid (x = 2 * v) := ⟨_, Hid.mk' rfl⟩
        have bm1 : (m1 : Int) < 8 := by have := Hm1.out; omega
        rw [show 2 * (v : Int) = (m1 : Int) by have := Hm1.out; omega]
        rw [rounds_succ]
        go_wp2_with fail
        obtain ⟨m2, Hm2⟩ : ∃ x : Nat, Hid (x = 2 * m1) := ⟨_, Hid.mk' rfl⟩
        have bm2 : (m2 : Int) < 16 := by have := Hm2.out; omega
        rw [show 2 * (m1 : Int) = (m2 : Int) by have := Hm2.out; omega]
        rw [rounds_succ]
        go_wp2_with fail
        obtain ⟨m3, Hm3⟩ : ∃ x : Nat, Hid (x = 2 * m2) := ⟨_, Hid.mk' rfl⟩
        have bm3 : (m3 : Int) < 32 := by have := Hm3.out; omega
        rw [show 2 * (m2 : Int) = (m3 : Int) by have := Hm3.out; omega]
        obtain ⟨x1, Hx1⟩ : ∃ x : Nat, Hid (x = 2 * m3) := ⟨_, Hid.mk' rfl⟩
        have bx1 : x1 < 64 := by have := Hx1.out; omega
        have ex1 : 2 * (m3 : Int) = (x1 : Int) := by have := Hx1.out; omega
        have hix1 := idx_tab2 x1 bx1
        have hoA := HOWN.out
        have hBs := HB.out.size
        have holA : out.length + 1 ≤ 2199023255560 := by have := HOL.out; have := HI.out; have := HS.out; omega
        have HF : Hid (out ++ [Code.ch x1] = Code.arm 0 0 (Sums.bl s)) := by
          unfold Hid
          have := Hm1.out; have := Hm2.out; have := Hm3.out; have := Hx1.out;
          rw [← HOUT.out, show x1 = v * 16 by omega]
          rfl
        clear bx1
        rw [rounds_succ]
        go_wp2_with (first | (at_builtin; refine wpList_append_own _ rfl _ _ 64 rfl w.heap.size 5 i0 (.int .u8 0) 1 1 Try.underlying64 hi hz0 hz1 hz2 rfl (by decide) _ _ _ rfl (hoA.alloc _) ⟨wr.heap.size, 0, none⟩ 1 1 [.int .u8 (Code.ch x1 : Int)] rfl rfl (cell_one_new _ _ _) (by simp [Value.oneCell']) (by unfold maxLen; omega) (by omega) (by simp; omega) ?_; intro v1 w1 hown' hgrow _; have HBw1 := Hid.mk' (own_rel hBs hoA HB.out hgrow); rw [ch_byv, ← byv_append, show out.length + 1 = (out ++ [Code.ch x1]).length from (by simp)] at hown'; have HOw1 := Hid.mk' hown'; clear hown' hgrow hoA hBs ex1 hix1 holA) | fail)
        have hcv := conv_own w.heap.size _ (out ++ [Code.ch x1]) w1 _ rfl HOw1.out
        rw [rounds_succ]
        go_wp2_with fail
        go_ret
        exact ⟨ret_str (by rw [HF.out]), HBw1.out⟩
      · have bv : (v : Int) < 16 := by have : v < 16 := HV.out; omega
        simp only [Nat.reduceMul, Int.cast_ofNat_Int]
        go_wp2_with fail
        refine wp_loop_rounds 3 ?_
        rw [rounds_succ]
        go_wp2_with fail
        obtain ⟨m1, Hm1⟩ : ∃ x : Nat, Hid (x = 2 * v) := ⟨_, Hid.mk' rfl⟩
        have bm1 : (m1 : Int) < 32 := by have := Hm1.out; omega
        rw [show 2 * (v : Int) = (m1 : Int) by have := Hm1.out; omega]
        obtain ⟨x1, Hx1⟩ : ∃ x : Nat, Hid (x = 2 * m1) := ⟨_, Hid.mk' rfl⟩
        have bx1 : x1 < 64 := by have := Hx1.out; omega
        have ex1 : 2 * (m1 : Int) = (x1 : Int) := by have := Hx1.out; omega
        have hix1 := idx_tab2 x1 bx1
        have hoA := HOWN.out
        have hBs := HB.out.size
        have holA : out.length + 1 ≤ 2199023255560 := by have := HOL.out; have := HI.out; have := HS.out; omega
        have HF : Hid (out ++ [Code.ch x1] = Code.arm 0 0 (Sums.bl s)) := by
          unfold Hid
          have := Hm1.out; have := Hx1.out;
          rw [← HOUT.out, show x1 = v * 4 by omega]
          rfl
        clear bx1
        rw [rounds_succ]
        go_wp2_with (first | (at_builtin; refine wpList_append_own _ rfl _ _ 64 rfl w.heap.size 5 i0 (.int .u8 0) 1 1 Try.underlying64 hi hz0 hz1 hz2 rfl (by decide) _ _ _ rfl (hoA.alloc _) ⟨wr.heap.size, 0, none⟩ 1 1 [.int .u8 (Code.ch x1 : Int)] rfl rfl (cell_one_new _ _ _) (by simp [Value.oneCell']) (by unfold maxLen; omega) (by omega) (by simp; omega) ?_; intro v1 w1 hown' hgrow _; have HBw1 := Hid.mk' (own_rel hBs hoA HB.out hgrow); rw [ch_byv, ← byv_append, show out.length + 1 = (out ++ [Code.ch x1]).length from (by simp)] at hown'; have HOw1 := Hid.mk' hown'; clear hown' hgrow hoA hBs ex1 hix1 holA) | fail)
        have hcv := conv_own w.heap.size _ (out ++ [Code.ch x1]) w1 _ rfl HOw1.out
        rw [rounds_succ]
        go_wp2_with fail
        go_ret
        exact ⟨ret_str (by rw [HF.out]), HBw1.out⟩
end Go.Proofs.Ythmaaeibdcoemaa
