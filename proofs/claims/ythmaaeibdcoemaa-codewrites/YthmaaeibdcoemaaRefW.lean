/-
  What the document's Uint, Int, Text, Fixed write. Conditions: as each says.
-/
import Derived.Test.YthmaaeibdcoemaaKnown
namespace Go.Proofs.Ythmaaeibdcoemaa
open Go.RowKit
set_option linter.unusedVariables false
set_option maxHeartbeats 1000000 in
theorem refUint_any (n : Nat) (w : World) (hn : n < 18446744073709551616) :
    Calls Try.prog 13 #[.int .u64 (n : Int)] w fun e w' => e = .returned (.string (nums (Code.uint n))) ∧ Below w.heap.size w w' := by
  obtain ⟨i0, hi, hz0, hz1, hz2⟩ := info_parts infoB
  go_enter Try.func13, Try.ntmps13
  go_wp2_with fail
  go_loopw [0, 3] (fun n' v wr => ∃ (f m : Nat) (pre : List Nat), n' = .int .u64 (m : Int) ∧ m < 128 ^ (f + 1) ∧ m < 18446744073709551616 ∧ f + pre.length = 10 ∧ pre ++ Code.enc f m = Code.uint n ∧ wr.ownsRow w.heap.size 5 1 v pre.length (byv pre) ∧ Below w.heap.size w wr) (fun n' _ _ => (intOf n').toNat)
  case atStart => exact ⟨10, n, [], rfl, by omega, hn, rfl, rfl, World.ownsRow_nil _ _ _ _, Below.refl _ _⟩
  case round =>
    obtain ⟨f, m, pre, rfl, hm, hm64, hf, hpre, hown, hb⟩ := hrel
    have hBs := hb.size
    have HM := Hid.mk' hm
    have HM64 := Hid.mk' hm64
    have HF := Hid.mk' hf
    have HP := Hid.mk' hpre
    have hpl : pre.length ≤ 10 := by omega
    clear hn hm hf hpre
    by_cases hlt : m < 128
    · have hlt' : ¬ (128 : Int) ≤ (m : Int) := by omega
      have hlt2 : (m : Int) < 256 := by omega
      have HL := Hid.mk' hlt
      clear hlt hm64
      go_wp2_with (first | (at_builtin; refine wpList_append_own _ rfl _ _ 64 rfl w.heap.size 5 i0 (.int .u8 0) 1 1 Try.underlying64 hi hz0 hz1 hz2 rfl (by decide) _ _ _ rfl (hown.alloc _) ⟨wr.heap.size, 0, none⟩ 1 1 [.int .u8 (m : Int)] rfl rfl (cell_one_new _ _ _) (by simp [Value.oneCell']) (by unfold maxLen; omega) (by omega) (by simp; omega) ?_; intro v' w2 hown' hgrow _; have R2 := own_rel hBs hown hb hgrow; have hcv := conv_own w.heap.size (pre.length + 1) (pre ++ [m]) w2 _ (by simp) (by rw [byv_append]; exact hown'); clear hown' hgrow hown hb) | fail)
      go_ret
      refine ⟨ret_str ?_, R2⟩
      rw [← HP.out, Code.enc_one _ _ HL.out]
    · have hlt' : (128 : Int) ≤ (m : Int) := by omega
      obtain ⟨f, rfl⟩ : ∃ k, f = k + 1 := ⟨f - 1, by
        by_cases h0 : f = 0
        · subst h0; have := HM.out; simp at this; omega
        · omega⟩
      have HL := Hid.mk' hlt
      have h64 : (m : Int) < 18446744073709551616 := by omega
      have hby : (128 + (m : Int) % 128) % 256 = (m : Int) % 128 + 128 := by omega
      clear hlt hm64
      go_wp2_with (first | (at_builtin; refine wpList_append_own _ rfl _ _ 64 rfl w.heap.size 5 i0 (.int .u8 0) 1 1 Try.underlying64 hi hz0 hz1 hz2 rfl (by decide) _ _ _ rfl (hown.alloc _) ⟨wr.heap.size, 0, none⟩ 1 1 [.int .u8 (128 + (m : Int) % 128)] rfl rfl (cell_one_new _ _ _) (by simp [Value.oneCell']) (by unfold maxLen; omega) (by omega) (by simp; omega) ?_; intro v' w2 hown' hgrow _; have R2 := own_rel hBs hown hb hgrow; rw [Int.add_comm 128, byte_low, ← byv_append] at hown'; have R1 := Hid.mk' hown'; clear hown' hgrow hown hb) | fail)
      go_roundw
      case rel =>
        have hm := HM.out
        have hl := HL.out
        refine ⟨f, m / 128, pre ++ [m % 128 + 128], by simp, ?_, by omega, by have := HF.out; simp; omega, ?_, by simpa using R1.out, R2⟩
        · rw [Nat.pow_succ] at hm; exact Nat.div_lt_of_lt_mul (by rw [Nat.mul_comm]; exact hm)
        · rw [List.append_assoc, List.singleton_append, ← Code.enc_more _ _ HL.out]
          exact HP.out
      case measure => simp [intOf]; omega
set_option maxHeartbeats 1000000 in
theorem turned_any (n : Int) (w : World) (h0 : -9223372036854775808 ≤ n) (h1 : n ≤ 9223372036854775807) :
    Calls Try.prog 37 #[.int .i64 n] w fun e w' => e = .returned (.int .u64 (Code.zig n : Int)) ∧ w' = w := by
  by_cases hn : n < 0
  · have hn' : ¬ 0 ≤ n := by omega
    have HZ : Hid (Code.zig n = 2 * (-(n + 1)).toNat + 1) := by unfold Code.zig; rw [if_neg (by omega)]; rfl
    go_enter Try.func37, Try.ntmps37
    go_wp2_with fail
    go_ret
    exact ⟨ret_int (by rw [HZ.out]; omega), rfl⟩
  · have hn' : 0 ≤ n := by omega
    have HZ : Hid (Code.zig n = 2 * n.toNat) := by unfold Code.zig; rw [if_pos (by omega)]; rfl
    go_enter Try.func37, Try.ntmps37
    go_wp2_with fail
    go_ret
    exact ⟨ret_int (by rw [HZ.out]; omega), rfl⟩
theorem refInt_any (n : Int) (w : World) (h0 : -9223372036854775808 ≤ n) (h1 : n ≤ 9223372036854775807) :
    Calls Try.prog 15 #[.int .i64 n] w fun e w' => e = .returned (.string (nums (Code.uint (Code.zig n)))) ∧ Below w.heap.size w w' := by
  have hz := Code.zig_lt n h0 h1
  go_enter Try.func15, Try.ntmps15
  go_wp2_with fail
  refine (turned_any n w h0 h1).mono ?_
  rintro e w1 ⟨rfl, rfl⟩
  go_wp2_with fail
  refine (refUint_any _ _ hz).mono ?_
  rintro e w2 ⟨rfl, hb⟩
  go_wp2_with fail
  go_ret
  exact ⟨rfl, hb⟩
set_option maxHeartbeats 1000000 in
theorem refText_any (s : ByteArray) (w : World) (hs : s.size ≤ 1125899906842624) :
    Calls Try.prog 17 #[.string s] w fun e w' => e = .returned (.string (nums (Code.uint s.size) ++ s)) ∧ Below w.heap.size w w' := by
    go_enter Try.func17, Try.ntmps17
    go_wp2_with fail
    refine (refUint_any _ _ (by omega)).mono ?_
    rintro e w1 ⟨rfl, hb⟩
    have hl := Code.uint_len s.size (by omega)
    have hns := nums_size (Code.uint s.size)
    go_wp2_with fail
    go_ret
    exact ⟨rfl, hb⟩
set_option maxHeartbeats 1000000 in
theorem refFixed_bad (n : Nat) (k : Int) (w : World) (h : k < 1 ∨ 8 < k) :
    Calls Try.prog 11 #[.int .u64 (n : Int), .int .i64 k] w fun e w' => e = .returned (.tuple #[.string ByteArray.empty, .int .i64 1]) ∧ w' = w := by
  rcases h with h | h
  · go_enter Try.func11, Try.ntmps11
    go_wp2_with fail
    go_ret2
    exact ⟨rfl, rfl⟩
  · have h' : ¬ k < 1 := by omega
    go_enter Try.func11, Try.ntmps11
    go_wp2_with fail
    go_ret2
    exact ⟨rfl, rfl⟩
set_option maxRecDepth 100000 in
set_option maxHeartbeats 1000000 in
theorem refFixed_in (n k : Nat) (w : World) (hn : n < 18446744073709551616) (h1 : 1 ≤ k) (h8 : k ≤ 8) :
    Calls Try.prog 11 #[.int .u64 (n : Int), .int .i64 (k : Int)] w fun e w' => e = fixR n k ∧ Below w.heap.size w w' := by
  obtain ⟨i0, hi, hz0, hz1, hz2⟩ := info_parts infoB
  have g1 : ¬ (k : Int) < 1 := by omega
  have g8 : ¬ (8 : Int) < (k : Int) := by omega
  go_enter Try.func11, Try.ntmps11
  go_wp2_with fail
  go_loopw [0, 6, 7] (fun n' v i wr => ∃ (j m : Nat), i = .int .i64 (j : Int) ∧ j ≤ k ∧ n' = .int .u64 (m : Int) ∧ m < 18446744073709551616 ∧ m = n / 256 ^ j ∧ wr.ownsRow w.heap.size 5 1 v j (byv (fixL j n)) ∧ Below w.heap.size w wr) (fun _ _ i _ => k - (intOf i).toNat)
  case atStart => exact ⟨0, n, rfl, by omega, rfl, hn, by simp, World.ownsRow_nil _ _ _ _, Below.refl _ _⟩
  case round =>
    obtain ⟨j, m, rfl, hj, rfl, hm, hmj, hown, hb⟩ := hrel
    have HJ := Hid.mk' hmj
    have hm2 : (m : Int) < 18446744073709551616 := by omega
    have HM := Hid.mk' hm
    have hBs := hb.size
    clear hmj hm hn
    by_cases hlt : j < k
    · have hj3 : (j : Int) < (k : Int) := by omega
      have hby : [Value.int .u8 ((m : Int) % 256)] = byv [n / 256 ^ j % 256] := by rw [← HJ.out]; unfold byv; simp
      have HBY := Hid.mk' hby
      clear hby
      go_wp2_with (first | (at_builtin; refine wpList_append_own _ rfl _ _ 64 rfl w.heap.size 5 i0 (.int .u8 0) 1 1 Try.underlying64 hi hz0 hz1 hz2 rfl (by decide) _ _ _ rfl (hown.alloc _) ⟨wr.heap.size, 0, none⟩ 1 1 [.int .u8 ((m : Int) % 256)] rfl rfl (cell_one_new _ _ _) (by simp [Value.oneCell']) (by unfold maxLen; omega) (by omega) (by simp; omega) ?_; intro v' w2 hown' hgrow _; have R2 := own_rel hBs hown hb hgrow; rw [HBY.out, ← byv_append, ← fixL_step] at hown'; have R1 := Hid.mk' hown'; clear hown' hgrow hown hb) | fail)
      go_roundw
      case rel =>
        refine ⟨j + 1, m / 256, by go_num, by omega, by simp, by have := HM.out; omega, ?_, R1.out, R2⟩
        rw [HJ.out, Nat.pow_succ, Nat.div_div_eq_div_mul]
      case measure => simp [intOf]; omega
    · obtain rfl : j = k := by omega
      have hlt' : ¬ (j : Int) < (j : Int) := by omega
      have hcv := conv_own w.heap.size j (fixL j n) wr _ (fixL_len _ _) hown
      by_cases h0 : m = 0
      · have HR : Hid (fixR n j = .returned (.tuple #[.string (nums (fixL j n)), .int .i64 0])) := by
          unfold fixR
          rw [if_neg (by omega), Int.toNat_natCast, if_neg (by rw [← HJ.out]; omega)]
          rfl
        have hm0 : ¬ (0 : Int) < (m : Int) := by omega
        clear hown
        go_wp2_with fail
        go_ret2
        exact ⟨HR.out.symm, hb⟩
      · have HR : Hid (fixR n j = .returned (.tuple #[.string ByteArray.empty, .int .i64 32])) := by
          unfold fixR
          rw [if_neg (by omega), Int.toNat_natCast, if_pos (by rw [← HJ.out]; omega)]
          rfl
        have hm0 : decide ((0 : Int) < (m : Int)) = true := decide_eq_true (by omega)
        have hm1 : 0 < m := by omega
        clear hown h0 hcv hm2 h1 h8 hlt
        go_wp2_with fail
        go_ret2
        exact ⟨HR.out.symm, hb⟩
theorem refFixed_any (n : Nat) (k : Int) (w : World) (hn : n < 18446744073709551616) :
    Calls Try.prog 11 #[.int .u64 (n : Int), .int .i64 k] w fun e w' => e = fixR n k ∧ Below w.heap.size w w' := by
  by_cases h : k < 1 ∨ 8 < k
  · refine (refFixed_bad n k w h).mono ?_
    rintro e w' ⟨rfl, rfl⟩
    refine ⟨?_, Below.refl _ _⟩
    unfold fixR
    rw [if_pos h]
  · obtain ⟨q, rfl⟩ := Int.eq_ofNat_of_zero_le (show 0 ≤ k by omega)
    exact refFixed_in n q w hn (by omega) (by omega)
end Go.Proofs.Ythmaaeibdcoemaa
