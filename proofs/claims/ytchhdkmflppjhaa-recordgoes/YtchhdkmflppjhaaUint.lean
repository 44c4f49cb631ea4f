/-
  What code.Uint, Int, Text write. Conditions: as each says.
-/
import Derived.Test.YtchhdkmflppjhaaBas
namespace Go.Proofs.Ytchhdkmflppjhaa
open Go.RowKit
set_option linter.unusedVariables false
theorem or_byte (m : Nat) : bits .or .u8 ((m : Int) % 256) 128 = (m : Int) % 128 + 128 := by
  rw [show ((m : Int) % 256) = ((m % 256 : Nat) : Int) by omega, show (128 : Int) = ((128 : Nat) : Int) from rfl, u8_or_nat _ _ (by omega) (by omega), Code.or128 _ (by omega)]
  omega
theorem byte_low (m : Nat) : [Value.int .u8 ((m : Int) % 128 + 128)] = byv [m % 128 + 128] := by
  unfold byv
  simp
set_option maxHeartbeats 1000000 in
theorem uint_any (n : Nat) (w : World) (hn : n < 18446744073709551616) :
    Calls Try.prog 41 #[.int .u64 (n : Int)] w fun e w' => e = .returned (.string (nums (Code.uint n))) ∧ Below w.heap.size w w' := by
  obtain ⟨i0, hi, hz0, hz1, hz2⟩ := info_parts infoB
  go_enter Try.func41, Try.ntmps41
  go_wp2_with (first | (at_make; refine wpList_make_own _ rfl _ _ 70 rfl w.heap.size 5 i0 (.int .u8 0) 1 Try.underlying70 hi hz0 hz1 .i64 .i64 10 10 rfl rfl rfl (by rw [hz2]; decide) (by unfold maxLen; decide) (Nat.le_refl _) ?_; intro w1 hownA hgrow) | fail)
  have hbA : Below w.heap.size w w1 := (Below.refl _ _).grown hgrow (Nat.le_refl _) (fun k hk => by cases hk)
  clear hgrow
  go_loopw [0, 3] (fun n' v wr => ∃ (f m : Nat) (pre : List Nat), n' = .int .u64 (m : Int) ∧ m < 128 ^ (f + 1) ∧ m < 18446744073709551616 ∧ f + pre.length = 10 ∧ pre ++ Code.enc f m = Code.uint n ∧ wr.ownsRow w.heap.size 5 1 v pre.length (byv pre) ∧ Below w.heap.size w wr) (fun n' _ _ => (intOf n').toNat)
  case atStart => exact ⟨10, n, [], rfl, by omega, hn, rfl, rfl, hownA, hbA⟩
  case round =>
    obtain ⟨f, m, pre, rfl, hm, hm64, hf, hpre, hown, hb⟩ := hrel
    have hBs := hb.size
    have HM := Hid.mk' hm
    have HM64 := Hid.mk' hm64
    have HF := Hid.mk' hf
    have HP := Hid.mk' hpre
    have hpl : pre.length ≤ 10 := by omega
    clear hownA hbA hn hm hf hpre
    by_cases hlt : m < 128
    · have hlt' : ¬ (128 : Int) ≤ (m : Int) := by omega
      have hlt2 : (m : Int) < 256 := by omega
      have HL := Hid.mk' hlt
      clear hlt hm64
      go_wp2_with (first | (at_builtin; refine wpList_append_own _ rfl _ _ 70 rfl w.heap.size 5 i0 (.int .u8 0) 1 1 Try.underlying70 hi hz0 hz1 hz2 rfl (by decide) _ _ _ rfl (hown.alloc _) ⟨wr.heap.size, 0, none⟩ 1 1 [.int .u8 (m : Int)] rfl rfl (cell_one_new _ _ _) (by simp [Value.oneCell']) (by unfold maxLen; omega) (by omega) (by simp; omega) ?_; intro v' w2 hown' hgrow _; have R2 := own_rel hBs hown hb hgrow; have hcv := conv_own w.heap.size (pre.length + 1) (pre ++ [m]) w2 _ (by simp) (by rw [byv_append]; exact hown'); clear hown' hgrow hown hb) | fail)
      go_ret
      refine ⟨ret_str ?_, R2⟩
      rw [← HP.out, Code.enc_one _ _ HL.out]
    · have hlt' : (128 : Int) ≤ (m : Int) := by omega
      obtain ⟨f, rfl⟩ : ∃ k, f = k + 1 := ⟨f - 1, by
        by_cases h0 : f = 0
        · subst h0; have := HM.out; simp at this; omega
        · omega⟩
      have HL := Hid.mk' hlt
      have h64 : (m : Int) < 18446744073709551616 := by omega
      clear hlt hm64
      have hor := or_byte m
      go_wp2_with (first | (at_builtin; refine wpList_append_own _ rfl _ _ 70 rfl w.heap.size 5 i0 (.int .u8 0) 1 1 Try.underlying70 hi hz0 hz1 hz2 rfl (by decide) _ _ _ rfl (hown.alloc _) ⟨wr.heap.size, 0, none⟩ 1 1 [.int .u8 ((m : Int) % 128 + 128)] rfl rfl (cell_one_new _ _ _) (by simp [Value.oneCell']) (by unfold maxLen; omega) (by omega) (by simp; omega) ?_; intro v' w2 hown' hgrow _; have R2 := own_rel hBs hown hb hgrow; rw [byte_low, ← byv_append] at hown'; have R1 := Hid.mk' hown'; clear hown' hgrow hown hb) | fail)
      go_roundw
      case rel =>
        have hm := HM.out
        have hl := HL.out
        refine ⟨f, m / 128, pre ++ [m % 128 + 128], by simp, ?_, by omega, by have := HF.out; simp; omega, ?_, by simpa using R1.out, R2⟩
        · rw [Nat.pow_succ] at hm; exact Nat.div_lt_of_lt_mul (by rw [Nat.mul_comm]; exact hm)
        · rw [List.append_assoc, List.singleton_append, ← Code.enc_more _ _ HL.out]
          exact HP.out
      case measure => simp [intOf]; omega
end Go.Proofs.Ytchhdkmflppjhaa
