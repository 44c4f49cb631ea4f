/-
  What the document's step and CRC do. Conditions: the text is no longer than any text can be, the number is of 32 bits.
-/
import Derived.Test.YtnbcmobdenjjfaaDoorCrc
namespace Go.Proofs.YtnbcmobdenjjfaaDoor
open Go.RowKit
set_option linter.unusedVariables false
set_option maxHeartbeats 400000 in
theorem refStep_any (c : Nat) (w : World) (hc : c < 4294967296) :
    Calls Tryd.prog 25 #[.int .u32 (c : Int)] w fun e w' => e = .returned (.int .u32 (Sums.step c : Nat)) ∧ w' = w := by
  by_cases h : c % 2 = 1
  · have g : ((c : Int) % 2 == 1) = true := by simp; omega
    have H1 := Hid.mk' (step_odd c hc h)
    go_enter Tryd.func25, Tryd.ntmps25
    go_wp2_with fail
    go_ret
    exact ⟨ret_u32 H1.out, rfl⟩
  · have g : ((c : Int) % 2 == 1) = false := by simp; omega
    have H1 := Hid.mk' (step_even c h)
    go_enter Tryd.func25, Tryd.ntmps25
    go_wp2_with fail
    go_ret
    exact ⟨ret_u32 H1.out, rfl⟩
set_option maxHeartbeats 1000000 in
theorem refCrc_any (s : ByteArray) (w : World) (hs : s.size ≤ maxLen) :
    Calls Tryd.prog 11 #[.string s] w fun e w' => e = .returned (.int .u32 (Sums.crcL (Sums.bl s) : Nat)) ∧ w' = w := by
  unfold maxLen at hs
  go_enter Tryd.func11, Tryd.ntmps11
  go_wp2_with fail
  go_loop [3, 4] (fun c i => ∃ j C : Nat, j ≤ s.size ∧ C < 4294967296 ∧ i = .int .i64 (j : Int) ∧ c = .int .u32 (C : Int) ∧ Hid (C = Sums.crcF 4294967295 ((Sums.bl s).take j))) (fun _ i => s.size - (intOf i).toNat)
  case atStart => exact ⟨0, 4294967295, by omega, by omega, rfl, rfl, by show _ = _; rw [List.take_zero, Sums.crcF_nil]⟩
  case round =>
    obtain ⟨j, C, hj, hC, rfl, rfl, HC⟩ := hrel
    by_cases hlt : j < s.size
    · have hj3 : (j : Int) < (s.size : Int) := by omega
      have hby := UInt8.toNat_lt s[j]
      have hx : C ^^^ s[j].toNat < 4294967296 := Nat.xor_lt_two_pow (n := 32) hC (by omega)
      have X1 : bits .xor .u32 (C : Int) (s[j].toNat : Int) = ((C ^^^ s[j].toNat : Nat) : Int) := u32_xor_nat _ _ hC (by omega)
      have HN : Hid (Sums.stepN 8 (C ^^^ s[j].toNat) = Sums.crcF 4294967295 ((Sums.bl s).take (j + 1))) := by
        show _ = _
        rw [crcF_on s j hlt, ← HC.out]
      have hN := Sums.stepN_lt 8 _ hx
      clear HC
      generalize (C ^^^ s[j].toNat) = G at *
      go_wp2_with fail
      go_loop [3, 5] (fun c i => ∃ k C : Nat, k ≤ 8 ∧ C < 4294967296 ∧ i = .int .i64 (k : Int) ∧ c = .int .u32 (C : Int) ∧ Hid (C = Sums.stepN k G)) (fun _ i => 8 - (intOf i).toNat)
      case atStart => exact ⟨0, G, by omega, hx, rfl, rfl, rfl⟩
      case round =>
        obtain ⟨k, C, hk, hC, rfl, rfl, HK⟩ := hrel
        by_cases hk8 : k < 8
        · have g8 : (k : Int) < 8 := by omega
          have HK2 : Hid (Sums.step C = Sums.stepN (k + 1) G) := by show _ = _; rw [HK.out, Sums.stepN_succ']
          have hst := Sums.step_lt C hC
          clear HK
          go_wp2_with fail
          refine (refStep_any C _ hC).mono ?_
          rintro e w1 ⟨rfl, rfl⟩
          go_wp2_with fail
          go_round
          case rel => exact ⟨k + 1, Sums.step C, by omega, hst, by go_num, rfl, HK2⟩
          case measure => simp [intOf]; omega
        · obtain rfl : k = 8 := by omega
          go_wp2_with fail
          go_round
          case rel => exact ⟨j + 1, C, by omega, hC, by go_num, rfl, by show _ = _; rw [HK.out]; exact HN.out⟩
          case measure => simp [intOf]; omega
    · obtain rfl : j = s.size := by omega
      have hlt' : ¬ (s.size : Int) < (s.size : Int) := by omega
      have HE : Hid (bits .xor .u32 (C : Int) 4294967295 = ((Sums.crcL (Sums.bl s) : Nat) : Int)) := by
        show _ = _
        rw [show (4294967295 : Int) = ((4294967295 : Nat) : Int) from rfl, u32_xor_nat C _ hC (by omega), HC.out, ← Sums.bl_length, List.take_length]
        rfl
      go_wp2_with fail
      go_ret
      exact ⟨ret_u32 HE.out, rfl⟩
end Go.Proofs.YtnbcmobdenjjfaaDoor
