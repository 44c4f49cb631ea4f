/-
  What sums.step and sums.product do. Conditions: the numbers are of 32 bits.
-/
import Derived.Test.YtapphnkddjchkaaDoorChecked
import Derived.Test.YtapphnkddjchkaaDoorSumA
import Derived.WalkKit
import Derived.Below
import Derived.WalkSpells
import Derived.WalkLawsBesides
import Derived.Deep.QuietTactic
import Derived.BigQuiet
import Derived.Lib.EndianBits
import Derived.Laws.BitsAllLaws
import Derived.Laws.Bits128
namespace Go.Proofs.YtapphnkddjchkaaDoor
open Go.RowKit
set_option linter.unusedVariables false
theorem ret_u32 {a b : Int} (h : a = b) : Ending.returned (.int .u32 a) = .returned (.int .u32 b) := by rw [h]
theorem int_u32 {a b : Int} (h : a = b) : Value.int .u32 a = Value.int .u32 b := by rw [h]
theorem Hid.mk' {p : Prop} (h : p) : Hid p := h
theorem wrap32 (n : Nat) : IntKind.u32.wrap (n : Int) = ((n % 4294967296 : Nat) : Int) := by rw [IntKind.wrap_u32]; omega
theorem and_one (c : Nat) (hc : c < 4294967296) : bits .and .u32 (c : Int) 1 = ((c % 2 : Nat) : Int) := by
  rw [show (1 : Int) = ((1 : Nat) : Int) from rfl, u32_and_nat c 1 hc (by omega), Nat.and_one_is_mod]
theorem step_odd (c : Nat) (hc : c < 4294967296) (h : c % 2 = 1) : bits .xor .u32 ((c : Int) / 2) 2197175160 = ((Sums.step c : Nat) : Int) := by
  rw [show (2197175160 : Int) = ((2197175160 : Nat) : Int) from rfl, show ((c : Int) / 2) = ((c / 2 : Nat) : Int) by omega, u32_xor_nat _ _ (by omega) (by omega)]
  unfold Sums.step Sums.P
  rw [if_pos h]
theorem step_even (c : Nat) (h : c % 2 ≠ 1) : ((c : Int) / 2) = ((Sums.step c : Nat) : Int) := by
  unfold Sums.step
  rw [if_neg h]; omega
set_option maxHeartbeats 400000 in
theorem step_any (c : Nat) (w : World) (hc : c < 4294967296) :
    Calls Tryd.prog 30 #[.int .u32 (c : Int)] w fun e w' => e = .returned (.int .u32 (Sums.step c : Nat)) ∧ w' = w := by
  by_cases h : c % 2 = 1
  · have g : (bits .and .u32 (c : Int) 1 == 1) = true := by rw [and_one c hc, h]; rfl
    go_enter Tryd.func30, Tryd.ntmps30
    go_wp2_with fail
    go_ret
    exact ⟨ret_u32 (step_odd c hc h), rfl⟩
  · have g : (bits .and .u32 (c : Int) 1 == 1) = false := by rw [and_one c hc, show c % 2 = 0 by omega]; rfl
    go_enter Tryd.func30, Tryd.ntmps30
    go_wp2_with fail
    go_ret
    exact ⟨ret_u32 (step_even c h), rfl⟩
set_option maxHeartbeats 400000 in
theorem product_any (a b : Nat) (w : World) (ha : a < 4294967296) (hb : b < 4294967296) :
    Calls Tryd.prog 21 #[.int .u32 (a : Int), .int .u32 (b : Int)] w fun e w' => e = .returned (.int .u32 (Sums.mulF 32 a b : Nat)) ∧ w' = w := by
  go_enter Tryd.func21, Tryd.ntmps21
  go_wp2_with fail
  go_loop [0, 1, 5] (fun x y z => ∃ k A B S : Nat, A < 4294967296 ∧ B < 4294967296 ∧ S < 4294967296 ∧ x = .int .u32 (A : Int) ∧ y = .int .u32 (B : Int) ∧ z = .int .u32 (S : Int) ∧ Hid (A * 2 ^ k % 4294967296 = 0) ∧ Hid (S ^^^ Sums.mulF k A B = Sums.mulF 32 a b)) (fun x _ _ => Sums.cnt 32 (intOf x).toNat)
  case atStart => exact ⟨32, a, b, 0, ha, hb, by omega, rfl, rfl, rfl, by show _ = _; omega, by show _ = _; rw [Nat.zero_xor]⟩
  case round =>
    obtain ⟨k, A, B, S, hA, hB, hS, rfl, rfl, rfl, HK, HI⟩ := hrel
    by_cases h0 : A = 0
    · subst h0
      have HE : Hid (S = Sums.mulF 32 a b) := by
        have := HI.out
        rw [Sums.mulF_zero, Nat.xor_zero] at this
        exact this
      clear HI HK
      go_wp2_with fail
      go_ret
      exact ⟨ret_u32 (by rw [HE.out]), rfl⟩
    · have HL := Hid.mk' (Sums.cnt_less A h0 hA)
      have g : ((A : Int) != 0) = true := by simp; omega
      obtain ⟨k, rfl⟩ : ∃ j, k = j + 1 := by
        cases k with
        | zero => exfalso; have := HK.out; omega
        | succ j => exact ⟨j, rfl⟩
      have HK2 : Hid (A * 2 % 4294967296 * 2 ^ k % 4294967296 = 0) := by
        show _ = _
        have := HK.out
        rw [Nat.mod_mul_mod, Nat.mul_assoc, Nat.mul_comm 2, ← Nat.pow_succ]; exact this
      have hst := Sums.step_lt B hB
      by_cases h1 : A / 2147483648 = 1
      · have g1 : ((A : Int) / 2147483648 == 1) = true := by simp; omega
        have HI2 : Hid ((S ^^^ B) ^^^ Sums.mulF k (A * 2 % 4294967296) (Sums.step B) = Sums.mulF 32 a b) := by
          show _ = _
          rw [← HI.out, Sums.mulF, if_pos h1, Nat.xor_assoc]
        have hx : S ^^^ B < 4294967296 := Nat.xor_lt_two_pow (n := 32) hS hB
        have HX : Hid (bits .xor .u32 (S : Int) (B : Int) = ((S ^^^ B : Nat) : Int)) := u32_xor_nat S B hS hB
        clear HI HK h1 h0
        go_wp2_with fail
        refine (step_any B _ hB).mono ?_
        rintro e w1 ⟨rfl, rfl⟩
        go_wp2_with fail
        go_round
        case rel => exact ⟨k, A * 2 % 4294967296, Sums.step B, S ^^^ B, by omega, hst, hx, int_u32 (by omega), rfl, int_u32 HX.out, HK2, HI2⟩
        case measure =>
          simp only [intOf]
          rw [show ((A : Int) * 2 % 4294967296).toNat = A * 2 % 4294967296 by omega, Int.toNat_natCast]
          exact HL.out
      · have g1 : ((A : Int) / 2147483648 == 1) = false := by simp; omega
        have HI2 : Hid (S ^^^ Sums.mulF k (A * 2 % 4294967296) (Sums.step B) = Sums.mulF 32 a b) := by
          show _ = _
          rw [← HI.out, Sums.mulF, if_neg h1, Nat.zero_xor]
        clear HI HK h1 h0
        go_wp2_with fail
        refine (step_any B _ hB).mono ?_
        rintro e w1 ⟨rfl, rfl⟩
        go_wp2_with fail
        go_round
        case rel => exact ⟨k, A * 2 % 4294967296, Sums.step B, S, by omega, hst, hS, int_u32 (by omega), rfl, rfl, HK2, HI2⟩
        case measure =>
          simp only [intOf]
          rw [show ((A : Int) * 2 % 4294967296).toNat = A * 2 % 4294967296 by omega, Int.toNat_natCast]
          exact HL.out
end Go.Proofs.YtapphnkddjchkaaDoor
