/-
  What sums.Join does. Conditions: the numbers are of 32 bits, the length an int.
-/
import Derived.Test.YtapphnkddjchkaaDoorStep
namespace Go.Proofs.YtapphnkddjchkaaDoor
open Go.RowKit
set_option linter.unusedVariables false
theorem and_one64 (n : Int) : bits .and .i64 n 1 = n % 2 := by
  have h1 : (BitVec.ofInt 64 1).toNat = 2 ^ 1 - 1 := by decide
  have key : (BitVec.ofInt 64 n &&& BitVec.ofInt 64 1).toNat = (n % ((2 ^ 64 : Nat) : Int)).toNat % 2 ^ 1 := by
    rw [BitVec.toNat_and, BitVec.toNat_ofInt, h1, Nat.and_two_pow_sub_one_eq_mod]
  show IntKind.i64.wrap ((BitVec.ofInt 64 n &&& BitVec.ofInt 64 1).toNat : Nat) = n % 2
  rw [key, IntKind.wrap_i64]
  omega
theorem joined_odd (m q A : Nat) : Sums.stepN (8 * (m * (2 * q + 1))) A = Sums.stepN (8 * (2 * m * q)) (Sums.stepN (8 * m) A) := by
  have h : m * (2 * q + 1) = m + 2 * m * q := by rw [Nat.mul_add, Nat.mul_one, Nat.mul_comm 2 m, Nat.mul_assoc, Nat.add_comm]
  rw [h, Nat.mul_add, Sums.stepN_add]
theorem joined_even (m q A : Nat) : Sums.stepN (8 * (m * (2 * q))) A = Sums.stepN (8 * (2 * m * q)) A := by
  rw [Nat.mul_comm 2 m, Nat.mul_assoc]
theorem power_on (m : Nat) : Sums.mulF 32 (Sums.stepN (8 * m) 2147483648) (Sums.stepN (8 * m) 2147483648) = Sums.stepN (8 * (2 * m)) 2147483648 := by
  rw [Sums.mul_pow _ _ (Sums.stepN_lt _ _ (by decide)), ← Sums.stepN_add]
  congr 1; omega
theorem power_one : Sums.stepN (8 * 1) 2147483648 = 8388608 := by decide +kernel
set_option maxHeartbeats 1000000 in
theorem join_any (a b n : Nat) (w : World) (ha : a < 4294967296) (hb : b < 4294967296) (hn : n < 9223372036854775808) :
    Calls Tryd.prog 11 #[.int .u32 (a : Int), .int .u32 (b : Int), .int .i64 (n : Int)] w fun e w' => e = .returned (.tuple #[.int .u32 ((Sums.stepN (8 * n) a ^^^ b : Nat) : Int), .int .i64 0]) ∧ w' = w := by
  have hn0 : (0 : Int) ≤ (n : Int) := by omega
  have hn1 : ¬ (n : Int) < 0 := by omega
  go_enter Tryd.func11, Tryd.ntmps11
  go_wp2_with fail
  go_loop [0, 2, 8] (fun x y z => ∃ m N A Q : Nat, N ≤ n ∧ A < 4294967296 ∧ Q < 4294967296 ∧ x = .int .u32 (A : Int) ∧ y = .int .i64 (N : Int) ∧ z = .int .u32 (Q : Int) ∧ Hid (Q = Sums.stepN (8 * m) 2147483648) ∧ Hid (Sums.stepN (8 * (m * N)) A = Sums.stepN (8 * n) a)) (fun _ y _ => (intOf y).toNat)
  case atStart => exact ⟨1, n, a, 8388608, by omega, ha, by omega, rfl, rfl, rfl, power_one.symm, by show _ = _; rw [Nat.one_mul]⟩
  case round =>
    obtain ⟨m, N, A, Q, hN, hA, hQ, rfl, rfl, rfl, HQ, HI⟩ := hrel
    by_cases h0 : N = 0
    · subst h0
      have HE : Hid (bits .xor .u32 (A : Int) (b : Int) = ((Sums.stepN (8 * n) a ^^^ b : Nat) : Int)) := by
        show _ = _
        rw [u32_xor_nat A b hA hb, ← HI.out, Nat.mul_zero, Nat.mul_zero]
        rfl
      clear HI HQ
      go_wp2_with fail
      go_ret2
      rw [HE.out]
      exact ⟨rfl, rfl⟩
    · have g0 : (0 : Int) < (N : Int) := by omega
      have HP : Hid (Sums.mulF 32 Q Q = Sums.stepN (8 * (2 * m)) 2147483648) := by
        show _ = _
        rw [HQ.out]; exact power_on m
      have hP : Sums.mulF 32 Q Q < 4294967296 := Sums.mulF_lt 32 _ _ hQ
      by_cases h1 : N % 2 = 1
      · have g1 : (bits .and .i64 (N : Int) 1 == 1) = true := by rw [and_one64]; simp; omega
        have HM : Hid (Sums.mulF 32 A Q = Sums.stepN (8 * m) A) := by
          show _ = _
          rw [HQ.out, Sums.mul_pow A _ hA]
        have hM : Sums.mulF 32 A Q < 4294967296 := Sums.mulF_lt 32 _ _ hQ
        have HI2 : Hid (Sums.stepN (8 * (2 * m * (N / 2))) (Sums.mulF 32 A Q) = Sums.stepN (8 * n) a) := by
          show _ = _
          rw [HM.out, ← joined_odd, show 2 * (N / 2) + 1 = N by omega]
          exact HI.out
        clear HI HQ HM h1
        go_wp2_with fail
        refine (product_any A Q _ hA hQ).mono ?_
        rintro e w1 ⟨rfl, rfl⟩
        go_wp2_with fail
        refine (product_any Q Q _ hQ hQ).mono ?_
        rintro e w1 ⟨rfl, rfl⟩
        go_wp2_with fail
        go_round
        case rel => exact ⟨2 * m, N / 2, _, _, by omega, hM, hP, rfl, rfl, rfl, HP, HI2⟩
        case measure => simp [intOf]; omega
      · have g1 : (bits .and .i64 (N : Int) 1 == 1) = false := by rw [and_one64]; simp; omega
        have HI2 : Hid (Sums.stepN (8 * (2 * m * (N / 2))) A = Sums.stepN (8 * n) a) := by
          show _ = _
          rw [← joined_even, show 2 * (N / 2) = N by omega]
          exact HI.out
        clear HI HQ h1
        go_wp2_with fail
        refine (product_any Q Q _ hQ hQ).mono ?_
        rintro e w1 ⟨rfl, rfl⟩
        go_wp2_with fail
        go_round
        case rel => exact ⟨2 * m, N / 2, _, _, by omega, hA, hP, rfl, rfl, rfl, HP, HI2⟩
        case measure => simp [intOf]; omega
set_option maxHeartbeats 400000 in
theorem join_less (a b : Nat) (n : Int) (w : World) (hn : n < 0) :
    Calls Tryd.prog 11 #[.int .u32 (a : Int), .int .u32 (b : Int), .int .i64 n] w fun e w' => e = .returned (.tuple #[.int .u32 0, .int .i64 1]) ∧ w' = w := by
  go_enter Tryd.func11, Tryd.ntmps11
  go_wp2_with fail
  go_ret2
  exact ⟨rfl, rfl⟩
end Go.Proofs.YtapphnkddjchkaaDoor
