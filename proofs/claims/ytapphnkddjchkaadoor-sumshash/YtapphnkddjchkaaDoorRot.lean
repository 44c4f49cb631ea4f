/-
  What a turn to the left and a word of four bytes are. Conditions: the number is of its width, the turn less than it; the text has four bytes.
-/
import Derived.Test.YtapphnkddjchkaaDoorStep
import Derived.Test.YtapphnkddjchkaaDoorSumB
import Derived.Test.YtapphnkddjchkaaDoorSumD
namespace Go.Proofs.YtapphnkddjchkaaDoor
open Go.RowKit
set_option linter.unusedVariables false
theorem ret_u64 {a b : Int} (h : a = b) : Ending.returned (.int .u64 a) = .returned (.int .u64 b) := by rw [h]
theorem and_31 (k : Nat) (hk : k < 32) : bits .and .u64 (k : Int) 31 = (k : Int) := by
  rw [show (31 : Int) = ((31 : Nat) : Int) from rfl, u64_and_nat k 31 (by omega) (by omega)]
  congr 1
  rw [Nat.and_two_pow_sub_one_eq_mod k 5]; omega
theorem and_63 (k : Nat) (hk : k < 64) : bits .and .u64 (k : Int) 63 = (k : Int) := by
  rw [show (63 : Int) = ((63 : Nat) : Int) from rfl, u64_and_nat k 63 (by omega) (by omega)]
  congr 1
  rw [Nat.and_two_pow_sub_one_eq_mod k 6]; omega
theorem rot32_bits (x k : Nat) (hx : x < 4294967296) (hk0 : 0 < k) (hk : k < 32) :
    bits .or .u32 ((x : Int) * 2 ^ k % 4294967296) ((x : Int) / 2 ^ (32 - k)) = ((Sums.rot32 x k : Nat) : Int) := by
  have e1 : ((x : Int) * 2 ^ k % 4294967296) = ((x * 2 ^ k % 4294967296 : Nat) : Int) := by simp
  have e2 : ((x : Int) / 2 ^ (32 - k)) = ((x / 2 ^ (32 - k) : Nat) : Int) := by simp
  have hp : 2 ^ k * 2 ^ (32 - k) = 4294967296 := by rw [← Nat.pow_add, show k + (32 - k) = 32 by omega]
  have hd : x / 2 ^ (32 - k) < 2 ^ k := by
    rw [Nat.div_lt_iff_lt_mul (Nat.two_pow_pos _), hp]; exact hx
  have hm : x * 2 ^ k % 4294967296 = 2 ^ k * (x % 2 ^ (32 - k)) := by
    rw [← hp, Nat.mul_comm x, Nat.mul_mod_mul_left]
  have hl : 2 ^ k ≤ 4294967296 := by
    have := Nat.pow_le_pow_right (n := 2) (by omega) (show k ≤ 32 by omega); simpa using this
  rw [e1, e2, u32_or_nat _ _ (Nat.mod_lt _ (by decide)) (by omega)]
  congr 1
  unfold Sums.rot32
  rw [hm, ← Nat.two_pow_add_eq_or_of_lt hd]
theorem rot64_bits (x k : Nat) (hx : x < 18446744073709551616) (hk0 : 0 < k) (hk : k < 64) :
    bits .or .u64 ((x : Int) * 2 ^ k % 18446744073709551616) ((x : Int) / 2 ^ (64 - k)) = ((Sums.rot64 x k : Nat) : Int) := by
  have e1 : ((x : Int) * 2 ^ k % 18446744073709551616) = ((x * 2 ^ k % 18446744073709551616 : Nat) : Int) := by simp
  have e2 : ((x : Int) / 2 ^ (64 - k)) = ((x / 2 ^ (64 - k) : Nat) : Int) := by simp
  have hp : 2 ^ k * 2 ^ (64 - k) = 18446744073709551616 := by rw [← Nat.pow_add, show k + (64 - k) = 64 by omega]
  have hd : x / 2 ^ (64 - k) < 2 ^ k := by
    rw [Nat.div_lt_iff_lt_mul (Nat.two_pow_pos _), hp]; exact hx
  have hm : x * 2 ^ k % 18446744073709551616 = 2 ^ k * (x % 2 ^ (64 - k)) := by
    rw [← hp, Nat.mul_comm x, Nat.mul_mod_mul_left]
  have hl : 2 ^ k ≤ 18446744073709551616 := by
    have := Nat.pow_le_pow_right (n := 2) (by omega) (show k ≤ 64 by omega); simpa using this
  rw [e1, e2, u64_or_nat _ _ (Nat.mod_lt _ (by decide)) (by omega)]
  congr 1
  unfold Sums.rot64
  rw [hm, ← Nat.two_pow_add_eq_or_of_lt hd]
theorem wrap_k (k : Nat) (h : k < 64) : IntKind.u64.wrap (k : Int) = (k : Int) := by rw [IntKind.wrap_u64]; omega
set_option maxHeartbeats 400000 in
theorem rotl32_any (x k : Nat) (w : World) (hx : x < 4294967296) (hk0 : 0 < k) (hk : k < 32) :
    Calls Tryd.prog 26 #[.int .u32 (x : Int), .int .i64 (k : Int)] w fun e w' => e = .returned (.int .u32 (Sums.rot32 x k : Nat)) ∧ w' = w := by
  have A1 := and_31 k hk
  go_enter Tryd.func26, Tryd.ntmps26
  go_wp2_with fail
  go_ret
  exact ⟨ret_u32 (rot32_bits x k hx hk0 hk), rfl⟩
set_option maxHeartbeats 400000 in
theorem rotl64_any (x k : Nat) (w : World) (hx : x < 18446744073709551616) (hk0 : 0 < k) (hk : k < 64) :
    Calls Tryd.prog 31 #[.int .u64 (x : Int), .int .i64 (k : Int)] w fun e w' => e = .returned (.int .u64 (Sums.rot64 x k : Nat)) ∧ w' = w := by
  have A1 := and_63 k hk
  go_enter Tryd.func31, Tryd.ntmps31
  go_wp2_with fail
  go_ret
  exact ⟨ret_u64 (rot64_bits x k hx hk0 hk), rfl⟩
set_option maxHeartbeats 400000 in
theorem word32_any (s : ByteArray) (w : World) (hs : s.size ≤ maxLen) (h4 : 4 ≤ s.size) :
    Calls Tryd.prog 27 #[.string s] w fun e w' => e = .returned (.int .u32 (Sums.w4 (Sums.bl s) : Nat)) ∧ ∃ n, w' = w.drewN n := by
  unfold maxLen at hs
  have h0 : 0 < s.size := by omega
  have h1 : (1 : Int) < (s.size : Int) := by omega
  have h2 : (2 : Int) < (s.size : Int) := by omega
  have h3 : (3 : Int) < (s.size : Int) := by omega
  go_enter Tryd.func27, Tryd.ntmps27
  go_wp2
  go_quiet (fail)
  go_wp2
  go_ret
  refine ⟨ret_u32 ?_, nq, rfl⟩
  have b0 := UInt8.toNat_lt (s[0]'h0)
  have b1 := UInt8.toNat_lt (s[1]'(by omega))
  have b2 := UInt8.toNat_lt (s[2]'(by omega))
  have b3 := UInt8.toNat_lt (s[3]'(by omega))
  have hv : ((Sums.w4 (Sums.bl s) : Nat) : Int) = ((s[0]'h0).toNat : Int) + ((s[1]'(by omega)).toNat : Int) * 256 + ((s[2]'(by omega)).toNat : Int) * 65536 + ((s[3]'(by omega)).toNat : Int) * 16777216 := by
    unfold Sums.w4
    rw [Sums.bl_get s 0 h0, Sums.bl_get s 1 (by omega), Sums.bl_get s 2 (by omega), Sums.bl_get s 3 (by omega)]
    omega
  simp (disch := omega) only [u32_or8, u32_or16, u32_or24]
  omega
theorem rotl32_i (x : Int) (X k : Nat) (w : World) (e : x = (X : Int)) (hx : X < 4294967296) (hk0 : 0 < k) (hk : k < 32) (K : Int) (eK : K = (k : Int)) :
    Calls Tryd.prog 26 #[.int .u32 x, .int .i64 K] w fun e w' => e = .returned (.int .u32 (Sums.rot32 X k : Nat)) ∧ w' = w := by
  subst e
  subst eK
  exact rotl32_any X k w hx hk0 hk
theorem rotl64_i (x : Int) (X k : Nat) (w : World) (e : x = (X : Int)) (hx : X < 18446744073709551616) (hk0 : 0 < k) (hk : k < 64) (K : Int) (eK : K = (k : Int)) :
    Calls Tryd.prog 31 #[.int .u64 x, .int .i64 K] w fun e w' => e = .returned (.int .u64 (Sums.rot64 X k : Nat)) ∧ w' = w := by
  subst e
  subst eK
  exact rotl64_any X k w hx hk0 hk
end Go.Proofs.YtapphnkddjchkaaDoor
