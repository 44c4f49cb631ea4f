/-
  A letter in another case; the laws' pick of two; a shifted number. Conditions: as each says.
-/
import Derived.Test.YtlejfeapnnioeaaTu2
import Derived.Test.YtlejfeapnnioeaaPick7
namespace Mn
theorem lf_up (c : Nat) (h1 : 65 ≤ c) (h2 : c ≤ 90) : lf true (c + 32) = lf true c := by
  unfold lf
  simp only [if_true]
  unfold low
  rw [if_neg (by omega), if_pos (by omega)]
theorem lf_down (c : Nat) (h1 : 97 ≤ c) (h2 : c ≤ 122) : lf true (c - 32) = lf true c := by
  unfold lf
  simp only [if_true]
  unfold low
  rw [if_pos (by omega), if_neg (by omega)]
  omega
end Mn
namespace Go.Proofs.Ytlejfeapnnioeaa
open Go.RowKit Go.Shelf
set_option linter.unusedVariables false
theorem xor_all : ((List.range 256).all fun c => decide ((65 ≤ c ∧ c ≤ 90 → bits .xor .u8 (c : Int) 32 = ((c + 32 : Nat) : Int)) ∧ (97 ≤ c ∧ c ≤ 122 → bits .xor .u8 (c : Int) 32 = ((c - 32 : Nat) : Int)))) = true := by decide +kernel
theorem xor_case (c : Nat) (h : c < 256) : (65 ≤ c ∧ c ≤ 90 → bits .xor .u8 (c : Int) 32 = ((c + 32 : Nat) : Int)) ∧ (97 ≤ c ∧ c ≤ 122 → bits .xor .u8 (c : Int) 32 = ((c - 32 : Nat) : Int)) := by
  have := List.all_eq_true.1 xor_all c (List.mem_range.2 h)
  exact of_decide_eq_true this
theorem u8_one (a : Int) : ∀ u ∈ [Value.int .u8 a], u.oneCell' = true := by
  intro u hu
  simp at hu
  subst hu
  rfl
theorem shr_in (z : Int) (k : Nat) (h1 : -9223372036854775808 ≤ z) (h2 : z ≤ 9223372036854775807) : -9223372036854775808 ≤ z / 2 ^ k ∧ z / 2 ^ k ≤ 9223372036854775807 := by
  have hp : (0 : Int) < 2 ^ k := Int.pow_pos (by omega)
  rcases Int.le_total 0 z with hz | hz
  · have h3 := Int.ediv_nonneg hz (Int.le_of_lt hp)
    have h4 := Int.ediv_le_self (2 ^ k) hz
    omega
  · have h3 : z / 2 ^ k ≤ 0 := Int.ediv_le_of_le_mul hp (by rw [Int.zero_mul]; exact hz)
    have h4 : z ≤ z / 2 ^ k := by
      rw [Int.le_ediv_iff_mul_le hp]
      have h5 := Int.mul_le_mul_of_nonneg_left (show (1 : Int) ≤ 2 ^ k by omega) (show 0 ≤ -z by omega)
      rw [Int.mul_one, Int.neg_mul] at h5
      omega
    omega
set_option maxHeartbeats 400000 in
theorem pick_two (z : Int) (hl : -9223372036854775808 ≤ z) (hh : z ≤ 9223372036854775807) : ∃ r : Nat, r < 2 ∧ ∀ V, Calls Try.prog 14 #[.int .i64 z, .int .i64 2] V fun e w' => e = .returned (.int .i64 (r : Int)) ∧ w' = V := by
  by_cases hc : z < 0
  · have h1 : 0 ≤ -(z + 1) % 2 := Int.emod_nonneg _ (by omega)
    have h2 : -(z + 1) % 2 < 2 := Int.emod_lt_of_pos _ (by omega)
    refine ⟨(-(z + 1) % 2).toNat, by omega, fun V => ?_⟩
    go_enter Try.func14, Try.ntmps14
    go_wp2
    go_ret
    refine ⟨ret_i64 ?_, rfl⟩
    rw [← Int.neg_tmod, Int.tmod_eq_emod_of_nonneg (by omega)]
    omega
  · have h1 : 0 ≤ z % 2 := Int.emod_nonneg _ (by omega)
    have h2 : z % 2 < 2 := Int.emod_lt_of_pos _ (by omega)
    refine ⟨(z % 2).toNat, by omega, fun V => ?_⟩
    go_enter Try.func14, Try.ntmps14
    go_wp2
    go_ret
    refine ⟨ret_i64 ?_, rfl⟩
    omega
end Go.Proofs.Ytlejfeapnnioeaa
