/-
  moment: isStamp, isSpan, Bucket, Weekday, Date. Conditions: ints.
-/
import Derived.Test.YthmpokndffbkdaaDoorMoF
namespace Go.Proofs.YthmpokndffbkdaaDoor
open Go.RowKit
set_option linter.unusedVariables false
theorem isStamp_any (n : Int) (w : World) : Calls Tryd.prog 33 #[.int .i64 n] w fun e w' => e = .returned (.bool (decide (0 ≤ n ∧ n ≤ 253402300799999))) ∧ w' = w := by
  go_enter Tryd.func33, Tryd.ntmps33
  go_wp2
  all_goals
    go_ret
    refine ⟨ret_b ?_, rfl⟩
    rw [Bool.eq_iff_iff]
    simp
    omega
theorem isSpan_any (n : Int) (w : World) : Calls Tryd.prog 38 #[.int .i64 n] w fun e w' => e = .returned (.bool (decide (1 ≤ n ∧ n ≤ 253402300799999))) ∧ w' = w := by
  go_enter Tryd.func38, Tryd.ntmps38
  go_wp2
  all_goals
    go_ret
    refine ⟨ret_b ?_, rfl⟩
    rw [Bool.eq_iff_iff]
    simp
    omega
theorem stamp_is (n : Int) (z : Bool) (h : decide (0 ≤ n ∧ n ≤ 253402300799999) = z) (w : World) : Calls Tryd.prog 33 #[.int .i64 n] w fun e w' => e = .returned (.bool z) ∧ w' = w := by
  rw [← h]; exact isStamp_any n w
theorem span_is (n : Int) (z : Bool) (h : decide (1 ≤ n ∧ n ≤ 253402300799999) = z) (w : World) : Calls Tryd.prog 38 #[.int .i64 n] w fun e w' => e = .returned (.bool z) ∧ w' = w := by
  rw [← h]; exact isSpan_any n w
def bucketR (n k : Int) : Ending := if ¬ (0 ≤ n ∧ n ≤ 253402300799999) then .returned (.tuple #[.int .i64 0, .int .i64 171]) else if ¬ (1 ≤ k ∧ k ≤ 253402300799999) then .returned (.tuple #[.int .i64 0, .int .i64 121]) else .returned (.tuple #[.int .i64 (n - n % k), .int .i64 0])
theorem bucket_any (n k : Int) (w : World) : Calls Tryd.prog 17 #[.int .i64 n, .int .i64 k] w fun e w' => e = bucketR n k ∧ w' = w := by
  unfold bucketR
  by_cases h1 : 0 ≤ n ∧ n ≤ 253402300799999
  · rw [if_neg (by omega)]
    have S := Hid.mk' (stamp_is n true (by simp; omega))
    by_cases h2 : 1 ≤ k ∧ k ≤ 253402300799999
    · rw [if_neg (by omega)]
      have T := Hid.mk' (span_is k true (by simp; omega))
      obtain ⟨n', rfl⟩ := Int.eq_ofNat_of_zero_le h1.1
      obtain ⟨k', rfl⟩ := Int.eq_ofNat_of_zero_le (show 0 ≤ k by omega)
      obtain ⟨q, hq⟩ : ∃ q, n' % k' = q := ⟨_, rfl⟩
      have hqI : (n' : Int) % (k' : Int) = (q : Int) := by rw [← hq]; simp
      have hqb : q ≤ n' := by rw [← hq]; exact Nat.mod_le _ _
      have hk0 : ¬ (k' : Int) = 0 := by omega
      have hk1 : 1 ≤ (k' : Int) := by omega
      have hn1 : (n' : Int) ≤ 253402300799999 := h1.2
      rw [hqI]
      clear hq h1 h2
      go_enter Tryd.func17, Tryd.ntmps17
      go_wp2_with (first | (go_at_call 33; refine (S.out _).mono ?_; rintro e w' ⟨rfl, rfl⟩) | (go_at_call 38; refine (T.out _).mono ?_; rintro e w' ⟨rfl, rfl⟩))
      go_ret2
      exact ⟨rfl, rfl⟩
    · rw [if_pos h2]
      have T := Hid.mk' (span_is k false (by simp; omega))
      clear h1 h2
      go_enter Tryd.func17, Tryd.ntmps17
      go_wp2_with (first | (go_at_call 33; refine (S.out _).mono ?_; rintro e w' ⟨rfl, rfl⟩) | (go_at_call 38; refine (T.out _).mono ?_; rintro e w' ⟨rfl, rfl⟩))
      go_ret2
      exact ⟨rfl, rfl⟩
  · rw [if_pos h1]
    have S := Hid.mk' (stamp_is n false (by simp; omega))
    clear h1
    go_enter Tryd.func17, Tryd.ntmps17
    go_wp2_with (first | (go_at_call 33; refine (S.out _).mono ?_; rintro e w' ⟨rfl, rfl⟩))
    go_ret2
    exact ⟨rfl, rfl⟩
theorem weekday_any (n : Nat) (w : World) (h : n ≤ 253402300799999) : Calls Tryd.prog 13 #[.int .i64 (n : Int)] w fun e w' => e = .returned (.tuple #[.int .i64 (((n / 86400000 + 4) % 7 : Nat) : Int), .int .i64 0]) ∧ w' = w := by
  have S := Hid.mk' (stamp_is (n : Int) true (by simp; omega))
  go_enter Tryd.func13, Tryd.ntmps13
  go_wp2_with (first | (go_at_call 33; refine (S.out _).mono ?_; rintro e w' ⟨rfl, rfl⟩))
  go_ret2
  exact ⟨tup_ii (by omega) rfl, rfl⟩
theorem weekday_bad (n : Int) (w : World) (h : ¬ (0 ≤ n ∧ n ≤ 253402300799999)) : Calls Tryd.prog 13 #[.int .i64 n] w fun e w' => e = .returned (.tuple #[.int .i64 0, .int .i64 171]) ∧ w' = w := by
  have S := Hid.mk' (stamp_is n false (by simp; omega))
  clear h
  go_enter Tryd.func13, Tryd.ntmps13
  go_wp2_with (first | (go_at_call 33; refine (S.out _).mono ?_; rintro e w' ⟨rfl, rfl⟩))
  go_ret2
  exact ⟨rfl, rfl⟩
end Go.Proofs.YthmpokndffbkdaaDoor
