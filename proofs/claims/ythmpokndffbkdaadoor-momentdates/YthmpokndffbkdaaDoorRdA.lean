/-
  The document's leap, long, year, Stamp, Weekday, Bucket. Conditions: ints; years of a stamp, months from 1 to 12.
-/
import Derived.Test.YthmpokndffbkdaaDoorMoH
namespace Go.Proofs.YthmpokndffbkdaaDoor
open Go.RowKit
set_option linter.unusedVariables false
theorem rLeap_any (y : Nat) (w : World) (hy : y ≤ 1000000) : Calls Tryd.prog 60 #[.int .i64 (y : Int)] w fun e w' => e = .returned (.bool (Mo.leap y)) ∧ w' = w := by
  go_enter Tryd.func60, Tryd.ntmps60
  go_wp2
  all_goals
    go_ret
    refine ⟨ret_b ?_, rfl⟩
    rw [Bool.eq_iff_iff]
    simp [Mo.leap]
    omega
set_option maxHeartbeats 1000000 in
theorem rLong_any (y m : Nat) (w : World) (hy : y ≤ 1000000) (h1 : 1 ≤ m) (h2 : m ≤ 12) : Calls Tryd.prog 32 #[.int .i64 (y : Int), .int .i64 (m : Int)] w fun e w' => e = .returned (.int .i64 ((Mo.md y m : Nat) : Int)) ∧ w' = w := by
  have HL := fun w => rLeap_any y w hy
  rcases (show m = 1 ∨ m = 2 ∨ m = 3 ∨ m = 4 ∨ m = 5 ∨ m = 6 ∨ m = 7 ∨ m = 8 ∨ m = 9 ∨ m = 10 ∨ m = 11 ∨ m = 12 by omega) with rfl | rfl | rfl | rfl | rfl | rfl | rfl | rfl | rfl | rfl | rfl | rfl
  case inr.inl =>
    cases hl : Mo.leap y
    · rw [md_2f hl]
      rw [hl] at HL
      clear hl h1 h2
      go_enter Tryd.func32, Tryd.ntmps32
      go_wp2_with (go_at_call 60; refine (HL _).mono ?_; rintro e w' ⟨rfl, rfl⟩)
      go_ret
      exact ⟨rfl, rfl⟩
    · rw [md_2t hl]
      rw [hl] at HL
      clear hl h1 h2
      go_enter Tryd.func32, Tryd.ntmps32
      go_wp2_with (go_at_call 60; refine (HL _).mono ?_; rintro e w' ⟨rfl, rfl⟩)
      go_ret
      exact ⟨rfl, rfl⟩
  all_goals
    clear HL h1 h2
    go_enter Tryd.func32, Tryd.ntmps32
    go_wp2_with fail
    go_ret
    exact ⟨rfl, rfl⟩
theorem yl_t {y : Nat} (h : Mo.leap y = true) : Mo.yl y = 366 := by unfold Mo.yl; rw [if_pos h]
theorem yl_f {y : Nat} (h : Mo.leap y = false) : Mo.yl y = 365 := by unfold Mo.yl; rw [if_neg (by rw [h]; decide)]
theorem rYear_any (y : Nat) (w : World) (hy : y ≤ 1000000) : Calls Tryd.prog 31 #[.int .i64 (y : Int)] w fun e w' => e = .returned (.int .i64 ((Mo.yl y : Nat) : Int)) ∧ w' = w := by
  have HL := fun w => rLeap_any y w hy
  cases hl : Mo.leap y
  · rw [yl_f hl]
    rw [hl] at HL
    clear hl
    go_enter Tryd.func31, Tryd.ntmps31
    go_wp2_with (go_at_call 60; refine (HL _).mono ?_; rintro e w' ⟨rfl, rfl⟩)
    go_ret
    exact ⟨rfl, rfl⟩
  · rw [yl_t hl]
    rw [hl] at HL
    clear hl
    go_enter Tryd.func31, Tryd.ntmps31
    go_wp2_with (go_at_call 60; refine (HL _).mono ?_; rintro e w' ⟨rfl, rfl⟩)
    go_ret
    exact ⟨rfl, rfl⟩
theorem rStamp_any (n : Int) (w : World) : Calls Tryd.prog 35 #[.int .i64 n] w fun e w' => e = .returned (.bool (decide (0 ≤ n ∧ n ≤ 253402300799999))) ∧ w' = w := by
  go_enter Tryd.func35, Tryd.ntmps35
  go_wp2
  all_goals
    go_ret
    refine ⟨ret_b ?_, rfl⟩
    rw [Bool.eq_iff_iff]
    simp
    omega
theorem rStamp_is (n : Int) (z : Bool) (h : decide (0 ≤ n ∧ n ≤ 253402300799999) = z) (w : World) : Calls Tryd.prog 35 #[.int .i64 n] w fun e w' => e = .returned (.bool z) ∧ w' = w := by
  rw [← h]; exact rStamp_any n w
theorem rBucket_any (n k : Int) (w : World) : Calls Tryd.prog 18 #[.int .i64 n, .int .i64 k] w fun e w' => e = bucketR n k ∧ w' = w := by
  unfold bucketR
  by_cases h1 : 0 ≤ n ∧ n ≤ 253402300799999
  · rw [if_neg (by omega)]
    have S := Hid.mk' (rStamp_is n true (by simp; omega))
    by_cases h2 : 1 ≤ k ∧ k ≤ 253402300799999
    · rw [if_neg (by omega)]
      obtain ⟨n', rfl⟩ := Int.eq_ofNat_of_zero_le h1.1
      obtain ⟨k', rfl⟩ := Int.eq_ofNat_of_zero_le (show 0 ≤ k by omega)
      obtain ⟨q, hq⟩ : ∃ q, n' % k' = q := ⟨_, rfl⟩
      have hqI : (n' : Int) % (k' : Int) = (q : Int) := by rw [← hq]; simp
      have hqb : q ≤ n' := by rw [← hq]; exact Nat.mod_le _ _
      have hk0 : ¬ (k' : Int) = 0 := by omega
      have hk1 : 1 ≤ (k' : Int) := by omega
      have hk2 : ¬ (k' : Int) < 1 := by omega
      have hk3 : ¬ (253402300799999 : Int) < (k' : Int) := by omega
      have hn1 : (n' : Int) ≤ 253402300799999 := h1.2
      rw [hqI]
      clear hq h1 h2
      go_enter Tryd.func18, Tryd.ntmps18
      go_wp2_with (first | (go_at_call 35; refine (S.out _).mono ?_; rintro e w' ⟨rfl, rfl⟩))
      go_ret2
      exact ⟨rfl, rfl⟩
    · rw [if_pos h2]
      clear h1
      go_enter Tryd.func18, Tryd.ntmps18
      by_cases h3 : k < 1
      · clear h2
        go_wp2_with (first | (go_at_call 35; refine (S.out _).mono ?_; rintro e w' ⟨rfl, rfl⟩))
        go_ret2
        exact ⟨rfl, rfl⟩
      · have h4 : 253402300799999 < k := by omega
        clear h2
        go_wp2_with (first | (go_at_call 35; refine (S.out _).mono ?_; rintro e w' ⟨rfl, rfl⟩))
        go_ret2
        exact ⟨rfl, rfl⟩
  · rw [if_pos h1]
    have S := Hid.mk' (rStamp_is n false (by simp; omega))
    clear h1
    go_enter Tryd.func18, Tryd.ntmps18
    go_wp2_with (first | (go_at_call 35; refine (S.out _).mono ?_; rintro e w' ⟨rfl, rfl⟩))
    go_ret2
    exact ⟨rfl, rfl⟩
theorem rWeekday_any (n : Nat) (w : World) (h : n ≤ 253402300799999) : Calls Tryd.prog 14 #[.int .i64 (n : Int)] w fun e w' => e = .returned (.tuple #[.int .i64 (((n / 86400000 + 4) % 7 : Nat) : Int), .int .i64 0]) ∧ w' = w := by
  have S := Hid.mk' (rStamp_is (n : Int) true (by simp; omega))
  go_enter Tryd.func14, Tryd.ntmps14
  go_wp2_with (first | (go_at_call 35; refine (S.out _).mono ?_; rintro e w' ⟨rfl, rfl⟩))
  go_ret2
  exact ⟨tup_ii (by omega) rfl, rfl⟩
theorem rWeekday_bad (n : Int) (w : World) (h : ¬ (0 ≤ n ∧ n ≤ 253402300799999)) : Calls Tryd.prog 14 #[.int .i64 n] w fun e w' => e = .returned (.tuple #[.int .i64 0, .int .i64 171]) ∧ w' = w := by
  have S := Hid.mk' (rStamp_is n false (by simp; omega))
  clear h
  go_enter Tryd.func14, Tryd.ntmps14
  go_wp2_with (first | (go_at_call 35; refine (S.out _).mono ?_; rintro e w' ⟨rfl, rfl⟩))
  go_ret2
  exact ⟨rfl, rfl⟩
end Go.Proofs.YthmpokndffbkdaaDoor
