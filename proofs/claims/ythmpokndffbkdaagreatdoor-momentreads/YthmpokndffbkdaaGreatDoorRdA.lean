/-
  The document's leap, long, year, Stamp, Weekday, Bucket. Conditions: ints; years of a stamp, months from 1 to 12.
-/
import Derived.Test.YthmpokndffbkdaaGreatDoorMoH
namespace Go.Proofs.YthmpokndffbkdaaGreatDoor
open Go.RowKit
set_option linter.unusedVariables false
theorem rLeap_any (y : Nat) (w : World) (hy : y ≤ 1000000) : Calls Tryz.prog 84 #[.int .i64 (y : Int)] w fun e w' => e = .returned (.bool (Mo.leap y)) ∧ w' = w := by
  go_enter Tryz.func84, Tryz.ntmps84
  go_wp2
  all_goals
    go_ret
    refine ⟨ret_b ?_, rfl⟩
    rw [Bool.eq_iff_iff]
    simp [Mo.leap]
    omega
set_option maxHeartbeats 1000000 in
theorem rLong_any (y m : Nat) (w : World) (hy : y ≤ 1000000) (h1 : 1 ≤ m) (h2 : m ≤ 12) : Calls Tryz.prog 70 #[.int .i64 (y : Int), .int .i64 (m : Int)] w fun e w' => e = .returned (.int .i64 ((Mo.md y m : Nat) : Int)) ∧ w' = w := by
  have HL := fun w => rLeap_any y w hy
  rcases (show m = 1 ∨ m = 2 ∨ m = 3 ∨ m = 4 ∨ m = 5 ∨ m = 6 ∨ m = 7 ∨ m = 8 ∨ m = 9 ∨ m = 10 ∨ m = 11 ∨ m = 12 by omega) with rfl | rfl | rfl | rfl | rfl | rfl | rfl | rfl | rfl | rfl | rfl | rfl
  case inr.inl =>
    cases hl : Mo.leap y
    · rw [md_2f hl]
      rw [hl] at HL
      clear hl h1 h2
      go_enter Tryz.func70, Tryz.ntmps70
      go_wp2_with (go_at_call 84; refine (HL _).mono ?_; rintro e w' ⟨rfl, rfl⟩)
      go_ret
      exact ⟨rfl, rfl⟩
    · rw [md_2t hl]
      rw [hl] at HL
      clear hl h1 h2
      go_enter Tryz.func70, Tryz.ntmps70
      go_wp2_with (go_at_call 84; refine (HL _).mono ?_; rintro e w' ⟨rfl, rfl⟩)
      go_ret
      exact ⟨rfl, rfl⟩
  all_goals
    clear HL h1 h2
    go_enter Tryz.func70, Tryz.ntmps70
    go_wp2_with fail
    go_ret
    exact ⟨rfl, rfl⟩
theorem yl_t {y : Nat} (h : Mo.leap y = true) : Mo.yl y = 366 := by unfold Mo.yl; rw [if_pos h]
theorem yl_f {y : Nat} (h : Mo.leap y = false) : Mo.yl y = 365 := by unfold Mo.yl; rw [if_neg (by rw [h]; decide)]
theorem rYear_any (y : Nat) (w : World) (hy : y ≤ 1000000) : Calls Tryz.prog 69 #[.int .i64 (y : Int)] w fun e w' => e = .returned (.int .i64 ((Mo.yl y : Nat) : Int)) ∧ w' = w := by
  have HL := fun w => rLeap_any y w hy
  cases hl : Mo.leap y
  · rw [yl_f hl]
    rw [hl] at HL
    clear hl
    go_enter Tryz.func69, Tryz.ntmps69
    go_wp2_with (go_at_call 84; refine (HL _).mono ?_; rintro e w' ⟨rfl, rfl⟩)
    go_ret
    exact ⟨rfl, rfl⟩
  · rw [yl_t hl]
    rw [hl] at HL
    clear hl
    go_enter Tryz.func69, Tryz.ntmps69
    go_wp2_with (go_at_call 84; refine (HL _).mono ?_; rintro e w' ⟨rfl, rfl⟩)
    go_ret
    exact ⟨rfl, rfl⟩
theorem rStamp_any (n : Int) (w : World) : Calls Tryz.prog 53 #[.int .i64 n] w fun e w' => e = .returned (.bool (decide (0 ≤ n ∧ n ≤ 253402300799999))) ∧ w' = w := by
  go_enter Tryz.func53, Tryz.ntmps53
  go_wp2
  all_goals
    go_ret
    refine ⟨ret_b ?_, rfl⟩
    rw [Bool.eq_iff_iff]
    simp
    omega
theorem rStamp_is (n : Int) (z : Bool) (h : decide (0 ≤ n ∧ n ≤ 253402300799999) = z) (w : World) : Calls Tryz.prog 53 #[.int .i64 n] w fun e w' => e = .returned (.bool z) ∧ w' = w := by
  rw [← h]; exact rStamp_any n w
end Go.Proofs.YthmpokndffbkdaaGreatDoor
