/-
  moment: isLeap, monthDays, daysThrough, yearStart, within. Conditions: years of a stamp; months from 1 to 12.
-/
import Derived.Test.YthmpokndffbkdaaDoorProg
import Derived.Test.YthmpokndffbkdaaDoorMoA
import Derived.Test.YthmpokndffbkdaaDoorBas
import Derived.Deep.RegionWith
namespace Go.Proofs.YthmpokndffbkdaaDoor
open Go.RowKit
set_option linter.unusedVariables false
theorem ret_i64 {a b : Int} (h : a = b) : Ending.returned (.int .i64 a) = .returned (.int .i64 b) := by rw [h]
theorem ret_b {a b : Bool} (h : a = b) : Ending.returned (.bool a) = .returned (.bool b) := by rw [h]
theorem tm_nat (y k : Nat) : Int.tmod (y : Int) (k : Int) = ((y % k : Nat) : Int) := by rw [Int.tmod_eq_emod_of_nonneg (by omega)]; simp
theorem td_nat (y k : Nat) : Int.tdiv (y : Int) (k : Int) = ((y / k : Nat) : Int) := by rw [Int.tdiv_eq_ediv_of_nonneg (by omega)]; simp
theorem isLeap_any (y : Nat) (w : World) (hy : y ≤ 1000000) : Calls Tryd.prog 74 #[.int .i64 (y : Int)] w fun e w' => e = .returned (.bool (Mo.leap y)) ∧ w' = w := by
  go_enter Tryd.func74, Tryd.ntmps74
  go_wp2
  all_goals
    go_ret
    refine ⟨ret_b ?_, rfl⟩
    rw [Bool.eq_iff_iff]
    simp [Mo.leap]
    omega
theorem daysThrough_any (y : Nat) (w : World) (hy : y ≤ 1000000) : Calls Tryd.prog 75 #[.int .i64 (y : Int)] w fun e w' => e = .returned (.int .i64 ((Mo.th y : Nat) : Int)) ∧ w' = w := by
  have e4 := td_nat y 4
  have e100 := td_nat y 100
  have e400 := td_nat y 400
  have H : Hid (((Mo.th y : Nat) : Int) = (y : Int) * 365 + ((y / 4 : Nat) : Int) - ((y / 100 : Nat) : Int) + ((y / 400 : Nat) : Int)) := by
    show ((Mo.th y : Nat) : Int) = _
    unfold Mo.th; omega
  go_enter Tryd.func75, Tryd.ntmps75
  go_wp2
  go_ret
  exact ⟨ret_i64 (by rw [H.out]; omega), rfl⟩
theorem yearStart_any (y : Nat) (w : World) (h0 : 1970 ≤ y) (hy : y ≤ 100000) : Calls Tryd.prog 59 #[.int .i64 (y : Int)] w fun e w' => e = .returned (.int .i64 ((Mo.ys y : Nat) : Int)) ∧ w' = w := by
  obtain ⟨z, rfl⟩ : ∃ z, y = z + 1 := ⟨y - 1, by omega⟩
  have H : Hid (((Mo.ys (z + 1) : Nat) : Int) = ((Mo.th z : Nat) : Int) - 719162 ∧ Mo.th z ≤ 1000000000) := by
    have h1 := Mo.th_le (x := 1969) (z := z) (by omega)
    rw [Mo.th_first] at h1
    have h2 := Mo.th_le (x := z) (z := 100000) (by omega)
    rw [show Mo.th 100000 = 36524250 by decide] at h2
    refine ⟨?_, by omega⟩
    unfold Mo.ys
    rw [Nat.add_sub_cancel]; omega
  have hb := H.out.2
  have c1 : ((z + 1 : Nat) : Int) - 1 = (z : Int) := by omega
  have hF : ∀ w, Calls Tryd.prog 75 #[.int .i64 1969] w fun e w' => e = .returned (.int .i64 719162) ∧ w' = w := fun w => daysThrough_any 1969 w (by decide)
  generalize hq : ((z + 1 : Nat) : Int) = q at *
  have hq0 : 1970 ≤ q := by omega
  have hq1 : q ≤ 100000 := by omega
  have hqz : q - 1 = (z : Int) := by omega
  have hzb : z ≤ 1000000 := by omega
  clear c1 hy h0 hq
  go_enter Tryd.func59, Tryd.ntmps59
  go_wp2_with (first | (go_at_call_of 75 (1969 : Int); refine (hF _).mono ?_; rintro e w' ⟨rfl, rfl⟩) | (go_at_call 75; refine (daysThrough_any z _ hzb).mono ?_; rintro e w' ⟨rfl, rfl⟩))
  go_ret
  exact ⟨ret_i64 H.out.1.symm, rfl⟩
theorem within_any (n a b : Int) (w : World) : Calls Tryd.prog 57 #[.int .i64 n, .int .i64 a, .int .i64 b] w fun e w' => e = .returned (.bool (decide (a ≤ n) && decide (n ≤ b))) ∧ w' = w := by
  go_enter Tryd.func57, Tryd.ntmps57
  go_wp2
  all_goals
    go_ret
    refine ⟨ret_b ?_, rfl⟩
    rw [Bool.eq_iff_iff]
    simp
    omega
theorem md_2t {y : Nat} (h : Mo.leap y = true) : Mo.md y 2 = 29 := by simp [Mo.md, h]
theorem md_2f {y : Nat} (h : Mo.leap y = false) : Mo.md y 2 = 28 := by simp [Mo.md, h]
set_option maxHeartbeats 1000000 in
theorem monthDays_any (y m : Nat) (w : World) (hy : y ≤ 1000000) (h1 : 1 ≤ m) (h2 : m ≤ 12) : Calls Tryd.prog 58 #[.int .i64 (y : Int), .int .i64 (m : Int)] w fun e w' => e = .returned (.int .i64 ((Mo.md y m : Nat) : Int)) ∧ w' = w := by
  have HL := fun w => isLeap_any y w hy
  rcases (show m = 1 ∨ m = 2 ∨ m = 3 ∨ m = 4 ∨ m = 5 ∨ m = 6 ∨ m = 7 ∨ m = 8 ∨ m = 9 ∨ m = 10 ∨ m = 11 ∨ m = 12 by omega) with rfl | rfl | rfl | rfl | rfl | rfl | rfl | rfl | rfl | rfl | rfl | rfl
  case inr.inl =>
    cases hl : Mo.leap y
    · rw [md_2f hl]
      rw [hl] at HL
      clear hl h1 h2
      go_enter Tryd.func58, Tryd.ntmps58
      go_wp2_with (go_at_call 74; refine (HL _).mono ?_; rintro e w' ⟨rfl, rfl⟩)
      go_ret
      exact ⟨rfl, rfl⟩
    · rw [md_2t hl]
      rw [hl] at HL
      clear hl h1 h2
      go_enter Tryd.func58, Tryd.ntmps58
      go_wp2_with (go_at_call 74; refine (HL _).mono ?_; rintro e w' ⟨rfl, rfl⟩)
      go_ret
      exact ⟨rfl, rfl⟩
  all_goals
    clear HL h1 h2
    go_enter Tryd.func58, Tryd.ntmps58
    go_wp2_with fail
    go_ret
    exact ⟨rfl, rfl⟩
end Go.Proofs.YthmpokndffbkdaaDoor
