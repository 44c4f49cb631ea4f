/-
  The law's own leap and long. Conditions: years of a stamp, months from 1 to 12.
-/
import Derived.Test.YtpkhjfoeemhhoaaDoorPk12
namespace Go.Proofs.YtpkhjfoeemhhoaaDoor
open Go.RowKit
set_option linter.unusedVariables false
theorem leapL_any (y : Nat) (w : World) (hy : y ≤ 1000000) : Calls Tryd.prog 52 #[.int .i64 (y : Int)] w fun e w' => e = .returned (.bool (Mo.leap y)) ∧ w' = w := by
  go_enter Tryd.func52, Tryd.ntmps52
  go_wp2
  all_goals
    go_ret
    refine ⟨ret_b ?_, rfl⟩
    rw [Bool.eq_iff_iff]
    simp [Mo.leap]
    omega
set_option maxRecDepth 100000 in
set_option maxHeartbeats 1000000 in
theorem long_any (y m : Nat) (w : World) (hy : y ≤ 1000000) (h1 : 1 ≤ m) (h2 : m ≤ 12) : Calls Tryd.prog 25 #[.int .i64 (y : Int), .int .i64 (m : Int)] w fun e w' => e = .returned (.int .i64 ((Mo.md y m : Nat) : Int)) ∧ Below w.heap.size w w' := by
  have HL := Hid.mk' (fun w => leapL_any y w hy)
  have HB0 : Hid (∀ o, Below w.heap.size w (w.alloc o)) := fun o => (Below.refl w.heap.size w).alloc (Nat.le_refl _) o
  have HR := Hid.mk' (Below.refl w.heap.size w)
  rcases (show m = 1 ∨ m = 2 ∨ m = 3 ∨ m = 4 ∨ m = 5 ∨ m = 6 ∨ m = 7 ∨ m = 8 ∨ m = 9 ∨ m = 10 ∨ m = 11 ∨ m = 12 by omega) with rfl | rfl | rfl | rfl | rfl | rfl | rfl | rfl | rfl | rfl | rfl | rfl
  all_goals
    cases hl : Mo.leap y
    all_goals
      first | rw [md_2f hl] | rw [md_2t hl] | skip
      rw [hl] at HL
      clear hl h1 h2
      go_enter Tryd.func25, Tryd.ntmps25
      go_wp2_with (go_at_call 52; refine (HL.out _).mono ?_; rintro e w' ⟨rfl, hw'⟩; have hw2 := hw'.symm; subst hw2)
      go_ret
      first | exact ⟨rfl, HB0.out _⟩ | exact ⟨rfl, HR.out⟩
end Go.Proofs.YtpkhjfoeemhhoaaDoor
