/-
  moment: isDay, isTime. Conditions: ints.
-/
import Derived.Test.YthmpokndffbkdaaDoorMoB
namespace Go.Proofs.YthmpokndffbkdaaDoor
open Go.RowKit
set_option linter.unusedVariables false
def dateV (y m d h mi s ms : Int) : Value := .agg #[.int .i64 y, .int .i64 m, .int .i64 d, .int .i64 h, .int .i64 mi, .int .i64 s, .int .i64 ms]
def _root_.Mo.dayOK (y m d : Int) : Bool := decide (1970 ≤ y ∧ y ≤ 9999 ∧ 1 ≤ m ∧ m ≤ 12 ∧ 1 ≤ d ∧ d ≤ ((Mo.md y.toNat m.toNat : Nat) : Int))
def _root_.Mo.timeOK (h mi s ms : Int) : Bool := decide (0 ≤ h ∧ h ≤ 23 ∧ 0 ≤ mi ∧ mi ≤ 59 ∧ 0 ≤ s ∧ s ≤ 59 ∧ 0 ≤ ms ∧ ms ≤ 999)
theorem within_is (n a b : Int) (z : Bool) (h : (decide (a ≤ n) && decide (n ≤ b)) = z) (w : World) : Calls Tryd.prog 57 #[.int .i64 n, .int .i64 a, .int .i64 b] w fun e w' => e = .returned (.bool z) ∧ w' = w := by
  rw [← h]; exact within_any n a b w
def dateC (y m d h mi s ms : Int) : Array Value := #[.int .i64 y, .int .i64 m, .int .i64 d, .int .i64 h, .int .i64 mi, .int .i64 s, .int .i64 ms]
theorem bel_box (w : World) (cs : Array Value) (t : TypeId) (n : Nat) : Below w.heap.size w ((w.alloc (.cells cs t)).drewN n) := ((Below.refl _ w).alloc (Nat.le_refl _) _).drewN' n
theorem bel_box0 (w : World) (cs : Array Value) (t : TypeId) : Below w.heap.size w (w.alloc (.cells cs t)) := ((Below.refl _ w).alloc (Nat.le_refl _) _)
set_option maxHeartbeats 2000000 in
theorem isDay_any (y m d h mi s ms : Int) (w : World) : Calls Tryd.prog 27 #[dateV y m d h mi s ms] w fun e w' => e = .returned (.bool (Mo.dayOK y m d)) ∧ Below w.heap.size w w' := by
  unfold dateV
  by_cases c1 : 1970 ≤ y ∧ y ≤ 9999
  · have W1 := Hid.mk' (within_is y 1970 9999 true (by simp [c1]))
    by_cases c2 : 1 ≤ m ∧ m ≤ 12
    · have W2 := Hid.mk' (within_is m 1 12 true (by simp [c2]))
      obtain ⟨yn, rfl⟩ := Int.eq_ofNat_of_zero_le (show 0 ≤ y by omega)
      obtain ⟨mn, rfl⟩ := Int.eq_ofNat_of_zero_le (show 0 ≤ m by omega)
      have W3 := Hid.mk' (fun w => monthDays_any yn mn w (by omega) (by omega) (by omega))
      obtain ⟨c3, hc3⟩ : ∃ c3, (decide (1 ≤ d) && decide (d ≤ ((Mo.md yn mn : Nat) : Int))) = c3 := ⟨_, rfl⟩
      have W4 := Hid.mk' (within_is d 1 _ c3 hc3)
      have e : Mo.dayOK (yn : Int) (mn : Int) d = c3 := by
        unfold Mo.dayOK
        rw [← hc3, Bool.eq_iff_iff]
        simp only [Int.toNat_natCast, decide_eq_true_eq, Bool.and_eq_true]
        omega
      rw [e]
      have hy : (yn : Int) = yn := rfl
      generalize hY : (yn : Int) = yi at *
      generalize hM : (mn : Int) = mi' at *
      clear hY hM hc3 e hy c1 c2
      go_enter Tryd.func27, Tryd.ntmps27
      go_wp2_with fail
      go_quiet ((first | (go_at_call_of 57 yi; exact Calls.quiet_of_same (W1.out _)) | (go_at_call_of 57 mi'; exact Calls.quiet_of_same (W2.out _)) | (go_at_call 58; exact Calls.quiet_of_same (W3.out _)) | (go_at_call_of 57 d; exact Calls.quiet_of_same (W4.out _))))
      go_wp2_with fail
      go_ret
      exact ⟨rfl, bel_box _ _ _ _⟩
    · have W2 := Hid.mk' (within_is m 1 12 false (by simp; omega))
      have e : Mo.dayOK y m d = false := by simp [Mo.dayOK]; omega
      rw [e]
      clear e c1 c2
      go_enter Tryd.func27, Tryd.ntmps27
      go_wp2_with fail
      go_quiet ((first | (go_at_call_of 57 y; exact Calls.quiet_of_same (W1.out _)) | (go_at_call_of 57 m; exact Calls.quiet_of_same (W2.out _))))
      go_wp2_with fail
      go_ret
      exact ⟨rfl, bel_box _ _ _ _⟩
  · have W1 := Hid.mk' (within_is y 1970 9999 false (by simp; omega))
    have e : Mo.dayOK y m d = false := by simp [Mo.dayOK]; omega
    rw [e]
    clear e c1
    go_enter Tryd.func27, Tryd.ntmps27
    go_wp2_with fail
    go_quiet ((go_at_call_of 57 y; exact Calls.quiet_of_same (W1.out _)))
    go_wp2_with fail
    go_ret
    exact ⟨rfl, bel_box _ _ _ _⟩
set_option maxHeartbeats 2000000 in
theorem isTime_any (y m d h mi s ms : Int) (w : World) : Calls Tryd.prog 28 #[dateV y m d h mi s ms] w fun e w' => e = .returned (.bool (Mo.timeOK h mi s ms)) ∧ Below w.heap.size w w' := by
  unfold dateV
  obtain ⟨b1, q1⟩ : ∃ z, (decide (0 ≤ h) && decide (h ≤ 23)) = z := ⟨_, rfl⟩
  obtain ⟨b2, q2⟩ : ∃ z, (decide (0 ≤ mi) && decide (mi ≤ 59)) = z := ⟨_, rfl⟩
  obtain ⟨b3, q3⟩ : ∃ z, (decide (0 ≤ s) && decide (s ≤ 59)) = z := ⟨_, rfl⟩
  obtain ⟨b4, q4⟩ : ∃ z, (decide (0 ≤ ms) && decide (ms ≤ 999)) = z := ⟨_, rfl⟩
  have W1 := Hid.mk' (within_is h 0 23 b1 q1)
  have W2 := Hid.mk' (within_is mi 0 59 b2 q2)
  have W3 := Hid.mk' (within_is s 0 59 b3 q3)
  have W4 := Hid.mk' (within_is ms 0 999 b4 q4)
  have e : Mo.timeOK h mi s ms = (b1 && b2 && b3 && b4) := by
    rw [← q1, ← q2, ← q3, ← q4, Bool.eq_iff_iff]
    simp [Mo.timeOK]; omega
  rw [e]
  clear e q1 q2 q3 q4
  cases b1 <;> cases b2 <;> cases b3
  all_goals
    go_enter Tryd.func28, Tryd.ntmps28
    go_wp2_with (first | (go_at_call_of 57 h; refine (W1.out _).mono ?_; rintro e w' ⟨rfl, rfl⟩) | (go_at_call_of 57 mi; refine (W2.out _).mono ?_; rintro e w' ⟨rfl, rfl⟩) | (go_at_call_of 57 s; refine (W3.out _).mono ?_; rintro e w' ⟨rfl, rfl⟩) | (go_at_call_of 57 ms; refine (W4.out _).mono ?_; rintro e w' ⟨rfl, rfl⟩))
    go_ret
    exact ⟨by simp, bel_box0 _ _ _⟩
end Go.Proofs.YthmpokndffbkdaaDoor
