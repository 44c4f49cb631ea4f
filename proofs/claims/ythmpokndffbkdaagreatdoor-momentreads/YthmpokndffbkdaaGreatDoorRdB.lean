/-
  The document's There. Conditions: ints.
-/
import Derived.Test.YthmpokndffbkdaaGreatDoorRdA
namespace Go.Proofs.YthmpokndffbkdaaGreatDoor
open Go.RowKit
set_option linter.unusedVariables false
set_option maxHeartbeats 2000000 in
theorem there_a0 (y m d h mi s ms : Int) (w : World)  (h0 : y < 1970) : Calls Tryz.prog 68 #[dateV y m d h mi s ms] w fun e w' => e = .returned (.bool false) ∧ Below w.heap.size w w' := by
  unfold dateV
  have HB : Hid (∀ n cs t, Below w.heap.size w ((w.alloc (.cells cs t)).drewN n)) := fun n cs t => bel_box w cs t n
  go_enter Tryz.func68, Tryz.ntmps68
  go_wp2_with fail
  go_ret
  first | exact ⟨rfl, bel_box0 _ _ _⟩ | exact ⟨rfl, bel_box _ _ _ _⟩
set_option maxHeartbeats 2000000 in
theorem there_a1 (y m d h mi s ms : Int) (w : World) (h0 : ¬ y < 1970) (h1 : 9999 < y) : Calls Tryz.prog 68 #[dateV y m d h mi s ms] w fun e w' => e = .returned (.bool false) ∧ Below w.heap.size w w' := by
  unfold dateV
  have HB : Hid (∀ n cs t, Below w.heap.size w ((w.alloc (.cells cs t)).drewN n)) := fun n cs t => bel_box w cs t n
  go_enter Tryz.func68, Tryz.ntmps68
  go_wp2_with fail
  go_ret
  first | exact ⟨rfl, bel_box0 _ _ _⟩ | exact ⟨rfl, bel_box _ _ _ _⟩
set_option maxHeartbeats 2000000 in
theorem there_a2 (y m d h mi s ms : Int) (w : World) (h0 : ¬ y < 1970) (h1 : ¬ 9999 < y) (h2 : m < 1) : Calls Tryz.prog 68 #[dateV y m d h mi s ms] w fun e w' => e = .returned (.bool false) ∧ Below w.heap.size w w' := by
  unfold dateV
  have HB : Hid (∀ n cs t, Below w.heap.size w ((w.alloc (.cells cs t)).drewN n)) := fun n cs t => bel_box w cs t n
  go_enter Tryz.func68, Tryz.ntmps68
  go_wp2_with fail
  go_ret
  first | exact ⟨rfl, bel_box0 _ _ _⟩ | exact ⟨rfl, bel_box _ _ _ _⟩
set_option maxHeartbeats 2000000 in
theorem there_a3 (y m d h mi s ms : Int) (w : World) (h0 : ¬ y < 1970) (h1 : ¬ 9999 < y) (h2 : ¬ m < 1) (h3 : 12 < m) : Calls Tryz.prog 68 #[dateV y m d h mi s ms] w fun e w' => e = .returned (.bool false) ∧ Below w.heap.size w w' := by
  unfold dateV
  have HB : Hid (∀ n cs t, Below w.heap.size w ((w.alloc (.cells cs t)).drewN n)) := fun n cs t => bel_box w cs t n
  go_enter Tryz.func68, Tryz.ntmps68
  go_wp2_with fail
  go_ret
  first | exact ⟨rfl, bel_box0 _ _ _⟩ | exact ⟨rfl, bel_box _ _ _ _⟩
set_option maxHeartbeats 2000000 in
theorem there_a4 (y m d h mi s ms : Int) (w : World) (h0 : ¬ y < 1970) (h1 : ¬ 9999 < y) (h2 : ¬ m < 1) (h3 : ¬ 12 < m) (h4 : d < 1) : Calls Tryz.prog 68 #[dateV y m d h mi s ms] w fun e w' => e = .returned (.bool false) ∧ Below w.heap.size w w' := by
  unfold dateV
  have HB : Hid (∀ n cs t, Below w.heap.size w ((w.alloc (.cells cs t)).drewN n)) := fun n cs t => bel_box w cs t n
  go_enter Tryz.func68, Tryz.ntmps68
  go_wp2_with fail
  go_ret
  first | exact ⟨rfl, bel_box0 _ _ _⟩ | exact ⟨rfl, bel_box _ _ _ _⟩
set_option maxHeartbeats 4000000 in
theorem there_b0 (y m d h mi s ms : Int) (w : World) (h0 : ¬ y < 1970) (h1 : ¬ 9999 < y) (h2 : ¬ m < 1) (h3 : ¬ 12 < m) (h4 : ¬ d < 1) (L : Nat) (HL : Hid (∀ w, Calls Tryz.prog 70 #[.int .i64 y, .int .i64 m] w fun e w' => e = .returned (.int .i64 (L : Int)) ∧ w' = w))  (g0 : Hid (¬ (d ≤ (L : Int)))) : Calls Tryz.prog 68 #[dateV y m d h mi s ms] w fun e w' => e = .returned (.bool false) ∧ Below w.heap.size w w' := by
  unfold dateV
  go_enter Tryz.func68, Tryz.ntmps68
  go_wp2_with fail
  have gq : decide (d ≤ (L : Int)) = false := decide_eq_false (by have := g0.out; omega)
  go_quiet ((go_at_call 70; exact Calls.quiet_of_same (HL.out _)))
  go_wp2_with fail
  go_ret
  first | exact ⟨rfl, bel_box0 _ _ _⟩ | exact ⟨rfl, bel_box _ _ _ _⟩ | exact ⟨ret_b gq, bel_box0 _ _ _⟩ | exact ⟨ret_b gq, bel_box _ _ _ _⟩ | exact ⟨ret_b (decide_eq_true g8), bel_box _ _ _ _⟩
set_option maxHeartbeats 4000000 in
theorem there_b1 (y m d h mi s ms : Int) (w : World) (h0 : ¬ y < 1970) (h1 : ¬ 9999 < y) (h2 : ¬ m < 1) (h3 : ¬ 12 < m) (h4 : ¬ d < 1) (L : Nat) (HL : Hid (∀ w, Calls Tryz.prog 70 #[.int .i64 y, .int .i64 m] w fun e w' => e = .returned (.int .i64 (L : Int)) ∧ w' = w)) (g0 : d ≤ (L : Int)) (g1 : Hid (¬ (0 ≤ h))) : Calls Tryz.prog 68 #[dateV y m d h mi s ms] w fun e w' => e = .returned (.bool false) ∧ Below w.heap.size w w' := by
  unfold dateV
  go_enter Tryz.func68, Tryz.ntmps68
  go_wp2_with fail
  have gq : decide (0 ≤ h) = false := decide_eq_false (by have := g1.out; omega)
  go_quiet ((go_at_call 70; exact Calls.quiet_of_same (HL.out _)))
  go_wp2_with fail
  go_ret
  first | exact ⟨rfl, bel_box0 _ _ _⟩ | exact ⟨rfl, bel_box _ _ _ _⟩ | exact ⟨ret_b gq, bel_box0 _ _ _⟩ | exact ⟨ret_b gq, bel_box _ _ _ _⟩ | exact ⟨ret_b (decide_eq_true g8), bel_box _ _ _ _⟩
set_option maxHeartbeats 4000000 in
theorem there_b2 (y m d h mi s ms : Int) (w : World) (h0 : ¬ y < 1970) (h1 : ¬ 9999 < y) (h2 : ¬ m < 1) (h3 : ¬ 12 < m) (h4 : ¬ d < 1) (L : Nat) (HL : Hid (∀ w, Calls Tryz.prog 70 #[.int .i64 y, .int .i64 m] w fun e w' => e = .returned (.int .i64 (L : Int)) ∧ w' = w)) (g0 : d ≤ (L : Int)) (g1 : 0 ≤ h) (g2 : Hid (¬ (h < 24))) : Calls Tryz.prog 68 #[dateV y m d h mi s ms] w fun e w' => e = .returned (.bool false) ∧ Below w.heap.size w w' := by
  unfold dateV
  go_enter Tryz.func68, Tryz.ntmps68
  go_wp2_with fail
  have gq : decide (h < 24) = false := decide_eq_false (by have := g2.out; omega)
  go_quiet ((go_at_call 70; exact Calls.quiet_of_same (HL.out _)))
  go_wp2_with fail
  go_ret
  first | exact ⟨rfl, bel_box0 _ _ _⟩ | exact ⟨rfl, bel_box _ _ _ _⟩ | exact ⟨ret_b gq, bel_box0 _ _ _⟩ | exact ⟨ret_b gq, bel_box _ _ _ _⟩ | exact ⟨ret_b (decide_eq_true g8), bel_box _ _ _ _⟩
set_option maxHeartbeats 4000000 in
theorem there_b3 (y m d h mi s ms : Int) (w : World) (h0 : ¬ y < 1970) (h1 : ¬ 9999 < y) (h2 : ¬ m < 1) (h3 : ¬ 12 < m) (h4 : ¬ d < 1) (L : Nat) (HL : Hid (∀ w, Calls Tryz.prog 70 #[.int .i64 y, .int .i64 m] w fun e w' => e = .returned (.int .i64 (L : Int)) ∧ w' = w)) (g0 : d ≤ (L : Int)) (g1 : 0 ≤ h) (g2 : h < 24) (g3 : Hid (¬ (0 ≤ mi))) : Calls Tryz.prog 68 #[dateV y m d h mi s ms] w fun e w' => e = .returned (.bool false) ∧ Below w.heap.size w w' := by
  unfold dateV
  go_enter Tryz.func68, Tryz.ntmps68
  go_wp2_with fail
  have gq : decide (0 ≤ mi) = false := decide_eq_false (by have := g3.out; omega)
  go_quiet ((go_at_call 70; exact Calls.quiet_of_same (HL.out _)))
  go_wp2_with fail
  go_ret
  first | exact ⟨rfl, bel_box0 _ _ _⟩ | exact ⟨rfl, bel_box _ _ _ _⟩ | exact ⟨ret_b gq, bel_box0 _ _ _⟩ | exact ⟨ret_b gq, bel_box _ _ _ _⟩ | exact ⟨ret_b (decide_eq_true g8), bel_box _ _ _ _⟩
set_option maxHeartbeats 4000000 in
theorem there_b4 (y m d h mi s ms : Int) (w : World) (h0 : ¬ y < 1970) (h1 : ¬ 9999 < y) (h2 : ¬ m < 1) (h3 : ¬ 12 < m) (h4 : ¬ d < 1) (L : Nat) (HL : Hid (∀ w, Calls Tryz.prog 70 #[.int .i64 y, .int .i64 m] w fun e w' => e = .returned (.int .i64 (L : Int)) ∧ w' = w)) (g0 : d ≤ (L : Int)) (g1 : 0 ≤ h) (g2 : h < 24) (g3 : 0 ≤ mi) (g4 : Hid (¬ (mi < 60))) : Calls Tryz.prog 68 #[dateV y m d h mi s ms] w fun e w' => e = .returned (.bool false) ∧ Below w.heap.size w w' := by
  unfold dateV
  go_enter Tryz.func68, Tryz.ntmps68
  go_wp2_with fail
  have gq : decide (mi < 60) = false := decide_eq_false (by have := g4.out; omega)
  go_quiet ((go_at_call 70; exact Calls.quiet_of_same (HL.out _)))
  go_wp2_with fail
  go_ret
  first | exact ⟨rfl, bel_box0 _ _ _⟩ | exact ⟨rfl, bel_box _ _ _ _⟩ | exact ⟨ret_b gq, bel_box0 _ _ _⟩ | exact ⟨ret_b gq, bel_box _ _ _ _⟩ | exact ⟨ret_b (decide_eq_true g8), bel_box _ _ _ _⟩
set_option maxHeartbeats 4000000 in
theorem there_b5 (y m d h mi s ms : Int) (w : World) (h0 : ¬ y < 1970) (h1 : ¬ 9999 < y) (h2 : ¬ m < 1) (h3 : ¬ 12 < m) (h4 : ¬ d < 1) (L : Nat) (HL : Hid (∀ w, Calls Tryz.prog 70 #[.int .i64 y, .int .i64 m] w fun e w' => e = .returned (.int .i64 (L : Int)) ∧ w' = w)) (g0 : d ≤ (L : Int)) (g1 : 0 ≤ h) (g2 : h < 24) (g3 : 0 ≤ mi) (g4 : mi < 60) (g5 : Hid (¬ (0 ≤ s))) : Calls Tryz.prog 68 #[dateV y m d h mi s ms] w fun e w' => e = .returned (.bool false) ∧ Below w.heap.size w w' := by
  unfold dateV
  go_enter Tryz.func68, Tryz.ntmps68
  go_wp2_with fail
  have gq : decide (0 ≤ s) = false := decide_eq_false (by have := g5.out; omega)
  go_quiet ((go_at_call 70; exact Calls.quiet_of_same (HL.out _)))
  go_wp2_with fail
  go_ret
  first | exact ⟨rfl, bel_box0 _ _ _⟩ | exact ⟨rfl, bel_box _ _ _ _⟩ | exact ⟨ret_b gq, bel_box0 _ _ _⟩ | exact ⟨ret_b gq, bel_box _ _ _ _⟩ | exact ⟨ret_b (decide_eq_true g8), bel_box _ _ _ _⟩
set_option maxHeartbeats 4000000 in
theorem there_b6 (y m d h mi s ms : Int) (w : World) (h0 : ¬ y < 1970) (h1 : ¬ 9999 < y) (h2 : ¬ m < 1) (h3 : ¬ 12 < m) (h4 : ¬ d < 1) (L : Nat) (HL : Hid (∀ w, Calls Tryz.prog 70 #[.int .i64 y, .int .i64 m] w fun e w' => e = .returned (.int .i64 (L : Int)) ∧ w' = w)) (g0 : d ≤ (L : Int)) (g1 : 0 ≤ h) (g2 : h < 24) (g3 : 0 ≤ mi) (g4 : mi < 60) (g5 : 0 ≤ s) (g6 : Hid (¬ (s < 60))) : Calls Tryz.prog 68 #[dateV y m d h mi s ms] w fun e w' => e = .returned (.bool false) ∧ Below w.heap.size w w' := by
  unfold dateV
  go_enter Tryz.func68, Tryz.ntmps68
  go_wp2_with fail
  have gq : decide (s < 60) = false := decide_eq_false (by have := g6.out; omega)
  go_quiet ((go_at_call 70; exact Calls.quiet_of_same (HL.out _)))
  go_wp2_with fail
  go_ret
  first | exact ⟨rfl, bel_box0 _ _ _⟩ | exact ⟨rfl, bel_box _ _ _ _⟩ | exact ⟨ret_b gq, bel_box0 _ _ _⟩ | exact ⟨ret_b gq, bel_box _ _ _ _⟩ | exact ⟨ret_b (decide_eq_true g8), bel_box _ _ _ _⟩
set_option maxHeartbeats 4000000 in
theorem there_b7 (y m d h mi s ms : Int) (w : World) (h0 : ¬ y < 1970) (h1 : ¬ 9999 < y) (h2 : ¬ m < 1) (h3 : ¬ 12 < m) (h4 : ¬ d < 1) (L : Nat) (HL : Hid (∀ w, Calls Tryz.prog 70 #[.int .i64 y, .int .i64 m] w fun e w' => e = .returned (.int .i64 (L : Int)) ∧ w' = w)) (g0 : d ≤ (L : Int)) (g1 : 0 ≤ h) (g2 : h < 24) (g3 : 0 ≤ mi) (g4 : mi < 60) (g5 : 0 ≤ s) (g6 : s < 60) (g7 : Hid (¬ (0 ≤ ms))) : Calls Tryz.prog 68 #[dateV y m d h mi s ms] w fun e w' => e = .returned (.bool false) ∧ Below w.heap.size w w' := by
  unfold dateV
  go_enter Tryz.func68, Tryz.ntmps68
  go_wp2_with fail
  have gq : decide (0 ≤ ms) = false := decide_eq_false (by have := g7.out; omega)
  go_quiet ((go_at_call 70; exact Calls.quiet_of_same (HL.out _)))
  go_wp2_with fail
  go_ret
  first | exact ⟨rfl, bel_box0 _ _ _⟩ | exact ⟨rfl, bel_box _ _ _ _⟩ | exact ⟨ret_b gq, bel_box0 _ _ _⟩ | exact ⟨ret_b gq, bel_box _ _ _ _⟩ | exact ⟨ret_b (decide_eq_true g8), bel_box _ _ _ _⟩
set_option maxHeartbeats 4000000 in
theorem there_b8 (y m d h mi s ms : Int) (w : World) (h0 : ¬ y < 1970) (h1 : ¬ 9999 < y) (h2 : ¬ m < 1) (h3 : ¬ 12 < m) (h4 : ¬ d < 1) (L : Nat) (HL : Hid (∀ w, Calls Tryz.prog 70 #[.int .i64 y, .int .i64 m] w fun e w' => e = .returned (.int .i64 (L : Int)) ∧ w' = w)) (g0 : d ≤ (L : Int)) (g1 : 0 ≤ h) (g2 : h < 24) (g3 : 0 ≤ mi) (g4 : mi < 60) (g5 : 0 ≤ s) (g6 : s < 60) (g7 : 0 ≤ ms) (g8 : Hid (¬ (ms < 1000))) : Calls Tryz.prog 68 #[dateV y m d h mi s ms] w fun e w' => e = .returned (.bool false) ∧ Below w.heap.size w w' := by
  unfold dateV
  go_enter Tryz.func68, Tryz.ntmps68
  go_wp2_with fail
  have gq : decide (ms < 1000) = false := decide_eq_false (by have := g8.out; omega)
  go_quiet ((go_at_call 70; exact Calls.quiet_of_same (HL.out _)))
  go_wp2_with fail
  go_ret
  first | exact ⟨rfl, bel_box0 _ _ _⟩ | exact ⟨rfl, bel_box _ _ _ _⟩ | exact ⟨ret_b gq, bel_box0 _ _ _⟩ | exact ⟨ret_b gq, bel_box _ _ _ _⟩ | exact ⟨ret_b (decide_eq_true g8), bel_box _ _ _ _⟩
set_option maxHeartbeats 4000000 in
theorem there_b9 (y m d h mi s ms : Int) (w : World) (h0 : ¬ y < 1970) (h1 : ¬ 9999 < y) (h2 : ¬ m < 1) (h3 : ¬ 12 < m) (h4 : ¬ d < 1) (L : Nat) (HL : Hid (∀ w, Calls Tryz.prog 70 #[.int .i64 y, .int .i64 m] w fun e w' => e = .returned (.int .i64 (L : Int)) ∧ w' = w)) (g0 : d ≤ (L : Int)) (g1 : 0 ≤ h) (g2 : h < 24) (g3 : 0 ≤ mi) (g4 : mi < 60) (g5 : 0 ≤ s) (g6 : s < 60) (g7 : 0 ≤ ms) (g8 : ms < 1000) : Calls Tryz.prog 68 #[dateV y m d h mi s ms] w fun e w' => e = .returned (.bool true) ∧ Below w.heap.size w w' := by
  unfold dateV
  go_enter Tryz.func68, Tryz.ntmps68
  go_wp2_with fail
  go_quiet ((go_at_call 70; exact Calls.quiet_of_same (HL.out _)))
  go_wp2_with fail
  go_ret
  first | exact ⟨rfl, bel_box0 _ _ _⟩ | exact ⟨rfl, bel_box _ _ _ _⟩ | exact ⟨ret_b gq, bel_box0 _ _ _⟩ | exact ⟨ret_b gq, bel_box _ _ _ _⟩ | exact ⟨ret_b (decide_eq_true g8), bel_box _ _ _ _⟩
theorem rThere_any (y m d h mi s ms : Int) (w : World) : Calls Tryz.prog 68 #[dateV y m d h mi s ms] w fun e w' => e = .returned (.bool (Mo.dayOK y m d && Mo.timeOK h mi s ms)) ∧ Below w.heap.size w w' := by
  by_cases h0 : y < 1970
  · rw [show (Mo.dayOK y m d && Mo.timeOK h mi s ms) = false by simp [Mo.dayOK]; omega]
    exact there_a0 y m d h mi s ms w h0
  by_cases h1 : 9999 < y
  · rw [show (Mo.dayOK y m d && Mo.timeOK h mi s ms) = false by simp [Mo.dayOK]; omega]
    exact there_a1 y m d h mi s ms w h0 h1
  by_cases h2 : m < 1
  · rw [show (Mo.dayOK y m d && Mo.timeOK h mi s ms) = false by simp [Mo.dayOK]; omega]
    exact there_a2 y m d h mi s ms w h0 h1 h2
  by_cases h3 : 12 < m
  · rw [show (Mo.dayOK y m d && Mo.timeOK h mi s ms) = false by simp [Mo.dayOK]; omega]
    exact there_a3 y m d h mi s ms w h0 h1 h2 h3
  by_cases h4 : d < 1
  · rw [show (Mo.dayOK y m d && Mo.timeOK h mi s ms) = false by simp [Mo.dayOK]; omega]
    exact there_a4 y m d h mi s ms w h0 h1 h2 h3 h4
  obtain ⟨yn, rfl⟩ := Int.eq_ofNat_of_zero_le (show 0 ≤ y by omega)
  obtain ⟨mn, rfl⟩ := Int.eq_ofNat_of_zero_le (show 0 ≤ m by omega)
  have HL := Hid.mk' (fun w => rLong_any yn mn w (by omega) (by omega) (by omega))
  have e : (Mo.dayOK (yn : Int) (mn : Int) d && Mo.timeOK h mi s ms) = decide (d ≤ ((Mo.md yn mn : Nat) : Int) ∧ 0 ≤ h ∧ h < 24 ∧ 0 ≤ mi ∧ mi < 60 ∧ 0 ≤ s ∧ s < 60 ∧ 0 ≤ ms ∧ ms < 1000) := by
    rw [Bool.eq_iff_iff]
    simp only [Mo.dayOK, Mo.timeOK, Int.toNat_natCast, decide_eq_true_eq, Bool.and_eq_true]
    omega
  rw [e]
  clear e
  generalize Mo.md yn mn = L at *
  by_cases g0 : d ≤ (L : Int)
  case neg =>
    rw [decide_eq_false (by omega)]
    exact there_b0 _ _ d h mi s ms w h0 h1 h2 h3 h4 L HL  (Hid.mk' g0)
  by_cases g1 : 0 ≤ h
  case neg =>
    rw [decide_eq_false (by omega)]
    exact there_b1 _ _ d h mi s ms w h0 h1 h2 h3 h4 L HL g0 (Hid.mk' g1)
  by_cases g2 : h < 24
  case neg =>
    rw [decide_eq_false (by omega)]
    exact there_b2 _ _ d h mi s ms w h0 h1 h2 h3 h4 L HL g0 g1 (Hid.mk' g2)
  by_cases g3 : 0 ≤ mi
  case neg =>
    rw [decide_eq_false (by omega)]
    exact there_b3 _ _ d h mi s ms w h0 h1 h2 h3 h4 L HL g0 g1 g2 (Hid.mk' g3)
  by_cases g4 : mi < 60
  case neg =>
    rw [decide_eq_false (by omega)]
    exact there_b4 _ _ d h mi s ms w h0 h1 h2 h3 h4 L HL g0 g1 g2 g3 (Hid.mk' g4)
  by_cases g5 : 0 ≤ s
  case neg =>
    rw [decide_eq_false (by omega)]
    exact there_b5 _ _ d h mi s ms w h0 h1 h2 h3 h4 L HL g0 g1 g2 g3 g4 (Hid.mk' g5)
  by_cases g6 : s < 60
  case neg =>
    rw [decide_eq_false (by omega)]
    exact there_b6 _ _ d h mi s ms w h0 h1 h2 h3 h4 L HL g0 g1 g2 g3 g4 g5 (Hid.mk' g6)
  by_cases g7 : 0 ≤ ms
  case neg =>
    rw [decide_eq_false (by omega)]
    exact there_b7 _ _ d h mi s ms w h0 h1 h2 h3 h4 L HL g0 g1 g2 g3 g4 g5 g6 (Hid.mk' g7)
  by_cases g8 : ms < 1000
  case neg =>
    rw [decide_eq_false (by omega)]
    exact there_b8 _ _ d h mi s ms w h0 h1 h2 h3 h4 L HL g0 g1 g2 g3 g4 g5 g6 g7 (Hid.mk' g8)
  rw [decide_eq_true (by omega)]
  exact there_b9 _ _ d h mi s ms w h0 h1 h2 h3 h4 L HL g0 g1 g2 g3 g4 g5 g6 g7 g8
end Go.Proofs.YthmpokndffbkdaaGreatDoor
