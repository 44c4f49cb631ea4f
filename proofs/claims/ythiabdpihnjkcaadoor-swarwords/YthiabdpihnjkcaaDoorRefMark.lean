/-
  What the reference's marked, Zeros, Equal and Below do: marks made of eight answers. No conditions but that a word is a word and a byte a byte.
-/
import Derived.Test.YthiabdpihnjkcaaDoorRefKern
namespace Go.Proofs.YthiabdpihnjkcaaDoor
open Go.RowKit
set_option linter.unusedVariables false
abbrev boolCells (bs : List Bool) : Array Value := (bs.map Value.bool).toArray
theorem bool_cell (b0 b1 b2 b3 b4 b5 b6 b7 : Bool) (w : World) (T : TypeId) (j : Nat) (h0 : 0 < j) (h8 : j ≤ 8) :
    (w.alloc (.cells #[.bool b0, .bool b1, .bool b2, .bool b3, .bool b4, .bool b5, .bool b6, .bool b7] T)).cell? ⟨w.heap.size, j - 1, none⟩ = some (.bool ([b0, b1, b2, b3, b4, b5, b6, b7].getD (j - 1) false)) := by
  have hj : j = 1 ∨ j = 2 ∨ j = 3 ∨ j = 4 ∨ j = 5 ∨ j = 6 ∨ j = 7 ∨ j = 8 := by omega
  rcases hj with rfl | rfl | rfl | rfl | rfl | rfl | rfl | rfl <;> simp [go_sem]
theorem or_128 (X : Nat) (hX : X < 72057594037927936) : bits .or .u64 ((X : Int) * 256) 128 = ((128 + 256 * X : Nat) : Int) := or_up X 128 hX (by omega)
set_option maxHeartbeats 400000 in
theorem marked_any (b0 b1 b2 b3 b4 b5 b6 b7 : Bool) (w : World) :
    Calls Tryd.prog 41 #[.agg #[.bool b0, .bool b1, .bool b2, .bool b3, .bool b4, .bool b5, .bool b6, .bool b7]] w fun e w' => e = .returned (.int .u64 (Swar.markL [b0, b1, b2, b3, b4, b5, b6, b7] : Nat)) ∧ Below w.heap.size w w' := by
  go_enter Tryd.func41, Tryd.ntmps41
  go_wp2
  go_loop [3, 4] (fun t i => ∃ j : Nat, j ≤ 8 ∧ i = .int .i64 ((j : Int) - 1) ∧ t = .int .u64 (Swar.markFrom [b0, b1, b2, b3, b4, b5, b6, b7] j : Nat)) (fun _ i => (intOf i + 1).toNat)
  case atStart => exact ⟨8, by omega, rfl, rfl⟩
  case round =>
    obtain ⟨j, hj, rfl, rfl⟩ := hrel
    by_cases hlt : 0 < j
    · have hX := Swar.pow_lt56 j hlt hj _ (Swar.markFrom_lt [b0, b1, b2, b3, b4, b5, b6, b7] j)
      have hst := Swar.markFrom_step [b0, b1, b2, b3, b4, b5, b6, b7] (j - 1) (by simp; omega)
      have hj1 : (0 : Int) ≤ (j : Int) - 1 := by omega
      have hc := fun T => bool_cell b0 b1 b2 b3 b4 b5 b6 b7 w T j hlt hj
      have HST : Hid (Swar.markFrom [b0, b1, b2, b3, b4, b5, b6, b7] (j - 1) = (if [b0, b1, b2, b3, b4, b5, b6, b7].getD (j - 1) false then 128 else 0) + 256 * Swar.markFrom [b0, b1, b2, b3, b4, b5, b6, b7] j) := by
        have e : j - 1 + 1 = j := by omega
        rw [e] at hst; exact hst
      clear hst
      generalize [b0, b1, b2, b3, b4, b5, b6, b7].getD (j - 1) false = b at hc HST
      cases b
      · go_wp2_with fail
        go_round
        case rel =>
          refine ⟨j - 1, by omega, by go_num, ?_⟩
          rw [HST.out]
          exact int_u64 (by simp; omega)
        case measure => simp [intOf]; omega
      · go_wp2_with fail
        go_round
        case rel =>
          refine ⟨j - 1, by omega, by go_num, ?_⟩
          rw [HST.out]
          exact int_u64 (or_128 _ hX)
        case measure => simp [intOf]; omega
    · have e0 : j = 0 := by omega
      subst e0
      go_wp2
      go_ret
      exact ⟨rfl, (Below.refl _ _).alloc (Nat.le_refl _) _⟩
theorem beq_cast (a b : Nat) : ((a : Int) == (b : Int)) = (a == b) := by
  by_cases h : a = b
  · subst h; simp
  · have h1 : ((a : Int) == (b : Int)) = false := by simp; omega
    have h2 : (a == b) = false := by simp; omega
    rw [h1, h2]
theorem lt_cast (a b : Nat) : decide ((a : Int) < (b : Int)) = decide (a < b) := by
  by_cases h : a < b
  · rw [decide_eq_true h, decide_eq_true (by omega)]
  · rw [decide_eq_false h, decide_eq_false (by omega)]
set_option maxHeartbeats 2000000 in
theorem refZeros_any (v : Nat) (w : World) (hv : v < 18446744073709551616) :
    Calls Tryd.prog 12 #[.int .u64 (v : Int)] w fun e w' => e = .returned (.int .u64 (Swar.zerosL v : Nat)) ∧ Below w.heap.size w w' := by
  go_enter Tryd.func12, Tryd.ntmps12
  go_wp2
  refine wp_loop_rounds 9 ?_
  rw [rounds_succ]
  go_wp2_with fail
  refine (byte_any v 0 _ hv (by omega) (by omega)).mono ?_
  rintro e w' ⟨rfl, rfl⟩
  go_wp2_with fail
  rw [rounds_succ]
  go_wp2_with fail
  refine (byte_any v 1 _ hv (by omega) (by omega)).mono ?_
  rintro e w' ⟨rfl, rfl⟩
  go_wp2_with fail
  rw [rounds_succ]
  go_wp2_with fail
  refine (byte_any v 2 _ hv (by omega) (by omega)).mono ?_
  rintro e w' ⟨rfl, rfl⟩
  go_wp2_with fail
  rw [rounds_succ]
  go_wp2_with fail
  refine (byte_any v 3 _ hv (by omega) (by omega)).mono ?_
  rintro e w' ⟨rfl, rfl⟩
  go_wp2_with fail
  rw [rounds_succ]
  go_wp2_with fail
  refine (byte_any v 4 _ hv (by omega) (by omega)).mono ?_
  rintro e w' ⟨rfl, rfl⟩
  go_wp2_with fail
  rw [rounds_succ]
  go_wp2_with fail
  refine (byte_any v 5 _ hv (by omega) (by omega)).mono ?_
  rintro e w' ⟨rfl, rfl⟩
  go_wp2_with fail
  rw [rounds_succ]
  go_wp2_with fail
  refine (byte_any v 6 _ hv (by omega) (by omega)).mono ?_
  rintro e w' ⟨rfl, rfl⟩
  go_wp2_with fail
  rw [rounds_succ]
  go_wp2_with fail
  refine (byte_any v 7 _ hv (by omega) (by omega)).mono ?_
  rintro e w' ⟨rfl, rfl⟩
  go_wp2_with fail
  rw [rounds_succ]
  go_wp2_with fail
  refine (marked_any _ _ _ _ _ _ _ _ _).mono ?_
  rintro e w' ⟨rfl, hb⟩
  go_wp2_with fail
  go_ret
  refine ⟨ret_u64 ?_, ((Below.refl _ _).alloc (Nat.le_refl _) _).trans (hb.mono (by simp))⟩
  rw [Swar.markL_zeros]
  have h0 : ∀ n : Nat, ((n : Int) == 0) = (n == 0) := fun n => beq_cast n 0
  simp only [h0]
set_option maxHeartbeats 2000000 in
theorem refBelow_any (v c : Nat) (w : World) (hv : v < 18446744073709551616) (hc : c < 256) :
    Calls Tryd.prog 16 #[.int .u64 (v : Int), .int .u8 (c : Int)] w fun e w' => e = .returned (.int .u64 (Swar.belowL v c : Nat)) ∧ Below w.heap.size w w' := by
  go_enter Tryd.func16, Tryd.ntmps16
  go_wp2
  refine wp_loop_rounds 9 ?_
  rw [rounds_succ]
  go_wp2_with fail
  refine (byte_any v 0 _ hv (by omega) (by omega)).mono ?_
  rintro e w' ⟨rfl, rfl⟩
  go_wp2_with fail
  rw [rounds_succ]
  go_wp2_with fail
  refine (byte_any v 1 _ hv (by omega) (by omega)).mono ?_
  rintro e w' ⟨rfl, rfl⟩
  go_wp2_with fail
  rw [rounds_succ]
  go_wp2_with fail
  refine (byte_any v 2 _ hv (by omega) (by omega)).mono ?_
  rintro e w' ⟨rfl, rfl⟩
  go_wp2_with fail
  rw [rounds_succ]
  go_wp2_with fail
  refine (byte_any v 3 _ hv (by omega) (by omega)).mono ?_
  rintro e w' ⟨rfl, rfl⟩
  go_wp2_with fail
  rw [rounds_succ]
  go_wp2_with fail
  refine (byte_any v 4 _ hv (by omega) (by omega)).mono ?_
  rintro e w' ⟨rfl, rfl⟩
  go_wp2_with fail
  rw [rounds_succ]
  go_wp2_with fail
  refine (byte_any v 5 _ hv (by omega) (by omega)).mono ?_
  rintro e w' ⟨rfl, rfl⟩
  go_wp2_with fail
  rw [rounds_succ]
  go_wp2_with fail
  refine (byte_any v 6 _ hv (by omega) (by omega)).mono ?_
  rintro e w' ⟨rfl, rfl⟩
  go_wp2_with fail
  rw [rounds_succ]
  go_wp2_with fail
  refine (byte_any v 7 _ hv (by omega) (by omega)).mono ?_
  rintro e w' ⟨rfl, rfl⟩
  go_wp2_with fail
  rw [rounds_succ]
  go_wp2_with fail
  refine (marked_any _ _ _ _ _ _ _ _ _).mono ?_
  rintro e w' ⟨rfl, hb⟩
  go_wp2_with fail
  go_ret
  refine ⟨ret_u64 ?_, ((Below.refl _ _).alloc (Nat.le_refl _) _).trans (hb.mono (by simp))⟩
  rw [Swar.markL_below]
set_option maxHeartbeats 2000000 in
theorem refEqual_any (a b : Nat) (w : World) (ha : a < 18446744073709551616) (hb : b < 18446744073709551616) :
    Calls Tryd.prog 14 #[.int .u64 (a : Int), .int .u64 (b : Int)] w fun e w' => e = .returned (.int .u64 (Swar.equalL a b : Nat)) ∧ Below w.heap.size w w' := by
  go_enter Tryd.func14, Tryd.ntmps14
  go_wp2
  refine wp_loop_rounds 9 ?_
  rw [rounds_succ]
  go_wp2_with fail
  refine (byte_any a 0 _ ha (by omega) (by omega)).mono ?_
  rintro e w' ⟨rfl, rfl⟩
  go_wp2_with fail
  refine (byte_any b 0 _ hb (by omega) (by omega)).mono ?_
  rintro e w' ⟨rfl, rfl⟩
  go_wp2_with fail
  rw [rounds_succ]
  go_wp2_with fail
  refine (byte_any a 1 _ ha (by omega) (by omega)).mono ?_
  rintro e w' ⟨rfl, rfl⟩
  go_wp2_with fail
  refine (byte_any b 1 _ hb (by omega) (by omega)).mono ?_
  rintro e w' ⟨rfl, rfl⟩
  go_wp2_with fail
  rw [rounds_succ]
  go_wp2_with fail
  refine (byte_any a 2 _ ha (by omega) (by omega)).mono ?_
  rintro e w' ⟨rfl, rfl⟩
  go_wp2_with fail
  refine (byte_any b 2 _ hb (by omega) (by omega)).mono ?_
  rintro e w' ⟨rfl, rfl⟩
  go_wp2_with fail
  rw [rounds_succ]
  go_wp2_with fail
  refine (byte_any a 3 _ ha (by omega) (by omega)).mono ?_
  rintro e w' ⟨rfl, rfl⟩
  go_wp2_with fail
  refine (byte_any b 3 _ hb (by omega) (by omega)).mono ?_
  rintro e w' ⟨rfl, rfl⟩
  go_wp2_with fail
  rw [rounds_succ]
  go_wp2_with fail
  refine (byte_any a 4 _ ha (by omega) (by omega)).mono ?_
  rintro e w' ⟨rfl, rfl⟩
  go_wp2_with fail
  refine (byte_any b 4 _ hb (by omega) (by omega)).mono ?_
  rintro e w' ⟨rfl, rfl⟩
  go_wp2_with fail
  rw [rounds_succ]
  go_wp2_with fail
  refine (byte_any a 5 _ ha (by omega) (by omega)).mono ?_
  rintro e w' ⟨rfl, rfl⟩
  go_wp2_with fail
  refine (byte_any b 5 _ hb (by omega) (by omega)).mono ?_
  rintro e w' ⟨rfl, rfl⟩
  go_wp2_with fail
  rw [rounds_succ]
  go_wp2_with fail
  refine (byte_any a 6 _ ha (by omega) (by omega)).mono ?_
  rintro e w' ⟨rfl, rfl⟩
  go_wp2_with fail
  refine (byte_any b 6 _ hb (by omega) (by omega)).mono ?_
  rintro e w' ⟨rfl, rfl⟩
  go_wp2_with fail
  rw [rounds_succ]
  go_wp2_with fail
  refine (byte_any a 7 _ ha (by omega) (by omega)).mono ?_
  rintro e w' ⟨rfl, rfl⟩
  go_wp2_with fail
  refine (byte_any b 7 _ hb (by omega) (by omega)).mono ?_
  rintro e w' ⟨rfl, rfl⟩
  go_wp2_with fail
  rw [rounds_succ]
  go_wp2_with fail
  refine (marked_any _ _ _ _ _ _ _ _ _).mono ?_
  rintro e w' ⟨rfl, hbb⟩
  go_wp2_with fail
  go_ret
  refine ⟨ret_u64 ?_, ((Below.refl _ _).alloc (Nat.le_refl _) _).trans (hbb.mono (by simp))⟩
  rw [Swar.markL_equal]
  simp only [beq_cast]
end Go.Proofs.YthiabdpihnjkcaaDoor
