/-
  What swar.edge and swar.Load do: Load returns the word of the eight bytes from the place on, noughts beyond the ends. Conditions: the text is no longer than any text that is read can be, the place is an int.
-/
import Derived.Test.YtlbfnchjbpioeaaLoad
namespace Go.Proofs.Ytlbfnchjbpioeaa
open Go.RowKit
set_option linter.unusedVariables false
set_option maxHeartbeats 400000 in
theorem edge_in (s : ByteArray) (a : Nat) (w : World) (hs : s.size ≤ 1125899906842624) (h8 : s.size < a + 8) (ha : a ≤ 9223372036854775807) :
    Calls Try.prog 49 #[.string s, .int .i64 (a : Int)] w fun e w' => e = .returned (.int .u64 (Swar.ldL s a : Nat)) ∧ w' = w := by
  by_cases h : s.size ≤ a
  · have hz := Swar.ldL_out s a (.inr (by omega))
    rw [hz]
    go_enter Try.func49, Try.ntmps49
    go_wp2
    go_ret
    exact ⟨rfl, rfl⟩
  · go_enter Try.func49, Try.ntmps49
    go_wp2_with fail
    refine (tail_any (s.extract a s.size) w (by simp; omega) (by simp; omega)).mono ?_
    rintro e w' ⟨rfl, rfl⟩
    go_wp2_with fail
    go_ret
    exact ⟨ret_u64 (by rw [Swar.ldL_extract s a (by omega)]), rfl⟩
set_option maxHeartbeats 400000 in
theorem load_in (s : ByteArray) (a : Nat) (w : World) (hs : s.size ≤ 1125899906842624) (ha : a ≤ 9223372036854775807) :
    Calls Try.prog 37 #[.string s, .int .i64 (a : Int)] w fun e w' => e = .returned (.int .u64 (Swar.ldL s a : Nat)) ∧ ∃ n, w' = w.drewN n := by
  by_cases h : a + 8 ≤ s.size
  · have h' : (a : Int) ≤ (s.size : Int) - 8 := by omega
    go_enter Try.func37, Try.ntmps37
    go_wp2_with fail
    refine (whole_any (s.extract a s.size) w (by unfold maxLen; simp; omega) (by simp; omega)).mono ?_
    rintro e w' ⟨rfl, n, rfl⟩
    go_wp2_with fail
    go_ret
    exact ⟨ret_u64 (by rw [Swar.ldL_extract s a (by omega)]), n, rfl⟩
  · have h' : ¬ (a : Int) ≤ (s.size : Int) - 8 := by omega
    go_enter Try.func37, Try.ntmps37
    go_wp2_with fail
    refine (edge_in s a w hs (by omega) ha).mono ?_
    rintro e w' ⟨rfl, rfl⟩
    go_wp2_with fail
    go_ret
    exact ⟨rfl, 0, rfl⟩
theorem edge_shift (X : Nat) (j : Nat) (h1 : 1 ≤ j) (h2 : j < 8) (c : Int) (hc : c = 8 * (j : Int)) : IntKind.u64.wrap ((X : Int) * 2 ^ c.toNat) = ((X * 256 ^ j % 18446744073709551616 : Nat) : Int) := by
  subst hc
  have hj : j = 1 ∨ j = 2 ∨ j = 3 ∨ j = 4 ∨ j = 5 ∨ j = 6 ∨ j = 7 := by omega
  rw [IntKind.wrap_u64]
  rcases hj with rfl | rfl | rfl | rfl | rfl | rfl | rfl <;> simp <;> omega
set_option maxHeartbeats 400000 in
theorem edge_ahead (s : ByteArray) (a : Int) (w : World) (hs : s.size ≤ 1125899906842624) (ha : a < 0) (hl : -9223372036854775808 ≤ a) :
    Calls Try.prog 49 #[.string s, .int .i64 a] w fun e w' => e = .returned (.int .u64 (Swar.ldL s a : Nat)) ∧ ∃ n, w' = w.drewN n := by
  by_cases h : a ≤ -8
  · have hz := Swar.ldL_out s a (.inl h)
    rw [hz]
    go_enter Try.func49, Try.ntmps49
    go_wp2
    go_ret
    exact ⟨rfl, 0, rfl⟩
  · have h0 : ¬ (s.size : Int) ≤ a := by omega
    have h8 : -8 < a := by omega
    go_enter Try.func49, Try.ntmps49
    go_wp2_with fail
    refine (load_in s 0 w hs (by omega)).mono ?_
    rintro e w' ⟨rfl, n, rfl⟩
    go_wp2_with fail
    go_ret
    refine ⟨ret_u64 ?_, n, rfl⟩
    obtain ⟨j, hj⟩ : ∃ j : Nat, a = -(j : Int) := ⟨(-a).toNat, by omega⟩
    rw [edge_shift (Swar.ldL s 0) j (by omega) (by omega) (8 * -a) (by omega), hj, Swar.ldL_ahead s j (by omega) (by omega)]
set_option maxHeartbeats 400000 in
/-- swar.Load, wherever -/
theorem load_any (s : ByteArray) (a : Int) (w : World) (hs : s.size ≤ 1125899906842624) (hl : -9223372036854775808 ≤ a) (hh : a ≤ 9223372036854775807) :
    Calls Try.prog 37 #[.string s, .int .i64 a] w fun e w' => e = .returned (.int .u64 (Swar.ldL s a : Nat)) ∧ ∃ n, w' = w.drewN n := by
  by_cases h : 0 ≤ a
  · obtain ⟨k, rfl⟩ := Int.eq_ofNat_of_zero_le h
    exact load_in s k w hs (by omega)
  · have h' : ¬ (0 : Int) ≤ a := h
    have h0 : a < 0 := by omega
    go_enter Try.func37, Try.ntmps37
    go_wp2_with fail
    refine (edge_ahead s a w hs h0 hl).mono ?_
    rintro e w' ⟨rfl, n, rfl⟩
    go_wp2_with fail
    go_ret
    exact ⟨rfl, n, rfl⟩

end Go.Proofs.Ytlbfnchjbpioeaa
