/-
  What swar.Load and the reference's Load do: each returns the word of the eight bytes from the place on, noughts beyond the ends. Conditions: the text is no longer than any text can be, the place is an int.
-/
import Derived.Test.YtgedikbdnkcfiaaChecked
import Derived.Test.YtgedikbdnkcfiaaWords
import Derived.WalkKit
import Derived.WalkSpells
import Derived.WalkLawsBesides
import Derived.Deep.QuietTactic
import Derived.BigQuiet
import Derived.Lib.EndianBits
import Derived.Laws.BitsAllLaws
namespace Go.Proofs.Ytgedikbdnkcfiaa
open Go.RowKit
theorem ret_u64 {a b : Int} (h : a = b) : Ending.returned (.int .u64 a) = .returned (.int .u64 b) := by rw [h]
theorem int_u64 {a b : Int} (h : a = b) : Value.int .u64 a = Value.int .u64 b := by rw [h]
theorem or_up (X b : Nat) (hX : X < 72057594037927936) (hb : b < 256) : bits .or .u64 ((X : Int) * 256) (b : Int) = ((b + 256 * X : Nat) : Int) := by
  have e : (X : Int) * 256 = ((X * 256 : Nat) : Int) := by omega
  rw [e, u64_or_nat _ _ (by omega) (by omega), nat_join 8 _ _ (by omega) (by omega)]
  omega
theorem or_upI (x b : Int) (hx0 : 0 ≤ x) (hx : x < 72057594037927936) (hb0 : 0 ≤ b) (hb : b < 256) : bits .or .u64 (x * 256) b = x * 256 + b := by
  obtain ⟨X, rfl⟩ := Int.eq_ofNat_of_zero_le hx0
  obtain ⟨B, rfl⟩ := Int.eq_ofNat_of_zero_le hb0
  rw [or_up X B (by omega) (by omega)]
  omega
theorem or_zeroI (b : Int) (hb0 : 0 ≤ b) (hb : b < 256) : bits .or .u64 0 b = b := by
  have h := or_upI 0 b (by omega) (by omega) hb0 hb
  simpa using h
theorem wrap_up (X : Nat) (hX : X < 72057594037927936) : IntKind.u64.wrap ((X : Int) * 256) = (X : Int) * 256 := by
  rw [IntKind.wrap_u64]; omega
theorem wrap_byte (b : Nat) (hb : b < 256) : IntKind.u64.wrap (b : Int) = (b : Int) := by
  rw [IntKind.wrap_u64]; omega
set_option maxHeartbeats 400000 in
theorem whole_any (s : ByteArray) (w : World) (hs : s.size ≤ maxLen) (h8 : (7 : Int) < (s.size : Int)) :
    Calls Try.prog 6 #[.string s] w fun e w' => e = .returned (.int .u64 (Swar.ldL s 0 : Nat)) ∧ ∃ n, w' = w.drewN n := by
  unfold maxLen at hs
  have h0 : 0 < s.size := by omega
  have h1 : (1 : Int) < (s.size : Int) := by omega
  have h2 : (2 : Int) < (s.size : Int) := by omega
  have h3 : (3 : Int) < (s.size : Int) := by omega
  have h4 : (4 : Int) < (s.size : Int) := by omega
  have h5 : (5 : Int) < (s.size : Int) := by omega
  have h6 : (6 : Int) < (s.size : Int) := by omega
  go_enter Try.func6, Try.ntmps6
  go_wp2
  go_quiet (fail)
  go_wp2
  go_ret
  refine ⟨ret_u64 ?_, nq, rfl⟩
  have b0 := UInt8.toNat_lt (s[0]'h0)
  have b1 := UInt8.toNat_lt (s[1]'(by omega))
  have b2 := UInt8.toNat_lt (s[2]'(by omega))
  have b3 := UInt8.toNat_lt (s[3]'(by omega))
  have b4 := UInt8.toNat_lt (s[4]'(by omega))
  have b5 := UInt8.toNat_lt (s[5]'(by omega))
  have b6 := UInt8.toNat_lt (s[6]'(by omega))
  have b7 := UInt8.toNat_lt (s[7]'(by omega))
  have hv : ((Swar.ldL s 0 : Nat) : Int) = ((s[0]'h0).toNat : Int) + ((s[1]'(by omega)).toNat : Int) * 256 + ((s[2]'(by omega)).toNat : Int) * 65536 + ((s[3]'(by omega)).toNat : Int) * 16777216 + ((s[4]'(by omega)).toNat : Int) * 4294967296 + ((s[5]'(by omega)).toNat : Int) * 1099511627776 + ((s[6]'(by omega)).toNat : Int) * 281474976710656 + ((s[7]'(by omega)).toNat : Int) * 72057594037927936 := by
    rw [Swar.ldL_zero, Swar.bt_in (i := 0) (by omega), Swar.bt_in (i := 1) (by omega), Swar.bt_in (i := 2) (by omega), Swar.bt_in (i := 3) (by omega), Swar.bt_in (i := 4) (by omega), Swar.bt_in (i := 5) (by omega), Swar.bt_in (i := 6) (by omega), Swar.bt_in (i := 7) (by omega)]
    omega
  simp (disch := omega) only [u64_wrap_id, u64_or8, u64_or16, u64_or24, u64_or32, u64_or40, u64_or48, u64_or56]
  omega

theorem tail_end (s : ByteArray) (h7 : s.size ≤ 7) : Swar.ldL s 0 = Swar.bt s 0 + 256 * (Swar.bt s 1 + 256 * (Swar.bt s 2 + 256 * (Swar.bt s 3 + 256 * (Swar.bt s 4 + 256 * (Swar.bt s 5 + 256 * Swar.bt s 6))))) := by
  rw [Swar.ldL_zero, Swar.bt_out (i := 7) (by omega)]
  omega
set_option maxHeartbeats 1000000 in
theorem tail_any (s : ByteArray) (w : World) (h1 : 1 ≤ s.size) (h7 : s.size ≤ 7) :
    Calls Try.prog 8 #[.string s] w fun e w' => e = .returned (.int .u64 (Swar.ldL s 0 : Nat)) ∧ w' = w := by
  have hc : s.size = 1 ∨ s.size = 2 ∨ s.size = 3 ∨ s.size = 4 ∨ s.size = 5 ∨ s.size = 6 ∨ s.size = 7 := by omega
  have b0 := Swar.bt_lt s 0
  have b1 := Swar.bt_lt s 1
  have b2 := Swar.bt_lt s 2
  have b3 := Swar.bt_lt s 3
  have b4 := Swar.bt_lt s 4
  have b5 := Swar.bt_lt s 5
  have b6 := Swar.bt_lt s 6
  rcases hc with hc | hc | hc | hc | hc | hc | hc
  all_goals
    go_enter Try.func8, Try.ntmps8
    go_wp2
    go_ret
    refine ⟨ret_u64 ?_, rfl⟩
    rw [tail_end s h7]
    simp only [← Swar.bt_in]
    simp (disch := omega) only [u64_wrap_id, or_upI, or_zeroI]
    have z : ∀ i, s.size ≤ i → Swar.bt s i = 0 := fun i h => Swar.bt_out h
    have z1 := z 1
    have z2 := z 2
    have z3 := z 3
    have z4 := z 4
    have z5 := z 5
    have z6 := z 6
    omega

set_option maxHeartbeats 400000 in
/-- the reference's Load -/
theorem refLoad_any (s : ByteArray) (a : Int) (w : World) (hs : s.size ≤ 140737488355328) (ha : -9223372036854775808 ≤ a) (ha' : a ≤ 9223372036854775807) :
    Calls Try.prog 5 #[.string s, .int .i64 a] w fun e w' => e = .returned (.int .u64 (Swar.ldL s a : Nat)) ∧ w' = w := by
  by_cases h1 : a < -7
  · have hz := Swar.ldL_out s a (.inl (by omega))
    rw [hz]
    go_enter Try.func5, Try.ntmps5
    go_wp2
    go_ret
    exact ⟨rfl, rfl⟩
  by_cases h2 : (s.size : Int) ≤ a
  · have hz := Swar.ldL_out s a (.inr h2)
    rw [hz]
    go_enter Try.func5, Try.ntmps5
    go_wp2
    go_ret
    exact ⟨rfl, rfl⟩
  have h1' : -7 ≤ a := by omega
  have h2' : a < (s.size : Int) := by omega
  clear h1 h2 ha ha'
  go_enter Try.func5, Try.ntmps5
  go_wp2
  go_loop [5, 6, 7] (fun t i _ => ∃ j : Nat, j ≤ 8 ∧ i = .int .i64 ((j : Int) - 1) ∧ t = .int .u64 (Swar.ldFrom s a j : Nat)) (fun _ i _ => (intOf i + 1).toNat)
  case atStart => exact ⟨8, by omega, rfl, by rw [Swar.ldFrom_8]; rfl⟩
  case round =>
    obtain ⟨j, hj, rfl, rfl⟩ := hrel
    by_cases hlt : (0 : Int) ≤ (j : Int) - 1
    · have hst := Swar.ldFrom_step s a (j - 1) (by omega)
      have hlt2 := Swar.ldFrom_lt s a j
      have e1 : j - 1 + 1 = j := by omega
      rw [e1] at hst
      have e2 : a + ((j - 1 : Nat) : Int) = a + ((j : Int) - 1) := by omega
      rw [e2] at hst
      have hle : 256 ^ (8 - j) ≤ 256 ^ 7 ∨ j = 0 := by
        by_cases h0 : j = 0
        · exact .inr h0
        · exact .inl (Nat.pow_le_pow_right (by omega) (by omega))
      have hX : Swar.ldFrom s a j < 72057594037927936 := by
        rcases hle with h | h
        · have : (256 : Nat) ^ 7 = 72057594037927936 := by decide
          omega
        · omega
      have hcl := Swar.cell_lt s (a + ((j : Int) - 1))
      clear hle hlt2 e1 e2
      have HST : Hid (Swar.ldFrom s a (j - 1) = Swar.cell s (a + ((j : Int) - 1)) + 256 * Swar.ldFrom s a j) := hst
      clear hst
      by_cases hc : 0 ≤ a + ((j : Int) - 1) ∧ a + ((j : Int) - 1) < (s.size : Int)
      · obtain ⟨c1, c2⟩ := hc
        go_wp2
        go_round
        case rel =>
          refine ⟨j - 1, by omega, by go_num, ?_⟩
          rw [HST.out]
          exact int_u64 (by rw [Swar.cell_in s _ c1 c2]; exact (congrArg _ (wrap_byte _ (UInt8.toNat_lt _))).trans (or_up _ _ hX (UInt8.toNat_lt _)))
        case measure => simp [intOf]; omega
      · have hz : Swar.cell s (a + ((j : Int) - 1)) = 0 := by
          by_cases h : a + ((j : Int) - 1) < 0
          · exact Swar.cell_neg _ _ h
          · exact Swar.cell_out _ _ (by omega)
        rw [hz] at HST
        by_cases c1 : 0 ≤ a + ((j : Int) - 1)
        · have c2 : ¬ a + ((j : Int) - 1) < (s.size : Int) := by omega
          clear hc hz
          go_wp2
          go_round
          case rel =>
            refine ⟨j - 1, by omega, by go_num, ?_⟩
            rw [HST.out]
            exact int_u64 (or_up _ 0 hX (by omega))
          case measure => simp [intOf]; omega
        · clear hc hz
          go_wp2
          go_round
          case rel =>
            refine ⟨j - 1, by omega, by go_num, ?_⟩
            rw [HST.out]
            exact int_u64 (or_up _ 0 hX (by omega))
          case measure => simp [intOf]; omega
    · have e0 : j = 0 := by omega
      subst e0
      go_wp2
      go_ret
      exact ⟨rfl, rfl⟩

end Go.Proofs.Ytgedikbdnkcfiaa
