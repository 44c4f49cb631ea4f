/-
  What swar.whole and swar.tail do: each returns the word of the eight bytes of its text, noughts behind its end. Conditions: the text is no longer than any text can be, the place is an int.
-/
import Derived.Test.YtlbfnchjbpioeaaChecked
import Derived.Test.YtlbfnchjbpioeaaWords
import Derived.WalkKit
import Derived.WalkSpells
import Derived.WalkLawsBesides
import Derived.Deep.QuietTactic
import Derived.BigQuiet
import Derived.Lib.EndianBits
import Derived.Laws.BitsAllLaws
namespace Go.Proofs.Ytlbfnchjbpioeaa
open Go.RowKit
theorem ret_u64 {a b : Int} (h : a = b) : Ending.returned (.int .u64 a) = .returned (.int .u64 b) := by rw [h]
theorem int_u64 {a b : Int} (h : a = b) : Value.int .u64 a = Value.int .u64 b := by rw [h]
theorem or_up (X b : Nat) (hX : X < 72057594037927936) (hb : b < 256) : bits .or .u64 ((X : Int) * 256) (b : Int) = ((b + 256 * X : Nat) : Int) := by
  have e : (X : Int) * 256 = ((X * 256 : Nat) : Int) := by omega
  rw [e, u64_or_nat _ _ (by omega) (by omega), nat_join 8 _ _ (by omega) (by omega)]
  omega
theorem or_upI (x b : Int) (hx0 : 0 ≤ x) (hx : x < 72057594037927936) (hb0 : 0 ≤ b) (hb : b < 256) : bits .or .u64 (x * 256) b = x * 256 + b := by
  obtain ⟨X, rfl⟩ := Int.eq_ofNat_of_zero_le hx0
  obtain ⟨B, rfl⟩ := Int.eq_ofNat_of_zero_le hb0
  rw [or_up X B (by omega) (by omega)]
  omega
theorem or_zeroI (b : Int) (hb0 : 0 ≤ b) (hb : b < 256) : bits .or .u64 0 b = b := by
  have h := or_upI 0 b (by omega) (by omega) hb0 hb
  simpa using h
theorem wrap_up (X : Nat) (hX : X < 72057594037927936) : IntKind.u64.wrap ((X : Int) * 256) = (X : Int) * 256 := by
  rw [IntKind.wrap_u64]; omega
theorem wrap_byte (b : Nat) (hb : b < 256) : IntKind.u64.wrap (b : Int) = (b : Int) := by
  rw [IntKind.wrap_u64]; omega
set_option maxHeartbeats 400000 in
theorem whole_any (s : ByteArray) (w : World) (hs : s.size ≤ maxLen) (h8 : (7 : Int) < (s.size : Int)) :
    Calls Try.prog 48 #[.string s] w fun e w' => e = .returned (.int .u64 (Swar.ldL s 0 : Nat)) ∧ ∃ n, w' = w.drewN n := by
  unfold maxLen at hs
  have h0 : 0 < s.size := by omega
  have h1 : (1 : Int) < (s.size : Int) := by omega
  have h2 : (2 : Int) < (s.size : Int) := by omega
  have h3 : (3 : Int) < (s.size : Int) := by omega
  have h4 : (4 : Int) < (s.size : Int) := by omega
  have h5 : (5 : Int) < (s.size : Int) := by omega
  have h6 : (6 : Int) < (s.size : Int) := by omega
  go_enter Try.func48, Try.ntmps48
  go_wp2
  go_quiet (fail)
  go_wp2
  go_ret
  refine ⟨ret_u64 ?_, nq, rfl⟩
  have b0 := UInt8.toNat_lt (s[0]'h0)
  have b1 := UInt8.toNat_lt (s[1]'(by omega))
  have b2 := UInt8.toNat_lt (s[2]'(by omega))
  have b3 := UInt8.toNat_lt (s[3]'(by omega))
  have b4 := UInt8.toNat_lt (s[4]'(by omega))
  have b5 := UInt8.toNat_lt (s[5]'(by omega))
  have b6 := UInt8.toNat_lt (s[6]'(by omega))
  have b7 := UInt8.toNat_lt (s[7]'(by omega))
  have hv : ((Swar.ldL s 0 : Nat) : Int) = ((s[0]'h0).toNat : Int) + ((s[1]'(by omega)).toNat : Int) * 256 + ((s[2]'(by omega)).toNat : Int) * 65536 + ((s[3]'(by omega)).toNat : Int) * 16777216 + ((s[4]'(by omega)).toNat : Int) * 4294967296 + ((s[5]'(by omega)).toNat : Int) * 1099511627776 + ((s[6]'(by omega)).toNat : Int) * 281474976710656 + ((s[7]'(by omega)).toNat : Int) * 72057594037927936 := by
    rw [Swar.ldL_zero, Swar.bt_in (i := 0) (by omega), Swar.bt_in (i := 1) (by omega), Swar.bt_in (i := 2) (by omega), Swar.bt_in (i := 3) (by omega), Swar.bt_in (i := 4) (by omega), Swar.bt_in (i := 5) (by omega), Swar.bt_in (i := 6) (by omega), Swar.bt_in (i := 7) (by omega)]
    omega
  simp (disch := omega) only [u64_wrap_id, u64_or8, u64_or16, u64_or24, u64_or32, u64_or40, u64_or48, u64_or56]
  omega

theorem tail_end (s : ByteArray) (h7 : s.size ≤ 7) : Swar.ldL s 0 = Swar.bt s 0 + 256 * (Swar.bt s 1 + 256 * (Swar.bt s 2 + 256 * (Swar.bt s 3 + 256 * (Swar.bt s 4 + 256 * (Swar.bt s 5 + 256 * Swar.bt s 6))))) := by
  rw [Swar.ldL_zero, Swar.bt_out (i := 7) (by omega)]
  omega
set_option maxHeartbeats 1000000 in
theorem tail_any (s : ByteArray) (w : World) (h1 : 1 ≤ s.size) (h7 : s.size ≤ 7) :
    Calls Try.prog 55 #[.string s] w fun e w' => e = .returned (.int .u64 (Swar.ldL s 0 : Nat)) ∧ w' = w := by
  have hc : s.size = 1 ∨ s.size = 2 ∨ s.size = 3 ∨ s.size = 4 ∨ s.size = 5 ∨ s.size = 6 ∨ s.size = 7 := by omega
  have b0 := Swar.bt_lt s 0
  have b1 := Swar.bt_lt s 1
  have b2 := Swar.bt_lt s 2
  have b3 := Swar.bt_lt s 3
  have b4 := Swar.bt_lt s 4
  have b5 := Swar.bt_lt s 5
  have b6 := Swar.bt_lt s 6
  rcases hc with hc | hc | hc | hc | hc | hc | hc
  all_goals
    go_enter Try.func55, Try.ntmps55
    go_wp2
    go_ret
    refine ⟨ret_u64 ?_, rfl⟩
    rw [tail_end s h7]
    simp only [← Swar.bt_in]
    simp (disch := omega) only [u64_wrap_id, or_upI, or_zeroI]
    have z : ∀ i, s.size ≤ i → Swar.bt s i = 0 := fun i h => Swar.bt_out h
    have z1 := z 1
    have z2 := z 2
    have z3 := z 3
    have z4 := z 4
    have z5 := z 5
    have z6 := z 6
    omega

end Go.Proofs.Ytlbfnchjbpioeaa
