/-
  lz4.walk, pass by pass: what holds at each of its labels. Conditions: as each says.
-/
import Derived.Test.YtchjmhgalbkjkaaBas
import Derived.Test.YtchjmhgalbkjkaaJmp
import Derived.Test.YtchjmhgalbkjkaaLzA
import Derived.WalkMore
namespace Go.Proofs.Ytchjmhgalbkjkaa
open Go.RowKit
set_option linter.unusedVariables false
theorem idx_any (s : ByteArray) (i c : Nat) (hi : i < s.size) (hc : c = (Sums.bl s).getD i 0) (W : World) : (Instr.index 9 (.string s) (.int .i64 (i : Int))).run Try.prog W = .ok (.int .u8 (c : Int)) W := by
  have hg := Sums.bl_get s i hi
  rw [run_index_string W 9 _ .i64 (i : Int) Try.underlying9, dif_pos ⟨by omega, by omega⟩]
  simp only [Int.toNat_natCast]
  rw [hc, hg]
theorem byte_lt (s : ByteArray) (i c : Nat) (hc : c = (Sums.bl s).getD i 0) : c < 256 := by
  subst hc
  rw [List.getD_eq_getElem?_getD]
  cases h : (Sums.bl s)[i]? with
  | none => simp
  | some b => exact Sums.bl_byt s b (List.mem_of_getElem? h)
theorem ofInt_64 (a : Nat) (ha : a < 18446744073709551616) : (BitVec.ofInt 64 (a : Int)).toNat = a := by
  rw [BitVec.ofInt_natCast, BitVec.toNat_ofNat]
  exact Nat.mod_eq_of_lt (by omega)
theorem or_two (c d : Nat) (hc : c < 256) (hd : d < 256) : bits .or .i64 (c : Int) ((d : Int) * 256) = ((c + 256 * d : Nat) : Int) := by
  have e : c ||| (d * 256) = c + 256 * d := by
    have h := Nat.shiftLeft_add_eq_or_of_lt (i := 8) (b := c) (by omega) d
    rw [Nat.shiftLeft_eq] at h
    rw [Nat.or_comm, ← h]
    omega
  have hx : c ||| (d * 256) < 2 ^ 64 := by rw [e]; omega
  show IntKind.i64.wrap ((BitVec.ofInt 64 (c : Int) ||| BitVec.ofInt 64 ((d : Int) * 256)).toNat : Int) = _
  rw [show (d : Int) * 256 = ((d * 256 : Nat) : Int) by omega, BitVec.toNat_or, ofInt_64 c (by omega), ofInt_64 (d * 256) (by omega), e]
  rw [IntKind.wrap_i64]
  omega
theorem low_half (c : Nat) (hc : c < 256) : bits .and .u8 (c : Int) 15 = ((c % 16 : Nat) : Int) := by
  rw [show (15 : Int) = ((15 : Nat) : Int) from rfl, u8_and_nat c 15 hc (by omega)]
  congr 1
  exact Nat.and_two_pow_sub_one_eq_mod c 4
end Go.Proofs.Ytchjmhgalbkjkaa
