/-
  What the kernels of package swar do to a word: Spread, Zeros, Equal, Below, Lower, each byte by byte. No conditions but that a word is a word and a byte a byte.
-/
import Derived.Test.YtlbfnchjbpioeaaLoadB
import Derived.Test.YtlbfnchjbpioeaaWordsB
import Derived.Laws.Bits128
namespace Go.Proofs.Ytlbfnchjbpioeaa
open Go.RowKit
set_option linter.unusedVariables false
theorem cast_mk : (9259542123273814144 : Int) = ((9259542123273814144 : Nat) : Int) := rfl
theorem cast_nm : (9187201950435737471 : Int) = ((9187201950435737471 : Nat) : Int) := rfl
theorem u64_max : IntKind.u64.max = ((18446744073709551615 : Nat) : Int) := by rfl
theorem ret_i64 {a b : Int} (h : a = b) : Ending.returned (.int .i64 a) = .returned (.int .i64 b) := by rw [h]
theorem wrapN (n : Nat) (h : n < 18446744073709551616) : IntKind.u64.wrap (n : Int) = (n : Int) := by rw [IntKind.wrap_u64]; omega
theorem not_nat (a : Nat) (h : a < 18446744073709551616) : bits .xor .u64 IntKind.u64.max (a : Int) = ((18446744073709551615 - a : Nat) : Int) := by
  rw [u64_max, u64_xor_nat _ _ (by omega) h]
  congr 1
  have h1 : (18446744073709551615 : Nat) = 2 ^ 64 - 1 := by decide
  apply Nat.eq_of_testBit_eq
  intro i
  have e : 18446744073709551615 - a = 2 ^ 64 - (a + 1) := by omega
  have hlt : a < 2 ^ 64 := by simpa using h
  rw [Nat.testBit_xor, e, Nat.testBit_two_pow_sub_succ hlt, h1, Nat.testBit_two_pow_sub_one]
  by_cases hi : i < 64
  · simp [hi]
  · have : a.testBit i = false := Nat.testBit_lt_two_pow (Nat.lt_of_lt_of_le hlt (Nat.pow_le_pow_right (by omega) (by omega)))
    simp [hi, this]
theorem zeros_bits (v : Nat) (hv : v < 18446744073709551616) :
    bits .and .u64 (bits .xor .u64 IntKind.u64.max (bits .or .u64 (IntKind.u64.wrap (bits .andNot .u64 (v : Int) 9259542123273814144 + 9187201950435737471)) (v : Int))) 9259542123273814144 = ((Swar.zerosL v : Nat) : Int) := by
  have h1 : v &&& 9187201950435737471 ≤ 9187201950435737471 := Nat.and_le_right
  rw [cast_mk, cast_nm, u64_andNot_nat v 9259542123273814144 hv (by omega)]
  rw [show (18446744073709551615 - 9259542123273814144 : Nat) = 9187201950435737471 by decide, ← Int.natCast_add, wrapN _ (by omega)]
  have h2 : (v &&& 9187201950435737471) + 9187201950435737471 ||| v < 2 ^ 64 := Nat.or_lt_two_pow (by omega) (by omega)
  rw [u64_or_nat _ _ (by omega) hv, not_nat _ (by omega), u64_and_nat _ _ (by omega) (by omega), Swar.zeros_eq v hv]
theorem below_bits (v c : Nat) (hv : v < 18446744073709551616) (hc : c < 256) :
    bits .and .u64 (bits .or .u64 (bits .and .u64 (bits .xor .u64 IntKind.u64.max (v : Int)) (Swar.spreadL c : Nat)) (bits .andNot .u64 (bits .xor .u64 IntKind.u64.max (bits .xor .u64 (v : Int) (Swar.spreadL c : Nat))) (IntKind.u64.wrap (bits .or .u64 (v : Int) 9259542123273814144 - bits .andNot .u64 (Swar.spreadL c : Nat) 9259542123273814144)))) 9259542123273814144 = ((Swar.belowL v c : Nat) : Int) := by
  have hs := Swar.spreadL_lt c hc
  have h1 : Swar.spreadL c &&& 9187201950435737471 ≤ 9187201950435737471 := Nat.and_le_right
  have h2 : 9259542123273814144 ≤ v ||| 9259542123273814144 := Nat.right_le_or
  have h3 : v ||| 9259542123273814144 < 2 ^ 64 := Nat.or_lt_two_pow (by omega) (by omega)
  have h4 : v ^^^ Swar.spreadL c < 2 ^ 64 := Nat.xor_lt_two_pow (by omega) (by omega)
  rw [cast_mk, u64_andNot_nat (Swar.spreadL c) 9259542123273814144 hs (by omega), u64_or_nat v _ hv (by omega)]
  rw [show (18446744073709551615 - 9259542123273814144 : Nat) = 9187201950435737471 by decide, ← Int.natCast_sub (by omega), wrapN _ (by omega)]
  rw [u64_xor_nat v _ hv hs, not_nat v hv, not_nat (v ^^^ Swar.spreadL c) (by omega), u64_and_nat (18446744073709551615 - v) _ (by omega) hs, u64_andNot_nat _ _ (by omega) (by omega)]
  have h5 : (18446744073709551615 - v) &&& Swar.spreadL c ≤ 18446744073709551615 - v := Nat.and_le_left
  have h6 : (18446744073709551615 - (v ^^^ Swar.spreadL c)) &&& (18446744073709551615 - ((v ||| 9259542123273814144) - (Swar.spreadL c &&& 9187201950435737471))) ≤ 18446744073709551615 - (v ^^^ Swar.spreadL c) := Nat.and_le_left
  have h7 : ((18446744073709551615 - v) &&& Swar.spreadL c) ||| ((18446744073709551615 - (v ^^^ Swar.spreadL c)) &&& (18446744073709551615 - ((v ||| 9259542123273814144) - (Swar.spreadL c &&& 9187201950435737471)))) < 2 ^ 64 := Nat.or_lt_two_pow (by omega) (by omega)
  rw [u64_or_nat _ _ (by omega) (by omega), u64_and_nat _ _ (by omega) (by omega), Swar.below_eq v c hv hc]
theorem lower_bits (v : Nat) (hv : v < 18446744073709551616) : bits .or .u64 (v : Int) (bits .andNot .u64 (Swar.belowL v 91 : Nat) (Swar.belowL v 65 : Nat) / 4) = ((Swar.lowerL v : Nat) : Int) := by
  have h1 := Swar.belowL_lt v 91
  have h2 := Swar.belowL_lt v 65
  have h3 : Swar.belowL v 91 &&& (18446744073709551615 - Swar.belowL v 65) ≤ Swar.belowL v 91 := Nat.and_le_left
  rw [u64_andNot_nat _ _ h1 h2, show (4 : Int) = ((4 : Nat) : Int) from rfl, ← Int.natCast_ediv, u64_or_nat v _ hv (by omega), Swar.lower_eq v hv]
set_option maxHeartbeats 400000 in
theorem spread_any (c : Nat) (w : World) (hc : c < 256) :
    Calls Try.prog 54 #[.int .u8 (c : Int)] w fun e w' => e = .returned (.int .u64 (Swar.spreadL c : Nat)) ∧ w' = w := by
  go_enter Try.func54, Try.ntmps54
  go_wp2
  go_ret
  exact ⟨ret_u64 (by rw [← Swar.spread_eq]; omega), rfl⟩
set_option maxHeartbeats 400000 in
theorem below_any (v c : Nat) (w : World) (hv : v < 18446744073709551616) (hc : c < 256) :
    Calls Try.prog 47 #[.int .u64 (v : Int), .int .u8 (c : Int)] w fun e w' => e = .returned (.int .u64 (Swar.belowL v c : Nat)) ∧ w' = w := by
  go_enter Try.func47, Try.ntmps47
  go_wp2_with fail
  refine (spread_any c _ hc).mono ?_
  rintro e w' ⟨rfl, rfl⟩
  go_wp2
  go_ret
  exact ⟨ret_u64 (below_bits v c hv hc), rfl⟩
theorem below_i (v : Nat) (c : Int) (w : World) (hv : v < 18446744073709551616) (h0 : 0 ≤ c) (hc : c < 256) :
    Calls Try.prog 47 #[.int .u64 (v : Int), .int .u8 c] w fun e w' => e = .returned (.int .u64 (Swar.belowL v c.toNat : Nat)) ∧ w' = w := by
  obtain ⟨k, rfl⟩ := Int.eq_ofNat_of_zero_le h0
  exact below_any v k w hv (by omega)
set_option maxHeartbeats 400000 in
theorem lower_any (v : Nat) (w : World) (hv : v < 18446744073709551616) :
    Calls Try.prog 36 #[.int .u64 (v : Int)] w fun e w' => e = .returned (.int .u64 (Swar.lowerL v : Nat)) ∧ w' = w := by
  go_enter Try.func36, Try.ntmps36
  go_wp2_with fail
  refine (below_i v 91 _ hv (by omega) (by omega)).mono ?_
  rintro e w' ⟨rfl, rfl⟩
  go_wp2_with fail
  refine (below_i v 65 _ hv (by omega) (by omega)).mono ?_
  rintro e w' ⟨rfl, rfl⟩
  go_wp2
  go_ret
  exact ⟨ret_u64 (lower_bits v hv), rfl⟩

def dbt : List Nat := [0, 1, 56, 2, 57, 49, 28, 3, 61, 58, 42, 50, 38, 29, 17, 4, 62, 47, 59, 36, 45, 43, 51, 22, 53, 39, 33, 30, 24, 18, 12, 5, 63, 55, 48, 27, 60, 41, 37, 16, 46, 35, 44, 21, 52, 32, 23, 11, 54, 26, 40, 15, 34, 20, 31, 10, 25, 14, 19, 9, 13, 8, 7, 6]
/-- the table that the trailing noughts are told by lies as its text lays it -/
def Tab (w : World) : Prop := ∀ i : Nat, i < 64 → w.cell? ⟨0, i, none⟩ = some (.int .u8 ((dbt.getD i 0 : Nat) : Int))
theorem dbt_all : ∀ t < 64, dbt.getD (2 ^ t * 285870213051353865 % 18446744073709551616 / 288230376151711744) 0 = t ∧ 2 ^ t * 285870213051353865 % 18446744073709551616 / 288230376151711744 < 64 := by decide +kernel
theorem dbt_index (x : Nat) (h0 : 0 < x) (hx : x < 18446744073709551616) :
    ∃ k : Nat, k < 64 ∧ dbt.getD k 0 = Swar.tz 64 x ∧ IntKind.u64.wrap (bits .and .u64 (x : Int) (IntKind.u64.wrap (-(x : Int))) * 285870213051353865) / 288230376151711744 = (k : Int) := by
  have hl := Swar.low_bit 64 x h0 (by simpa using hx)
  have hd := dbt_all (Swar.tz 64 x) hl.2
  refine ⟨_, hd.2, hd.1, ?_⟩
  have e1 : IntKind.u64.wrap (-(x : Int)) = ((18446744073709551616 - x : Nat) : Int) := by rw [IntKind.wrap_u64]; omega
  have h1 := hl.1
  simp only [Nat.reducePow] at h1
  have e2 : ((2 ^ Swar.tz 64 x : Nat) : Int) * 285870213051353865 = ((2 ^ Swar.tz 64 x * 285870213051353865 : Nat) : Int) := by omega
  rw [e1, u64_and_nat x _ hx (by omega), h1, e2, IntKind.wrap_u64]
  omega
theorem tz_le : ∀ n x, Swar.tz n x ≤ n
  | 0, _ => by simp [Swar.tz]
  | n + 1, x => by
      have := tz_le n (x / 2)
      simp only [Swar.tz]; split <;> omega
def ocA (x : Nat) : Nat := ((x / 2) &&& 6148914691236517205) + (x &&& 6148914691236517205)
def ocB (a : Nat) : Nat := ((a / 4) &&& 3689348814741910323) + (a &&& 3689348814741910323)
def ocC (b : Nat) : Nat := (b / 16 + b) &&& 1085102592571150095
def ocD (c : Nat) : Nat := c + c / 256
def ocE (d : Nat) : Nat := d + d / 65536
def ocF (e : Nat) : Nat := e + e / 4294967296
theorem ocA_le (x : Nat) : ocA x ≤ 12297829382473034410 := by
  have h1 : (x / 2) &&& 6148914691236517205 ≤ 6148914691236517205 := Nat.and_le_right
  have h2 : x &&& 6148914691236517205 ≤ 6148914691236517205 := Nat.and_le_right
  unfold ocA; omega
theorem ocB_le (x : Nat) : ocB x ≤ 7378697629483820646 := by
  have h1 : (x / 4) &&& 3689348814741910323 ≤ 3689348814741910323 := Nat.and_le_right
  have h2 : x &&& 3689348814741910323 ≤ 3689348814741910323 := Nat.and_le_right
  unfold ocB; omega
theorem ocC_le (x : Nat) : ocC x ≤ 1085102592571150095 := by
  have h1 : (x / 16 + x) &&& 1085102592571150095 ≤ 1085102592571150095 := Nat.and_le_right
  unfold ocC; omega
theorem ocD_le (x : Nat) (h : x ≤ 1085102592571150095) : ocD x ≤ 1089341274573381150 := by unfold ocD; omega
theorem ocE_le (x : Nat) (h : x ≤ 1089341274573381150) : ocE x ≤ 1090000000000000000 := by unfold ocE; omega
theorem ocA_bits (x : Nat) (hx : x < 18446744073709551616) : IntKind.u64.wrap (bits .and .u64 ((x : Int) / 2) 6148914691236517205 + bits .and .u64 (x : Int) 6148914691236517205) = ((ocA x : Nat) : Int) := by
  have h := ocA_le x
  rw [show ((x : Int) / 2) = ((x / 2 : Nat) : Int) by omega, show (6148914691236517205 : Int) = ((6148914691236517205 : Nat) : Int) from rfl, u64_and_nat _ _ (by omega) (by omega), u64_and_nat _ _ hx (by omega), ← Int.natCast_add]
  exact wrapN (ocA x) (by omega)
theorem ocB_bits (x : Nat) (hx : x ≤ 12297829382473034410) : IntKind.u64.wrap (bits .and .u64 ((x : Int) / 4) 3689348814741910323 + bits .and .u64 (x : Int) 3689348814741910323) = ((ocB x : Nat) : Int) := by
  have h := ocB_le x
  rw [show ((x : Int) / 4) = ((x / 4 : Nat) : Int) by omega, show (3689348814741910323 : Int) = ((3689348814741910323 : Nat) : Int) from rfl, u64_and_nat _ _ (by omega) (by omega), u64_and_nat _ _ (by omega) (by omega), ← Int.natCast_add]
  exact wrapN (ocB x) (by omega)
theorem ocC_bits (x : Nat) (hx : x ≤ 7378697629483820646) : bits .and .u64 (IntKind.u64.wrap ((x : Int) / 16 + (x : Int))) 1085102592571150095 = ((ocC x : Nat) : Int) := by
  rw [show ((x : Int) / 16 + (x : Int)) = ((x / 16 + x : Nat) : Int) by omega, show (1085102592571150095 : Int) = ((1085102592571150095 : Nat) : Int) from rfl, wrapN _ (by omega), u64_and_nat _ _ (by omega) (by omega)]
  rfl
theorem ocD_bits (x : Nat) (hx : x ≤ 1085102592571150095) : IntKind.u64.wrap ((x : Int) + (x : Int) / 256) = ((ocD x : Nat) : Int) := by
  rw [show ((x : Int) + (x : Int) / 256) = ((x + x / 256 : Nat) : Int) by omega, wrapN _ (by omega)]
  rfl
theorem ocE_bits (x : Nat) (hx : x ≤ 1089341274573381150) : IntKind.u64.wrap ((x : Int) + (x : Int) / 65536) = ((ocE x : Nat) : Int) := by
  rw [show ((x : Int) + (x : Int) / 65536) = ((x + x / 65536 : Nat) : Int) by omega, wrapN _ (by omega)]
  rfl
theorem ocF_bits (x : Nat) (hx : x ≤ 1090000000000000000) : IntKind.u64.wrap ((x : Int) + (x : Int) / 4294967296) = ((ocF x : Nat) : Int) := by
  rw [show ((x : Int) + (x : Int) / 4294967296) = ((x + x / 4294967296 : Nat) : Int) by omega, wrapN _ (by omega)]
  rfl
theorem oc_eq (x : Nat) : Swar.oc x = ocF (ocE (ocD (ocC (ocB (ocA x))))) &&& 127 := rfl
end Go.Proofs.Ytlbfnchjbpioeaa
