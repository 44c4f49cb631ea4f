/-
  The walk of the law SwarMarks: whatever words, place and bytes it is given it returns true, and of what was there nothing turns. Conditions: words are words, bytes bytes, the place an int, the table of package math/bits lies as its text lays it.
-/
import Derived.Test.YthiabdpihnjkcaaDoorWordsG
import Derived.Test.YthiabdpihnjkcaaDoorIndex
import Derived.Test.YthiabdpihnjkcaaDoorPick
namespace Go.Proofs.YthiabdpihnjkcaaDoor
open Go.RowKit
set_option linter.unusedVariables false
theorem Hid.mk' {p : Prop} (h : p) : Hid p := h
theorem shr_byte (x k : Nat) (hx : x < 18446744073709551616) : bits .and .u64 ((x : Int) / 2 ^ (8 * k)) 255 = ((Swar.byt x k : Nat) : Int) := by
  have e : ((x : Int) / 2 ^ (8 * k)) = ((x / 256 ^ k : Nat) : Int) := by
    rw [Int.pow_mul, show ((2 : Int) ^ 8) ^ k = ((256 ^ k : Nat) : Int) by simp, Int.natCast_ediv]
  have hl : x / 256 ^ k ≤ x := Nat.div_le_self _ _
  rw [e, show (255 : Int) = ((255 : Nat) : Int) from rfl, u64_and_nat _ _ (by omega) (by omega), nat_mask8]
  rfl
theorem bool_neq (w : World) (a b : Bool) : (binOp .neq 4 (.bool a) (.bool b)).run Tryd.prog w = .ok (.bool (a != b)) w := by
  cases a <;> cases b <;> kernel_rfl
theorem b128 : bits .and .u64 128 127 = 0 := by decide
theorem b0 : bits .and .u64 0 127 = 0 := by decide
theorem wrap_255 (r : Nat) (hr : r < 8) : IntKind.u64.wrap (255 * 2 ^ (8 * r)) = ((255 * 256 ^ r : Nat) : Int) := by
  have h := Swar.pow_le7 r hr
  have e : (255 : Int) * 2 ^ (8 * r) = ((255 * 256 ^ r : Nat) : Int) := by
    rw [Int.pow_mul, show ((2 : Int) ^ 8) ^ r = ((256 ^ r : Nat) : Int) by simp, Int.natCast_mul]; rfl
  rw [e]
  exact wrapN _ (by omega)
theorem wrap_by (b r : Nat) (hb : b < 256) (hr : r < 8) : IntKind.u64.wrap ((b : Int) * 2 ^ (8 * r)) = ((b * 256 ^ r : Nat) : Int) := by
  have h := Swar.pow_le7 r hr
  have e : (b : Int) * 2 ^ (8 * r) = ((b * 256 ^ r : Nat) : Int) := by
    rw [Int.pow_mul, show ((2 : Int) ^ 8) ^ r = ((256 ^ r : Nat) : Int) by simp, Int.natCast_mul]
  have h3 : b * 256 ^ r ≤ 255 * 256 ^ r := Nat.mul_le_mul_right _ (by omega)
  rw [e]
  exact wrapN _ (by omega)
theorem oth_bits (v b r : Nat) (hv : v < 18446744073709551616) (hb : b < 256) (hr : r < 8) :
    bits .or .u64 (bits .andNot .u64 (v : Int) (IntKind.u64.wrap (255 * 2 ^ (8 * r)))) (IntKind.u64.wrap ((b : Int) * 2 ^ (8 * r))) = ((Swar.othL v b r : Nat) : Int) := by
  have h := Swar.pow_le7 r hr
  have h2 : v &&& (18446744073709551615 - 255 * 256 ^ r) ≤ v := Nat.and_le_left
  have h3 : b * 256 ^ r ≤ 255 * 256 ^ r := Nat.mul_le_mul_right _ (by omega)
  rw [wrap_255 r hr, wrap_by b r hb hr, u64_andNot_nat v _ hv (by omega), u64_or_nat _ _ (by omega) (by omega)]
  rfl
theorem far_bits (r : Nat) (hr : r < 8) : bits .xor .u64 IntKind.u64.max (IntKind.u64.wrap (255 * 2 ^ (8 * r))) = ((Swar.farL r : Nat) : Int) := by
  have h := Swar.pow_le7 r hr
  rw [wrap_255 r hr, not_nat _ (by omega)]
  rfl
theorem e1_bits (e : Nat) (he : e < 18446744073709551616) : bits .andNot .u64 (e : Int) 9223372036854775808 = ((e &&& 9223372036854775807 : Nat) : Int) := by
  rw [show (9223372036854775808 : Int) = ((9223372036854775808 : Nat) : Int) from rfl, u64_andNot_nat e _ he (by omega)]
theorem x_bits (v : Nat) (hv : v < 18446744073709551616) : bits .and .u64 ((v : Int) / 2) 4611686018427387904 = ((v / 2 &&& 4611686018427387904 : Nat) : Int) := by
  rw [show (4611686018427387904 : Int) = ((4611686018427387904 : Nat) : Int) from rfl, show ((v : Int) / 2) = ((v / 2 : Nat) : Int) by omega, u64_and_nat _ _ (by omega) (by omega)]
theorem ex_bits (e v : Nat) (he : e < 18446744073709551616) (hv : v < 18446744073709551616) :
    bits .or .u64 (bits .andNot .u64 (e : Int) 9223372036854775808) (bits .and .u64 ((v : Int) / 2) 4611686018427387904) = (((e &&& 9223372036854775807) ||| (v / 2 &&& 4611686018427387904) : Nat) : Int) := by
  have h1 : e &&& 9223372036854775807 ≤ e := Nat.and_le_left
  have h2 : v / 2 &&& 4611686018427387904 ≤ v / 2 := Nat.and_le_left
  rw [e1_bits e he, x_bits v hv, u64_or_nat _ _ (by omega) (by omega)]
theorem ex_lt (e v : Nat) (he : e < 18446744073709551616) (hv : v < 18446744073709551616) : (e &&& 9223372036854775807) ||| (v / 2 &&& 4611686018427387904) < 18446744073709551616 := by
  have h1 : e &&& 9223372036854775807 ≤ e := Nat.and_le_left
  have h2 : v / 2 &&& 4611686018427387904 ≤ v / 2 := Nat.and_le_left
  have h3 : (e &&& 9223372036854775807) ||| (v / 2 &&& 4611686018427387904) < 2 ^ 64 := Nat.or_lt_two_pow (by omega) (by omega)
  omega
set_option maxRecDepth 100000 in
set_option maxHeartbeats 4000000 in
theorem swarMarks_any (v u : Nat) (a : Int) (by_ c : Nat) (w : World) (hv : v < 18446744073709551616) (hu : u < 18446744073709551616) (ha0 : -9223372036854775808 ≤ a) (ha : a ≤ 9223372036854775807) (hby : by_ < 256) (hc : c < 256) (ht : Tab w) :
    Calls Tryd.prog 6 #[.int .u64 (v : Int), .int .u64 (u : Int), .int .i64 a, .int .u8 (by_ : Int), .int .u8 (c : Int)] w fun e w' => e = .returned (.bool true) ∧ Below w.heap.size w w' := by
  have hbn := bool_neq
  have hb1 := b128
  have hb0 := b0
  go_enter Tryd.func6, Tryd.ntmps6
  go_wp2_with fail
  refine (zeros_any v _ hv).mono ?_
  rintro e w1 ⟨rfl, rfl⟩
  go_wp2_with fail
  refine (equal_any v u _ hv hu).mono ?_
  rintro e w1 ⟨rfl, rfl⟩
  go_wp2_with fail
  refine (below_any v c _ hv hc).mono ?_
  rintro e w1 ⟨rfl, rfl⟩
  go_wp2_with fail
  go_loop [14, 15, 16] (fun f n i => ∃ j : Nat, j ≤ 8 ∧ i = .int .i64 ((j : Int) - 1) ∧ f = .int .i64 (Swar.fromF (Swar.equalL v u) j : Nat) ∧ n = .int .i64 (Swar.fromN (Swar.equalL v u) j : Nat)) (fun _ _ i => (intOf i + 1).toNat)
  case atStart => exact ⟨8, by omega, rfl, by rw [Swar.fromF_8]; rfl, by rw [Swar.fromN_8]; rfl⟩
  case round =>
    obtain ⟨j, hj, rfl, rfl, rfl⟩ := hrel
    by_cases hlt : 0 < j
    · have hj1 : (0 : Int) ≤ (j : Int) - 1 := by omega
      have hnl := Swar.fromN_le (Swar.equalL v u) j
      have S1 := Hid.mk' (shr_byte v (j - 1) hv)
      have S2 := Hid.mk' (shr_byte u (j - 1) hu)
      have S3 := Hid.mk' (shr_byte (Swar.zerosL v) (j - 1) (Swar.zerosL_lt _))
      have S4 := Hid.mk' (shr_byte (Swar.equalL v u) (j - 1) (Swar.equalL_lt _ _))
      have S5 := Hid.mk' (shr_byte (Swar.belowL v c) (j - 1) (Swar.belowL_lt _ _))
      have B3 := Swar.byt_zeros v (j - 1) (by omega)
      have B4 := Swar.byt_equal v u (j - 1) (by omega)
      have B5 := Swar.byt_below v c (j - 1) (by omega)
      have e1 : j - 1 + 1 = j := by omega
      have f1 := Swar.fromF_step (Swar.equalL v u) (j - 1) (by omega)
      have n1 := Swar.fromN_step (Swar.equalL v u) (j - 1) (by omega)
      rw [e1] at f1 n1
      have F1 := Hid.mk' f1
      have N1 := Hid.mk' n1
      clear f1 n1 e1
      by_cases hz : Swar.byt v (j - 1) = 0
      · by_cases he : Swar.byt v (j - 1) = Swar.byt u (j - 1)
        · by_cases hl : Swar.byt v (j - 1) < c
          · have q1 : bits .and .u64 ((v : Int) / 2 ^ (8 * (j - 1))) 255 = 0 := by rw [S1.out, hz]; rfl
            have q3 : bits .and .u64 ((Swar.zerosL v : Nat) / 2 ^ (8 * (j - 1)) : Int) 255 = 128 := by rw [S3.out, B3, if_pos hz]; rfl
            have q2 : bits .and .u64 ((u : Int) / 2 ^ (8 * (j - 1))) 255 = ((Swar.byt u (j - 1) : Nat) : Int) := S2.out
            have q4 : bits .and .u64 ((Swar.equalL v u : Nat) / 2 ^ (8 * (j - 1)) : Int) 255 = 128 := by rw [S4.out, B4, if_pos he]; rfl
            have q4e : ((0 : Int) == ((Swar.byt u (j - 1) : Nat) : Int)) = true := beq_iff_eq.2 (by omega)
            have q5 : bits .and .u64 ((Swar.belowL v c : Nat) / 2 ^ (8 * (j - 1)) : Int) 255 = 128 := by rw [S5.out, B5, if_pos hl]; rfl
            have q5e : decide ((0 : Int) < (c : Int)) = true := decide_eq_true (by omega)
            have q5n : (0 < c) := by omega
            have HF : Hid (Swar.fromF (Swar.equalL v u) (j - 1) = j - 1) := by show _ = _; rw [F1.out, B4, if_pos he]; rfl
            have HN : Hid (Swar.fromN (Swar.equalL v u) (j - 1) = Swar.fromN (Swar.equalL v u) j + 1) := by show _ = _; rw [N1.out, B4, if_pos he]; rfl
            clear hz he hl B3 B4 B5 S1 S2 S3 S4 S5 F1 N1
            go_wp2_with fail
            go_round
            case rel => exact ⟨j - 1, by omega, by go_num, by rw [HF.out]; go_num, by rw [HN.out]; go_num⟩
            case measure => simp [intOf]; omega
          · have q1 : bits .and .u64 ((v : Int) / 2 ^ (8 * (j - 1))) 255 = 0 := by rw [S1.out, hz]; rfl
            have q3 : bits .and .u64 ((Swar.zerosL v : Nat) / 2 ^ (8 * (j - 1)) : Int) 255 = 128 := by rw [S3.out, B3, if_pos hz]; rfl
            have q2 : bits .and .u64 ((u : Int) / 2 ^ (8 * (j - 1))) 255 = ((Swar.byt u (j - 1) : Nat) : Int) := S2.out
            have q4 : bits .and .u64 ((Swar.equalL v u : Nat) / 2 ^ (8 * (j - 1)) : Int) 255 = 128 := by rw [S4.out, B4, if_pos he]; rfl
            have q4e : ((0 : Int) == ((Swar.byt u (j - 1) : Nat) : Int)) = true := beq_iff_eq.2 (by omega)
            have q5 : bits .and .u64 ((Swar.belowL v c : Nat) / 2 ^ (8 * (j - 1)) : Int) 255 = 0 := by rw [S5.out, B5, if_neg hl]; rfl
            have q5e : decide ((0 : Int) < (c : Int)) = false := decide_eq_false (by omega)
            have q5n : ¬ (0 < c) := by omega
            have HF : Hid (Swar.fromF (Swar.equalL v u) (j - 1) = j - 1) := by show _ = _; rw [F1.out, B4, if_pos he]; rfl
            have HN : Hid (Swar.fromN (Swar.equalL v u) (j - 1) = Swar.fromN (Swar.equalL v u) j + 1) := by show _ = _; rw [N1.out, B4, if_pos he]; rfl
            clear hz he hl B3 B4 B5 S1 S2 S3 S4 S5 F1 N1
            go_wp2_with fail
            go_round
            case rel => exact ⟨j - 1, by omega, by go_num, by rw [HF.out]; go_num, by rw [HN.out]; go_num⟩
            case measure => simp [intOf]; omega
        · by_cases hl : Swar.byt v (j - 1) < c
          · have q1 : bits .and .u64 ((v : Int) / 2 ^ (8 * (j - 1))) 255 = 0 := by rw [S1.out, hz]; rfl
            have q3 : bits .and .u64 ((Swar.zerosL v : Nat) / 2 ^ (8 * (j - 1)) : Int) 255 = 128 := by rw [S3.out, B3, if_pos hz]; rfl
            have q2 : bits .and .u64 ((u : Int) / 2 ^ (8 * (j - 1))) 255 = ((Swar.byt u (j - 1) : Nat) : Int) := S2.out
            have q4 : bits .and .u64 ((Swar.equalL v u : Nat) / 2 ^ (8 * (j - 1)) : Int) 255 = 0 := by rw [S4.out, B4, if_neg he]; rfl
            have q4e : ((0 : Int) == ((Swar.byt u (j - 1) : Nat) : Int)) = false := beq_eq_false_iff_ne.2 (by omega)
            have q5 : bits .and .u64 ((Swar.belowL v c : Nat) / 2 ^ (8 * (j - 1)) : Int) 255 = 128 := by rw [S5.out, B5, if_pos hl]; rfl
            have q5e : decide ((0 : Int) < (c : Int)) = true := decide_eq_true (by omega)
            have q5n : (0 < c) := by omega
            have HF : Hid (Swar.fromF (Swar.equalL v u) (j - 1) = Swar.fromF (Swar.equalL v u) j) := by show _ = _; rw [F1.out, B4, if_neg he]; rfl
            have HN : Hid (Swar.fromN (Swar.equalL v u) (j - 1) = Swar.fromN (Swar.equalL v u) j + 0) := by show _ = _; rw [N1.out, B4, if_neg he]; rfl
            clear hz he hl B3 B4 B5 S1 S2 S3 S4 S5 F1 N1
            go_wp2_with fail
            go_round
            case rel => exact ⟨j - 1, by omega, by go_num, by rw [HF.out], by rw [HN.out]; go_num⟩
            case measure => simp [intOf]; omega
          · have q1 : bits .and .u64 ((v : Int) / 2 ^ (8 * (j - 1))) 255 = 0 := by rw [S1.out, hz]; rfl
            have q3 : bits .and .u64 ((Swar.zerosL v : Nat) / 2 ^ (8 * (j - 1)) : Int) 255 = 128 := by rw [S3.out, B3, if_pos hz]; rfl
            have q2 : bits .and .u64 ((u : Int) / 2 ^ (8 * (j - 1))) 255 = ((Swar.byt u (j - 1) : Nat) : Int) := S2.out
            have q4 : bits .and .u64 ((Swar.equalL v u : Nat) / 2 ^ (8 * (j - 1)) : Int) 255 = 0 := by rw [S4.out, B4, if_neg he]; rfl
            have q4e : ((0 : Int) == ((Swar.byt u (j - 1) : Nat) : Int)) = false := beq_eq_false_iff_ne.2 (by omega)
            have q5 : bits .and .u64 ((Swar.belowL v c : Nat) / 2 ^ (8 * (j - 1)) : Int) 255 = 0 := by rw [S5.out, B5, if_neg hl]; rfl
            have q5e : decide ((0 : Int) < (c : Int)) = false := decide_eq_false (by omega)
            have q5n : ¬ (0 < c) := by omega
            have HF : Hid (Swar.fromF (Swar.equalL v u) (j - 1) = Swar.fromF (Swar.equalL v u) j) := by show _ = _; rw [F1.out, B4, if_neg he]; rfl
            have HN : Hid (Swar.fromN (Swar.equalL v u) (j - 1) = Swar.fromN (Swar.equalL v u) j + 0) := by show _ = _; rw [N1.out, B4, if_neg he]; rfl
            clear hz he hl B3 B4 B5 S1 S2 S3 S4 S5 F1 N1
            go_wp2_with fail
            go_round
            case rel => exact ⟨j - 1, by omega, by go_num, by rw [HF.out], by rw [HN.out]; go_num⟩
            case measure => simp [intOf]; omega
      · by_cases he : Swar.byt v (j - 1) = Swar.byt u (j - 1)
        · by_cases hl : Swar.byt v (j - 1) < c
          · have q1 : bits .and .u64 ((v : Int) / 2 ^ (8 * (j - 1))) 255 = ((Swar.byt v (j - 1) : Nat) : Int) := S1.out
            have q3 : bits .and .u64 ((Swar.zerosL v : Nat) / 2 ^ (8 * (j - 1)) : Int) 255 = 0 := by rw [S3.out, B3, if_neg hz]; rfl
            have q1z : (((Swar.byt v (j - 1) : Nat) : Int) == 0) = false := beq_eq_false_iff_ne.2 (by omega)
            have q2 : bits .and .u64 ((u : Int) / 2 ^ (8 * (j - 1))) 255 = ((Swar.byt u (j - 1) : Nat) : Int) := S2.out
            have q4 : bits .and .u64 ((Swar.equalL v u : Nat) / 2 ^ (8 * (j - 1)) : Int) 255 = 128 := by rw [S4.out, B4, if_pos he]; rfl
            have q4e : (((Swar.byt v (j - 1) : Nat) : Int) == ((Swar.byt u (j - 1) : Nat) : Int)) = true := beq_iff_eq.2 (by omega)
            have q5 : bits .and .u64 ((Swar.belowL v c : Nat) / 2 ^ (8 * (j - 1)) : Int) 255 = 128 := by rw [S5.out, B5, if_pos hl]; rfl
            have q5e : decide (((Swar.byt v (j - 1) : Nat) : Int) < (c : Int)) = true := decide_eq_true (by omega)
            have q5n : (Swar.byt v (j - 1) < c) := by omega
            have HF : Hid (Swar.fromF (Swar.equalL v u) (j - 1) = j - 1) := by show _ = _; rw [F1.out, B4, if_pos he]; rfl
            have HN : Hid (Swar.fromN (Swar.equalL v u) (j - 1) = Swar.fromN (Swar.equalL v u) j + 1) := by show _ = _; rw [N1.out, B4, if_pos he]; rfl
            clear hz he hl B3 B4 B5 S1 S2 S3 S4 S5 F1 N1
            go_wp2_with fail
            go_round
            case rel => exact ⟨j - 1, by omega, by go_num, by rw [HF.out]; go_num, by rw [HN.out]; go_num⟩
            case measure => simp [intOf]; omega
          · have q1 : bits .and .u64 ((v : Int) / 2 ^ (8 * (j - 1))) 255 = ((Swar.byt v (j - 1) : Nat) : Int) := S1.out
            have q3 : bits .and .u64 ((Swar.zerosL v : Nat) / 2 ^ (8 * (j - 1)) : Int) 255 = 0 := by rw [S3.out, B3, if_neg hz]; rfl
            have q1z : (((Swar.byt v (j - 1) : Nat) : Int) == 0) = false := beq_eq_false_iff_ne.2 (by omega)
            have q2 : bits .and .u64 ((u : Int) / 2 ^ (8 * (j - 1))) 255 = ((Swar.byt u (j - 1) : Nat) : Int) := S2.out
            have q4 : bits .and .u64 ((Swar.equalL v u : Nat) / 2 ^ (8 * (j - 1)) : Int) 255 = 128 := by rw [S4.out, B4, if_pos he]; rfl
            have q4e : (((Swar.byt v (j - 1) : Nat) : Int) == ((Swar.byt u (j - 1) : Nat) : Int)) = true := beq_iff_eq.2 (by omega)
            have q5 : bits .and .u64 ((Swar.belowL v c : Nat) / 2 ^ (8 * (j - 1)) : Int) 255 = 0 := by rw [S5.out, B5, if_neg hl]; rfl
            have q5e : decide (((Swar.byt v (j - 1) : Nat) : Int) < (c : Int)) = false := decide_eq_false (by omega)
            have q5n : ¬ (Swar.byt v (j - 1) < c) := by omega
            have HF : Hid (Swar.fromF (Swar.equalL v u) (j - 1) = j - 1) := by show _ = _; rw [F1.out, B4, if_pos he]; rfl
            have HN : Hid (Swar.fromN (Swar.equalL v u) (j - 1) = Swar.fromN (Swar.equalL v u) j + 1) := by show _ = _; rw [N1.out, B4, if_pos he]; rfl
            clear hz he hl B3 B4 B5 S1 S2 S3 S4 S5 F1 N1
            go_wp2_with fail
            go_round
            case rel => exact ⟨j - 1, by omega, by go_num, by rw [HF.out]; go_num, by rw [HN.out]; go_num⟩
            case measure => simp [intOf]; omega
        · by_cases hl : Swar.byt v (j - 1) < c
          · have q1 : bits .and .u64 ((v : Int) / 2 ^ (8 * (j - 1))) 255 = ((Swar.byt v (j - 1) : Nat) : Int) := S1.out
            have q3 : bits .and .u64 ((Swar.zerosL v : Nat) / 2 ^ (8 * (j - 1)) : Int) 255 = 0 := by rw [S3.out, B3, if_neg hz]; rfl
            have q1z : (((Swar.byt v (j - 1) : Nat) : Int) == 0) = false := beq_eq_false_iff_ne.2 (by omega)
            have q2 : bits .and .u64 ((u : Int) / 2 ^ (8 * (j - 1))) 255 = ((Swar.byt u (j - 1) : Nat) : Int) := S2.out
            have q4 : bits .and .u64 ((Swar.equalL v u : Nat) / 2 ^ (8 * (j - 1)) : Int) 255 = 0 := by rw [S4.out, B4, if_neg he]; rfl
            have q4e : (((Swar.byt v (j - 1) : Nat) : Int) == ((Swar.byt u (j - 1) : Nat) : Int)) = false := beq_eq_false_iff_ne.2 (by omega)
            have q5 : bits .and .u64 ((Swar.belowL v c : Nat) / 2 ^ (8 * (j - 1)) : Int) 255 = 128 := by rw [S5.out, B5, if_pos hl]; rfl
            have q5e : decide (((Swar.byt v (j - 1) : Nat) : Int) < (c : Int)) = true := decide_eq_true (by omega)
            have q5n : (Swar.byt v (j - 1) < c) := by omega
            have HF : Hid (Swar.fromF (Swar.equalL v u) (j - 1) = Swar.fromF (Swar.equalL v u) j) := by show _ = _; rw [F1.out, B4, if_neg he]; rfl
            have HN : Hid (Swar.fromN (Swar.equalL v u) (j - 1) = Swar.fromN (Swar.equalL v u) j + 0) := by show _ = _; rw [N1.out, B4, if_neg he]; rfl
            clear hz he hl B3 B4 B5 S1 S2 S3 S4 S5 F1 N1
            go_wp2_with fail
            go_round
            case rel => exact ⟨j - 1, by omega, by go_num, by rw [HF.out], by rw [HN.out]; go_num⟩
            case measure => simp [intOf]; omega
          · have q1 : bits .and .u64 ((v : Int) / 2 ^ (8 * (j - 1))) 255 = ((Swar.byt v (j - 1) : Nat) : Int) := S1.out
            have q3 : bits .and .u64 ((Swar.zerosL v : Nat) / 2 ^ (8 * (j - 1)) : Int) 255 = 0 := by rw [S3.out, B3, if_neg hz]; rfl
            have q1z : (((Swar.byt v (j - 1) : Nat) : Int) == 0) = false := beq_eq_false_iff_ne.2 (by omega)
            have q2 : bits .and .u64 ((u : Int) / 2 ^ (8 * (j - 1))) 255 = ((Swar.byt u (j - 1) : Nat) : Int) := S2.out
            have q4 : bits .and .u64 ((Swar.equalL v u : Nat) / 2 ^ (8 * (j - 1)) : Int) 255 = 0 := by rw [S4.out, B4, if_neg he]; rfl
            have q4e : (((Swar.byt v (j - 1) : Nat) : Int) == ((Swar.byt u (j - 1) : Nat) : Int)) = false := beq_eq_false_iff_ne.2 (by omega)
            have q5 : bits .and .u64 ((Swar.belowL v c : Nat) / 2 ^ (8 * (j - 1)) : Int) 255 = 0 := by rw [S5.out, B5, if_neg hl]; rfl
            have q5e : decide (((Swar.byt v (j - 1) : Nat) : Int) < (c : Int)) = false := decide_eq_false (by omega)
            have q5n : ¬ (Swar.byt v (j - 1) < c) := by omega
            have HF : Hid (Swar.fromF (Swar.equalL v u) (j - 1) = Swar.fromF (Swar.equalL v u) j) := by show _ = _; rw [F1.out, B4, if_neg he]; rfl
            have HN : Hid (Swar.fromN (Swar.equalL v u) (j - 1) = Swar.fromN (Swar.equalL v u) j + 0) := by show _ = _; rw [N1.out, B4, if_neg he]; rfl
            clear hz he hl B3 B4 B5 S1 S2 S3 S4 S5 F1 N1
            go_wp2_with fail
            go_round
            case rel => exact ⟨j - 1, by omega, by go_num, by rw [HF.out], by rw [HN.out]; go_num⟩
            case measure => simp [intOf]; omega
    · obtain rfl : j = 0 := by omega
      rw [Swar.fromF_0, Swar.fromN_0]
      go_wp2_with fail
      refine (pick_any a 8 _ (by omega) (by omega) ha0 ha).mono ?_
      rintro e w' ⟨⟨r, hr, rfl⟩, rfl⟩
      have hr8 : r < 8 := by omega
      have k1 := Swar.oth_lt v by_ r hv hby hr8
      have k2 := Swar.equalL_lt v u
      have g1 : (bits .and .u64 ((Swar.zerosL (Swar.othL v by_ r) : Nat) : Int) ((Swar.farL r : Nat) : Int) == bits .and .u64 ((Swar.zerosL v : Nat) : Int) ((Swar.farL r : Nat) : Int)) = true := by
        rw [u64_and_nat _ _ (Swar.zerosL_lt _) (Swar.far_lt r), u64_and_nat _ _ (Swar.zerosL_lt _) (Swar.far_lt r), Swar.far_zeros v by_ r hby hr8]
        simp
      have g2 : (bits .and .u64 ((Swar.lowerL (Swar.othL v by_ r) : Nat) : Int) ((Swar.farL r : Nat) : Int) == bits .and .u64 ((Swar.lowerL v : Nat) : Int) ((Swar.farL r : Nat) : Int)) = true := by
        rw [u64_and_nat _ _ (Swar.lowerL_lt _) (Swar.far_lt r), u64_and_nat _ _ (Swar.lowerL_lt _) (Swar.far_lt r), Swar.far_lower v by_ r hby hr8]
        simp
      go_wp2_with fail
      rw [oth_bits v by_ r hv hby hr8, far_bits r hr8]
      generalize Swar.othL v by_ r = o at *
      generalize Swar.farL r = F at *
      refine (zeros_any o _ k1).mono ?_
      rintro e w' ⟨rfl, rfl⟩
      go_wp2_with fail
      refine (lower_any o _ k1).mono ?_
      rintro e w' ⟨rfl, rfl⟩
      go_wp2_with fail
      refine (lower_any v _ hv).mono ?_
      rintro e w' ⟨rfl, rfl⟩
      go_wp2_with fail
      refine (first_any _ _ k2 ht).mono ?_
      rintro e w' ⟨rfl, rfl⟩
      go_wp2_with fail
      refine (ones_any _ _ k2).mono ?_
      rintro e w' ⟨rfl, rfl⟩
      go_wp2_with fail
      rw [ex_bits _ v k2 hv]
      refine (first_any _ _ (ex_lt _ v k2 hv) ht).mono ?_
      rintro e w' ⟨rfl, rfl⟩
      rw [Swar.first_free]
      go_wp2_with fail
      rw [e1_bits _ k2]
      refine (first_any _ _ (Swar.and_lt _ _ k2) ht).mono ?_
      rintro e w' ⟨rfl, rfl⟩
      go_wp2_with fail
      refine (equal_any v v _ hv hv).mono ?_
      rintro e w' ⟨rfl, rfl⟩
      rw [Swar.equal_self]
      go_wp2_with fail
      go_ret
      exact ⟨rfl, Below.refl _ _⟩
end Go.Proofs.YthiabdpihnjkcaaDoor
