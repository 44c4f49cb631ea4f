/-
  What the reference's word functions do: Byte, marked, Zeros, Equal, Below, Small, Lower, Spread, First, Ones, byte by byte. No conditions but that a word is a word and a byte a byte.
-/
import Derived.Test.YthiabdpihnjkcaaDoorKern
import Derived.Test.YthiabdpihnjkcaaDoorWordsC
namespace Go.Proofs.YthiabdpihnjkcaaDoor
open Go.RowKit
set_option linter.unusedVariables false
theorem ret_u8 {a b : Int} (h : a = b) : Ending.returned (.int .u8 a) = .returned (.int .u8 b) := by rw [h]
set_option maxHeartbeats 400000 in
theorem byte_any (v : Nat) (k : Int) (w : World) (hv : v < 18446744073709551616) (h0 : 0 ≤ k) (h8 : k < 8) :
    Calls Tryd.prog 40 #[.int .u64 (v : Int), .int .i64 k] w fun e w' => e = .returned (.int .u8 (Swar.byt v k.toNat : Nat)) ∧ w' = w := by
  have hk : k = 0 ∨ k = 1 ∨ k = 2 ∨ k = 3 ∨ k = 4 ∨ k = 5 ∨ k = 6 ∨ k = 7 := by omega
  rcases hk with rfl | rfl | rfl | rfl | rfl | rfl | rfl | rfl
  all_goals
    go_enter Tryd.func40, Tryd.ntmps40
    go_wp2
    go_ret
    refine ⟨ret_u8 ?_, rfl⟩
    unfold Swar.byt
    simp
    try omega
theorem byte_nat (v k : Nat) (w : World) (hv : v < 18446744073709551616) (h8 : k < 8) :
    Calls Tryd.prog 40 #[.int .u64 (v : Int), .int .i64 (k : Int)] w fun e w' => e = .returned (.int .u8 (Swar.byt v k : Nat)) ∧ w = w' := by
  refine (byte_any v k w hv (by omega) (by omega)).mono ?_
  rintro e w' ⟨rfl, rfl⟩
  exact ⟨rfl, rfl⟩
set_option maxHeartbeats 400000 in
theorem small_any (b : Nat) (w : World) (hb : b < 256) :
    Calls Tryd.prog 42 #[.int .u8 (b : Int)] w fun e w' => e = .returned (.int .u8 (Swar.small b : Nat)) ∧ w' = w := by
  unfold Swar.small
  by_cases h1 : 65 ≤ b
  · by_cases h2 : b ≤ 90
    · rw [if_pos ⟨h1, h2⟩]
      go_enter Tryd.func42, Tryd.ntmps42
      go_wp2
      go_ret
      exact ⟨ret_u8 (by omega), rfl⟩
    · rw [if_neg (by omega)]
      have h2' : ¬ (b : Int) ≤ 90 := by omega
      go_enter Tryd.func42, Tryd.ntmps42
      go_wp2
      go_ret
      exact ⟨rfl, rfl⟩
  · rw [if_neg (by omega)]
    have h2' : ¬ (65 : Int) ≤ (b : Int) := by omega
    go_enter Tryd.func42, Tryd.ntmps42
    go_wp2
    go_ret
    exact ⟨rfl, rfl⟩
set_option maxHeartbeats 400000 in
theorem refSpread_any (c : Nat) (w : World) (hc : c < 256) :
    Calls Tryd.prog 18 #[.int .u8 (c : Int)] w fun e w' => e = .returned (.int .u64 (Swar.spreadL c : Nat)) ∧ w' = w := by
  go_enter Tryd.func18, Tryd.ntmps18
  go_wp2
  go_loop [3, 4] (fun t i => ∃ j : Nat, j ≤ 8 ∧ i = .int .i64 (j : Int) ∧ t = .int .u64 (Swar.spreadTo c j : Nat)) (fun _ i => 8 - (intOf i).toNat)
  case atStart => exact ⟨0, by omega, rfl, rfl⟩
  case round =>
    obtain ⟨j, hj, rfl, rfl⟩ := hrel
    by_cases hlt : j < 8
    · have hst := Swar.spreadTo_step c j
      have hX : Swar.spreadTo c j < 72057594037927936 := by
        have h1 := Swar.spreadTo_lt c j hc
        have h2 : 256 ^ j ≤ 256 ^ 7 := Nat.pow_le_pow_right (by omega) (by omega)
        have e : (256 : Nat) ^ 7 = 72057594037927936 := by decide
        omega
      have HST : Hid (Swar.spreadTo c (j + 1) = c + 256 * Swar.spreadTo c j) := hst
      clear hst
      go_wp2
      go_round
      case rel =>
        refine ⟨j + 1, by omega, by go_num, ?_⟩
        rw [HST.out]
        exact int_u64 (or_up _ _ hX hc)
      case measure => simp [intOf]; omega
    · have e8 : j = 8 := by omega
      subst e8
      go_wp2
      go_ret
      exact ⟨rfl, rfl⟩
set_option maxHeartbeats 400000 in
theorem refOnes_any (m : Nat) (w : World) (hm : m < 18446744073709551616) :
    Calls Tryd.prog 22 #[.int .u64 (m : Int)] w fun e w' => e = .returned (.int .i64 (Swar.onesL m : Nat)) ∧ w' = w := by
  go_enter Tryd.func22, Tryd.ntmps22
  go_wp2
  go_loop [3, 4] (fun t i => ∃ j : Nat, j ≤ 8 ∧ i = .int .i64 (j : Int) ∧ t = .int .i64 (Swar.onesTo m j : Nat)) (fun _ i => 8 - (intOf i).toNat)
  case atStart => exact ⟨0, by omega, rfl, rfl⟩
  case round =>
    obtain ⟨j, hj, rfl, rfl⟩ := hrel
    by_cases hlt : j < 8
    · have hst := Swar.onesTo_step m j hlt
      have hle := Swar.onesTo_le m j
      by_cases hb : 128 ≤ Swar.byt m j
      · rw [if_pos hb] at hst
        have HST : Hid (Swar.onesTo m (j + 1) = Swar.onesTo m j + 1) := hst
        have hb' : (128 : Int) ≤ (Swar.byt m j : Int) := by omega
        clear hst hb
        go_wp2_with fail
        refine (byte_nat m j _ hm hlt).mono ?_
        rintro e w' ⟨rfl, rfl⟩
        go_wp2_with fail
        go_round
        case rel => exact ⟨j + 1, by omega, by go_num, by rw [HST.out]; go_num⟩
        case measure => simp [intOf]; omega
      · rw [if_neg hb] at hst
        have HST : Hid (Swar.onesTo m (j + 1) = Swar.onesTo m j + 0) := hst
        have hb' : decide ((128 : Int) ≤ (Swar.byt m j : Int)) = false := decide_eq_false (by omega)
        clear hst hb
        go_wp2_with fail
        refine (byte_nat m j _ hm hlt).mono ?_
        rintro e w' ⟨rfl, rfl⟩
        go_wp2_with fail
        go_round
        case rel => exact ⟨j + 1, by omega, by go_num, by rw [HST.out]; go_num⟩
        case measure => simp [intOf]; omega
    · have e8 : j = 8 := by omega
      subst e8
      rw [Swar.onesTo_8]
      go_wp2
      go_ret
      exact ⟨rfl, rfl⟩
set_option maxHeartbeats 400000 in
theorem refFirst_any (m : Nat) (w : World) (hm : m < 18446744073709551616) :
    Calls Tryd.prog 21 #[.int .u64 (m : Int)] w fun e w' => e = .returned (.int .i64 (Swar.firstL m : Nat)) ∧ w' = w := by
  go_enter Tryd.func21, Tryd.ntmps21
  go_wp2
  go_loop [3] (fun i => ∃ j : Nat, j ≤ 8 ∧ i = .int .i64 (j : Int) ∧ Hid (∀ i, i < j → Swar.byt m i < 128)) (fun i => 8 - (intOf i).toNat)
  case atStart => exact ⟨0, by omega, rfl, fun i hi => by omega⟩
  case round =>
    obtain ⟨j, hj, rfl, HJ⟩ := hrel
    by_cases hlt : j < 8
    · by_cases hb : 128 ≤ Swar.byt m j
      · have HF : Hid (Swar.firstL m = j) := Swar.firstL_of m j (by omega) HJ.out (fun _ => hb)
        have hb' : (128 : Int) ≤ (Swar.byt m j : Int) := by omega
        clear hb
        go_wp2_with fail
        refine (byte_nat m j _ hm hlt).mono ?_
        rintro e w' ⟨rfl, rfl⟩
        go_wp2_with fail
        go_ret
        exact ⟨ret_i64 (by rw [HF.out]), rfl⟩
      · have hb' : decide ((128 : Int) ≤ (Swar.byt m j : Int)) = false := decide_eq_false (by omega)
        have HJ2 : Hid (∀ i, i < j + 1 → Swar.byt m i < 128) := by
          intro i hi
          rcases Nat.lt_or_ge i j with h | h
          · exact HJ.out i h
          · obtain rfl : i = j := by omega
            omega
        clear hb HJ
        go_wp2_with fail
        refine (byte_nat m j _ hm hlt).mono ?_
        rintro e w' ⟨rfl, rfl⟩
        go_wp2_with fail
        go_round
        case rel => exact ⟨j + 1, by omega, by go_num, HJ2⟩
        case measure => simp [intOf]; omega
    · have e8 : j = 8 := by omega
      subst e8
      have HF : Hid (Swar.firstL m = 8) := Swar.firstL_of m 8 (by omega) HJ.out (fun h => by omega)
      clear HJ
      go_wp2
      go_ret
      exact ⟨ret_i64 (by rw [HF.out]; rfl), rfl⟩
set_option maxHeartbeats 400000 in
theorem refLower_any (v : Nat) (w : World) (hv : v < 18446744073709551616) :
    Calls Tryd.prog 20 #[.int .u64 (v : Int)] w fun e w' => e = .returned (.int .u64 (Swar.lowerL v : Nat)) ∧ w' = w := by
  go_enter Tryd.func20, Tryd.ntmps20
  go_wp2
  go_loop [3, 4] (fun t i => ∃ j : Nat, j ≤ 8 ∧ i = .int .i64 ((j : Int) - 1) ∧ t = .int .u64 (Swar.lowFrom v j : Nat)) (fun _ i => (intOf i + 1).toNat)
  case atStart => exact ⟨8, by omega, rfl, by rw [Swar.lowFrom_8]; rfl⟩
  case round =>
    obtain ⟨j, hj, rfl, rfl⟩ := hrel
    by_cases hlt : 0 < j
    · have hX := Swar.pow_lt56 j hlt hj _ (Swar.lowFrom_lt v j)
      have hst := Swar.lowFrom_step v (j - 1) (by omega)
      have hsm := Swar.small_lt _ (Swar.byt_lt v (j - 1))
      have HST : Hid (Swar.lowFrom v (j - 1) = Swar.small (Swar.byt v (j - 1)) + 256 * Swar.lowFrom v j) := by
        have e : j - 1 + 1 = j := by omega
        rw [e] at hst; exact hst
      have hj1 : (0 : Int) ≤ (j : Int) - 1 := by omega
      have HJ : Hid ((j : Int) - 1 = ((j - 1 : Nat) : Int)) := by show _ = _; omega
      clear hst
      go_wp2_with fail
      rw [HJ.out]
      refine (byte_nat v (j - 1) _ hv (by omega)).mono ?_
      rintro e w' ⟨rfl, rfl⟩
      go_wp2_with fail
      refine (small_any _ _ (Swar.byt_lt v (j - 1))).mono ?_
      rintro e w' ⟨rfl, rfl⟩
      go_wp2_with fail
      go_round
      case rel =>
        refine ⟨j - 1, by omega, by go_num, ?_⟩
        rw [HST.out]
        exact int_u64 (or_up _ _ hX hsm)
      case measure => simp [intOf]; omega
    · have e0 : j = 0 := by omega
      subst e0
      go_wp2
      go_ret
      exact ⟨rfl, rfl⟩
end Go.Proofs.YthiabdpihnjkcaaDoor
