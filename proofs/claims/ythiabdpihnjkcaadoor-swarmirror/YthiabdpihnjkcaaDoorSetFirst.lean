/-
  What the set's method first does: it tells the first of the word's first bytes that is in the set, or how many were looked at. Conditions: the set lies in memory, the word is a word, at most eight bytes are looked at.
-/
import Derived.Test.YthiabdpihnjkcaaDoorSetOf
import Derived.Test.YthiabdpihnjkcaaDoorWordsE
namespace Go.Proofs.YthiabdpihnjkcaaDoor
open Go.RowKit
set_option linter.unusedVariables false
def setHit (m0 m1 m2 m3 x n : Nat) : Nat := Swar.far (fun k => !inS m0 m1 m2 m3 (Swar.byt x k)) 0 n
theorem shr_bit (m y : Nat) (hm : m < 18446744073709551616) : bits .and .u64 ((m : Int) / 2 ^ (y % 64)) 1 = ((m / 2 ^ (y % 64) % 2 : Nat) : Int) := by
  have e : ((m : Int) / 2 ^ (y % 64)) = ((m / 2 ^ (y % 64) : Nat) : Int) := by
    rw [show (2 : Int) ^ (y % 64) = ((2 ^ (y % 64) : Nat) : Int) by simp, Int.natCast_ediv]
  have hl : m / 2 ^ (y % 64) ≤ m := Nat.div_le_self _ _
  rw [e, show (1 : Int) = ((1 : Nat) : Int) from rfl, u64_and_nat _ _ (by omega) (by omega), nat_mask1]
theorem bit_no (m y : Nat) (hm : m < 18446744073709551616) (h : m.testBit (y % 64) = false) : bits .and .u64 ((m : Int) / 2 ^ (y % 64)) 1 = 0 := by
  rw [shr_bit m y hm]
  rw [Nat.testBit_eq_decide_div_mod_eq] at h
  simp only [decide_eq_false_iff_not] at h
  omega
theorem bit_yes (m y : Nat) (hm : m < 18446744073709551616) (h : m.testBit (y % 64) = true) : bits .and .u64 ((m : Int) / 2 ^ (y % 64)) 1 = 1 := by
  rw [shr_bit m y hm]
  rw [Nat.testBit_eq_decide_div_mod_eq] at h
  simp only [decide_eq_true_eq] at h
  omega
theorem byt_int (x k : Nat) : (x : Int) / 2 ^ (8 * k) % 256 = ((Swar.byt x k : Nat) : Int) := by
  rw [Int.pow_mul, show ((2 : Int) ^ 8) ^ k = ((256 ^ k : Nat) : Int) by simp]
  unfold Swar.byt
  omega
set_option maxHeartbeats 2000000 in
theorem first_set (N m0 m1 m2 m3 x n : Nat) (w : World) (hx : x < 18446744073709551616) (hn : n ≤ 8) (h0 : m0 < 18446744073709551616) (h1 : m1 < 18446744073709551616) (h2 : m2 < 18446744073709551616) (h3 : m3 < 18446744073709551616)
    (c0 : w.cell? ⟨N, 0, none⟩ = some (.int .u64 (m0 : Int))) (c1 : w.cell? ⟨N, 1, none⟩ = some (.int .u64 (m1 : Int))) (c2 : w.cell? ⟨N, 2, none⟩ = some (.int .u64 (m2 : Int))) (c3 : w.cell? ⟨N, 3, none⟩ = some (.int .u64 (m3 : Int))) :
    Calls Tryd.prog 44 #[.pointer (some ⟨N, 0, none⟩), .int .u64 (x : Int), .int .i64 (n : Int)] w fun e w' => e = .returned (.int .i64 (setHit m0 m1 m2 m3 x n : Nat)) ∧ w' = w := by
  go_enter Tryd.func44, Tryd.ntmps44
  go_wp2_with fail
  go_loop [10] (fun i => ∃ k : Nat, k ≤ n ∧ i = .int .i64 (k : Int) ∧ Hid (∀ j, j < k → inS m0 m1 m2 m3 (Swar.byt x j) = false)) (fun i => n - (intOf i).toNat)
  case atStart => exact ⟨0, by omega, rfl, fun j hj => by omega⟩
  case round =>
    obtain ⟨k, hk, rfl, HI⟩ := hrel
    by_cases hlt : k < n
    · have hby := byt_int x k
      have hyl := Swar.byt_lt x k
      have HY : Hid (Swar.byt x k = Swar.byt x k) := rfl
      generalize hyy : Swar.byt x k = y at hby hyl HY
      have HY : Hid (Swar.byt x k = y) := hyy
      clear hyy
      have hyq : y / 64 = 0 ∨ y / 64 = 1 ∨ y / 64 = 2 ∨ y / 64 = 3 := by omega
      rcases hyq with hyq | hyq | hyq | hyq
      · have q : (y : Int) / 64 = 0 := by omega
        have hin : inS m0 m1 m2 m3 y = m0.testBit (y % 64) := by unfold inS; simp [hyq]
        cases hb : inS m0 m1 m2 m3 y
        · have g : bits .and .u64 ((m0 : Int) / 2 ^ (y % 64)) 1 = 0 := bit_no m0 y h0 (by rw [← hin]; exact hb)
          have HN : Hid (∀ j, j < k + 1 → inS m0 m1 m2 m3 (Swar.byt x j) = false) := by
            intro j hj
            rcases Nat.lt_or_ge j k with h | h
            · exact HI.out j h
            · obtain rfl : j = k := by omega
              rw [HY.out]; exact hb
          clear hyq hin hb HI HY
          go_wp2_with fail
          go_round
          case rel => exact ⟨k + 1, by omega, by go_num, HN⟩
          case measure => simp [intOf]; omega
        · have g : bits .and .u64 ((m0 : Int) / 2 ^ (y % 64)) 1 = 1 := bit_yes m0 y h0 (by rw [← hin]; exact hb)
          have HR : Hid (setHit m0 m1 m2 m3 x n = k) := by
            show _ = _
            unfold setHit
            rw [Swar.far_skip _ k 0 n (by omega) (fun j hj => by rw [Nat.zero_add, HI.out j hj]; rfl)]
            rw [Swar.far_stop _ _ _ (by rw [Nat.zero_add, HY.out, hb]; rfl)]
            omega
          clear hyq hin hb HI HY
          go_wp2_with fail
          go_ret
          exact ⟨ret_i64 (by rw [HR.out]), rfl⟩
      · have q : (y : Int) / 64 = 1 := by omega
        have hin : inS m0 m1 m2 m3 y = m1.testBit (y % 64) := by unfold inS; simp [hyq]
        cases hb : inS m0 m1 m2 m3 y
        · have g : bits .and .u64 ((m1 : Int) / 2 ^ (y % 64)) 1 = 0 := bit_no m1 y h1 (by rw [← hin]; exact hb)
          have HN : Hid (∀ j, j < k + 1 → inS m0 m1 m2 m3 (Swar.byt x j) = false) := by
            intro j hj
            rcases Nat.lt_or_ge j k with h | h
            · exact HI.out j h
            · obtain rfl : j = k := by omega
              rw [HY.out]; exact hb
          clear hyq hin hb HI HY
          go_wp2_with fail
          go_round
          case rel => exact ⟨k + 1, by omega, by go_num, HN⟩
          case measure => simp [intOf]; omega
        · have g : bits .and .u64 ((m1 : Int) / 2 ^ (y % 64)) 1 = 1 := bit_yes m1 y h1 (by rw [← hin]; exact hb)
          have HR : Hid (setHit m0 m1 m2 m3 x n = k) := by
            show _ = _
            unfold setHit
            rw [Swar.far_skip _ k 0 n (by omega) (fun j hj => by rw [Nat.zero_add, HI.out j hj]; rfl)]
            rw [Swar.far_stop _ _ _ (by rw [Nat.zero_add, HY.out, hb]; rfl)]
            omega
          clear hyq hin hb HI HY
          go_wp2_with fail
          go_ret
          exact ⟨ret_i64 (by rw [HR.out]), rfl⟩
      · have q : (y : Int) / 64 = 2 := by omega
        have hin : inS m0 m1 m2 m3 y = m2.testBit (y % 64) := by unfold inS; simp [hyq]
        cases hb : inS m0 m1 m2 m3 y
        · have g : bits .and .u64 ((m2 : Int) / 2 ^ (y % 64)) 1 = 0 := bit_no m2 y h2 (by rw [← hin]; exact hb)
          have HN : Hid (∀ j, j < k + 1 → inS m0 m1 m2 m3 (Swar.byt x j) = false) := by
            intro j hj
            rcases Nat.lt_or_ge j k with h | h
            · exact HI.out j h
            · obtain rfl : j = k := by omega
              rw [HY.out]; exact hb
          clear hyq hin hb HI HY
          go_wp2_with fail
          go_round
          case rel => exact ⟨k + 1, by omega, by go_num, HN⟩
          case measure => simp [intOf]; omega
        · have g : bits .and .u64 ((m2 : Int) / 2 ^ (y % 64)) 1 = 1 := bit_yes m2 y h2 (by rw [← hin]; exact hb)
          have HR : Hid (setHit m0 m1 m2 m3 x n = k) := by
            show _ = _
            unfold setHit
            rw [Swar.far_skip _ k 0 n (by omega) (fun j hj => by rw [Nat.zero_add, HI.out j hj]; rfl)]
            rw [Swar.far_stop _ _ _ (by rw [Nat.zero_add, HY.out, hb]; rfl)]
            omega
          clear hyq hin hb HI HY
          go_wp2_with fail
          go_ret
          exact ⟨ret_i64 (by rw [HR.out]), rfl⟩
      · have q : (y : Int) / 64 = 3 := by omega
        have hin : inS m0 m1 m2 m3 y = m3.testBit (y % 64) := by unfold inS; simp [hyq]
        cases hb : inS m0 m1 m2 m3 y
        · have g : bits .and .u64 ((m3 : Int) / 2 ^ (y % 64)) 1 = 0 := bit_no m3 y h3 (by rw [← hin]; exact hb)
          have HN : Hid (∀ j, j < k + 1 → inS m0 m1 m2 m3 (Swar.byt x j) = false) := by
            intro j hj
            rcases Nat.lt_or_ge j k with h | h
            · exact HI.out j h
            · obtain rfl : j = k := by omega
              rw [HY.out]; exact hb
          clear hyq hin hb HI HY
          go_wp2_with fail
          go_round
          case rel => exact ⟨k + 1, by omega, by go_num, HN⟩
          case measure => simp [intOf]; omega
        · have g : bits .and .u64 ((m3 : Int) / 2 ^ (y % 64)) 1 = 1 := bit_yes m3 y h3 (by rw [← hin]; exact hb)
          have HR : Hid (setHit m0 m1 m2 m3 x n = k) := by
            show _ = _
            unfold setHit
            rw [Swar.far_skip _ k 0 n (by omega) (fun j hj => by rw [Nat.zero_add, HI.out j hj]; rfl)]
            rw [Swar.far_stop _ _ _ (by rw [Nat.zero_add, HY.out, hb]; rfl)]
            omega
          clear hyq hin hb HI HY
          go_wp2_with fail
          go_ret
          exact ⟨ret_i64 (by rw [HR.out]), rfl⟩
    · obtain rfl : k = n := by omega
      have HR : Hid (setHit m0 m1 m2 m3 x k = k) := by
        show _ = _
        unfold setHit
        rw [Swar.far_all _ 0 k (fun j hj => by rw [Nat.zero_add, HI.out j hj]; rfl)]
        omega
      clear HI
      go_wp2_with fail
      go_ret
      exact ⟨ret_i64 (by rw [HR.out]), rfl⟩
end Go.Proofs.YthiabdpihnjkcaaDoor
