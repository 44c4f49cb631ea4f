/-
  What code.Fixed writes. Conditions: the number is of 64 bits, the width an int.
-/
import Derived.Test.YthmaaeibdcoemaaInt
namespace Go.Proofs.Ythmaaeibdcoemaa
open Go.RowKit
set_option linter.unusedVariables false
/-- the first k bytes of a number -/
def fixL (k n : Nat) : List Nat := (List.range k).map fun q => n / 256 ^ q % 256
theorem fixL_len (k n : Nat) : (fixL k n).length = k := by simp [fixL]
theorem fixL_step (k n : Nat) : fixL (k + 1) n = fixL k n ++ [n / 256 ^ k % 256] := by
  unfold fixL
  rw [List.range_succ, List.map_append]
  rfl
theorem fixL_byt (k n : Nat) : ∀ z ∈ fixL k n, z < 256 := by
  intro z hz
  obtain ⟨q, _, rfl⟩ := List.mem_map.1 hz
  exact Nat.mod_lt _ (by decide)
theorem set_at (A : List Value) (r : Nat) (x z : Value) (j : Nat) (hj : A.length = j) : (A ++ List.replicate (r + 1) z).set j x = A ++ [x] ++ List.replicate r z := by
  subst hj
  rw [List.set_append_right _ _ (Nat.le_refl _), Nat.sub_self, List.replicate_succ, List.set_cons_zero, List.append_assoc]
  rfl
theorem ret_tup2 {a b c d : Value} (h : a = b) (h2 : c = d) : Ending.returned (.tuple #[a, c]) = .returned (.tuple #[b, d]) := by rw [h, h2]
/-- what Fixed answers -/
def fixR (n : Nat) (k : Int) : Ending :=
  if k < 1 ∨ 8 < k then .returned (.tuple #[.string ByteArray.empty, .int .i64 1])
  else if 0 < n / 256 ^ k.toNat then .returned (.tuple #[.string ByteArray.empty, .int .i64 32])
  else .returned (.tuple #[.string (nums (fixL k.toNat n)), .int .i64 0])
set_option maxHeartbeats 1000000 in
theorem fixed_bad (n : Nat) (k : Int) (w : World) (h : k < 1 ∨ 8 < k) :
    Calls Try.prog 10 #[.int .u64 (n : Int), .int .i64 k] w fun e w' => e = .returned (.tuple #[.string ByteArray.empty, .int .i64 1]) ∧ w' = w := by
  rcases h with h | h
  · go_enter Try.func10, Try.ntmps10
    go_wp2_with fail
    go_ret2
    exact ⟨rfl, rfl⟩
  · have h' : ¬ k < 1 := by omega
    go_enter Try.func10, Try.ntmps10
    go_wp2_with fail
    go_ret2
    exact ⟨rfl, rfl⟩
set_option maxRecDepth 100000 in
set_option maxHeartbeats 1000000 in
theorem fixed_in (n k : Nat) (w : World) (hn : n < 18446744073709551616) (h1 : 1 ≤ k) (h8 : k ≤ 8) :
    Calls Try.prog 10 #[.int .u64 (n : Int), .int .i64 (k : Int)] w fun e w' => e = fixR n k ∧ Below w.heap.size w w' := by
  obtain ⟨i0, hi, hz0, hz1, hz2⟩ := info_parts infoB
  have g1 : ¬ (k : Int) < 1 := by omega
  have g8 : ¬ (8 : Int) < (k : Int) := by omega
  go_enter Try.func10, Try.ntmps10
  go_wp2_with (first | (at_make; refine wpList_make_full _ rfl _ _ 64 rfl w.heap.size 5 i0 (.int .u8 0) 1 Try.underlying64 hi hz0 hz1 .i64 .i64 (k : Int) (k : Int) k rfl rfl rfl rfl (by rw [hz2]; omega) (by unfold maxLen; omega) (Nat.le_refl _) ?_; intro w1 hownA hgrow) | fail)
  have hbA : Below w.heap.size w w1 := (Below.refl _ _).grown hgrow (Nat.le_refl _) (fun k hk => by cases hk)
  have hownB : w1.ownsRow w.heap.size 5 1 (.slice (some ⟨w.heap.size, 0, none⟩) k k) k (byv (fixL 0 n) ++ List.replicate k (.int .u8 0)) := by
    rw [Nat.mul_one, show (Value.int IntKind.u8 0).cells = #[.int .u8 0] from rfl, toList_madeCells_one] at hownA
    exact hownA
  clear hgrow hownA
  go_loopw [0, 18] (fun n' i wr => ∃ (j m : Nat), i = .int .i64 (j : Int) ∧ j ≤ k ∧ n' = .int .u64 (m : Int) ∧ m < 18446744073709551616 ∧ m = n / 256 ^ j ∧ wr.ownsRow w.heap.size 5 1 (.slice (some ⟨w.heap.size, 0, none⟩) k k) k (byv (fixL j n) ++ List.replicate (k - j) (.int .u8 0)) ∧ Below w.heap.size w wr) (fun _ i _ => k - (intOf i).toNat)
  case atStart => exact ⟨0, n, rfl, by omega, rfl, hn, by simp, hownB, hbA⟩
  case round =>
    clear hownB hbA
    obtain ⟨j, m, rfl, hj, rfl, hm, hmj, hown, hb⟩ := hrel
    have HJ := Hid.mk' hmj
    have hm2 : (m : Int) < 18446744073709551616 := by omega
    have HM := Hid.mk' hm
    clear hmj hm hn
    by_cases hlt : j < k
    · have hj3 : (j : Int) < (k : Int) := by omega
      have hc := hown.cellAt j (by omega)
      have hfz := hown.frozenAt j
      have hcx : ∃ v, wr.cell? ⟨w.heap.size, j, none⟩ = some v := by
        rw [hc]
        have hl : j < (byv (fixL j n) ++ List.replicate (k - j) (Value.int .u8 0)).length := by rw [List.length_append, byv_len, fixL_len]; simp; omega
        exact ⟨_, List.getElem?_eq_getElem hl⟩
      obtain ⟨v, hv⟩ := hcx
      have hst := hown.stored j (.int .u8 ((m : Int) % 256))
      have HST := Hid.mk' hst
      have HB := Hid.mk' hb
      clear hc hst hown hb
      go_wp2_with fail
      go_roundw
      case rel =>
        refine ⟨j + 1, m / 256, by go_num, by omega, by simp, by have := HM.out; omega, ?_, ?_, HB.out.setCell (Nat.le_refl _) _⟩
        · rw [HJ.out, Nat.pow_succ, Nat.div_div_eq_div_mul]
        · have h := HST.out.1
          rw [show k - j = (k - (j + 1)) + 1 by omega, set_at _ _ _ _ j (by rw [byv_len, fixL_len]), show [Value.int IntKind.u8 ((m : Int) % 256)] = byv [n / 256 ^ j % 256] by rw [← HJ.out]; unfold byv; simp, ← byv_append, ← fixL_step] at h
          exact h
      case measure => simp [intOf]; omega
    · obtain rfl : j = k := by omega
      have hlt' : ¬ (j : Int) < (j : Int) := by omega
      rw [Nat.sub_self, List.replicate_zero, List.append_nil] at hown
      have hcv := conv_own w.heap.size j (fixL j n) wr _ (fixL_len _ _) hown
      by_cases h0 : m = 0
      · have HR : Hid (fixR n j = .returned (.tuple #[.string (nums (fixL j n)), .int .i64 0])) := by
          unfold fixR
          rw [if_neg (by omega), Int.toNat_natCast, if_neg (by rw [← HJ.out]; omega)]
          rfl
        have hm0 : ¬ (0 : Int) < (m : Int) := by omega
        clear hown
        go_wp2_with fail
        go_ret2
        exact ⟨HR.out.symm, hb⟩
      · have HR : Hid (fixR n j = .returned (.tuple #[.string ByteArray.empty, .int .i64 32])) := by
          unfold fixR
          rw [if_neg (by omega), Int.toNat_natCast, if_pos (by rw [← HJ.out]; omega)]
          rfl
        have hm0 : decide ((0 : Int) < (m : Int)) = true := decide_eq_true (by omega)
        have hm1 : 0 < m := by omega
        clear hown h0 hcv hm2 h1 h8 hlt
        go_wp2_with fail
        go_ret2
        exact ⟨HR.out.symm, hb⟩
theorem fixed_any (n : Nat) (k : Int) (w : World) (hn : n < 18446744073709551616) :
    Calls Try.prog 10 #[.int .u64 (n : Int), .int .i64 k] w fun e w' => e = fixR n k ∧ Below w.heap.size w w' := by
  by_cases h : k < 1 ∨ 8 < k
  · refine (fixed_bad n k w h).mono ?_
    rintro e w' ⟨rfl, rfl⟩
    refine ⟨?_, Below.refl _ _⟩
    unfold fixR
    rw [if_pos h]
  · obtain ⟨q, rfl⟩ := Int.eq_ofNat_of_zero_le (show 0 ≤ k by omega)
    exact fixed_in n q w hn (by omega) (by omega)
end Go.Proofs.Ythmaaeibdcoemaa
