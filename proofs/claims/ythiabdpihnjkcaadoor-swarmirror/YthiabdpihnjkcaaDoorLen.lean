/-
  What math/bits.Len64 and swar.final do: how many bits a number has; one behind the last marked byte, less one. Condition: it is a word.
-/
import Derived.Test.YthiabdpihnjkcaaDoorKern
import Derived.Test.YthiabdpihnjkcaaDoorWordsH
import Derived.Lib.BitFns
import Derived.Lib.Walk
namespace Go.Proofs.YthiabdpihnjkcaaDoor
open Go.RowKit
set_option linter.unusedVariables false
theorem len8_size : Lib.len8tab.size = 256 := by decide +kernel
theorem len8_sizeI : (Lib.len8tab.size : Int) = 256 := by rw [len8_size]; rfl
theorem len8_all : ∀ n : Fin 256, (Lib.len8tab[n.val]'(by rw [len8_size]; exact n.isLt)).toNat = Lib.bitLen n.val := by decide +kernel
theorem len8_get (y : Nat) (hy : y < Lib.len8tab.size) : (Lib.len8tab[y]'hy).toNat = Lib.bitLen y := len8_all ⟨y, by rw [len8_size] at hy; exact hy⟩
theorem len_le (y : Nat) (hy : y < 256) : Lib.bitLen y ≤ 8 := Lib.bitLen_le8 ⟨y, hy⟩
/-- each of the eight ways: k bits are shifted out, the table tells the rest -/
theorem len_way (x y : Int) (k : Nat) (hk : k ≤ 56) (hy : y.toNat < Lib.len8tab.size) (hx0 : 0 ≤ x) (hx : x < 18446744073709551616) (h : y.toNat = x.toNat / 2 ^ k) (h2 : k = 0 ∨ 2 ^ k ≤ x.toNat) :
    wrap64 ((k : Int) + wrap64 ((Lib.len8tab[y.toNat]'hy).toNat : Int)) = ((Lib.bitLen x.toNat : Nat) : Int) := by
  have hb : y.toNat < 256 := by rw [len8_size] at hy; exact hy
  have hl := len_le y.toNat hb
  rw [len8_get]
  have e : Lib.bitLen x.toNat = k + Lib.bitLen y.toNat := by
    rcases h2 with rfl | h2
    · simp at h; rw [h]; omega
    · rw [h]; exact Lib.bitLen_shift k x.toNat h2 (by omega)
  rw [e]
  unfold wrap64
  omega
set_option maxHeartbeats 2000000 in
set_option maxRecDepth 100000 in
theorem len64_lib (x : Int) (w : World) (h0 : 0 ≤ x) (h1 : x < 18446744073709551616) :
    Calls Tryd.prog 48 #[.int .u64 x] w fun e w' => e = .returned (.int .i64 (Lib.bitLen x.toNat)) ∧ w' = w := by
  have hs := len8_sizeI
  go_enter Tryd.func48, Tryd.ntmps48
  go_wp2
  · go_ret
    exact ⟨ret_i64 (len_way x (x / 4294967296 / 65536 / 256) 56 (by omega) _ h0 h1 (by simp only [Nat.reducePow]; omega) (.inr (by simp only [Nat.reducePow]; omega))), rfl⟩
  · go_ret
    exact ⟨ret_i64 (len_way x (x / 4294967296 / 65536) 48 (by omega) _ h0 h1 (by simp only [Nat.reducePow]; omega) (.inr (by simp only [Nat.reducePow]; omega))), rfl⟩
  · go_ret
    exact ⟨ret_i64 (len_way x (x / 4294967296 / 256) 40 (by omega) _ h0 h1 (by simp only [Nat.reducePow]; omega) (.inr (by simp only [Nat.reducePow]; omega))), rfl⟩
  · go_ret
    exact ⟨ret_i64 (len_way x (x / 4294967296) 32 (by omega) _ h0 h1 (by simp only [Nat.reducePow]; omega) (.inr (by simp only [Nat.reducePow]; omega))), rfl⟩
  · go_ret
    exact ⟨ret_i64 (len_way x (x / 65536 / 256) 24 (by omega) _ h0 h1 (by simp only [Nat.reducePow]; omega) (.inr (by simp only [Nat.reducePow]; omega))), rfl⟩
  · go_ret
    exact ⟨ret_i64 (len_way x (x / 65536) 16 (by omega) _ h0 h1 (by simp only [Nat.reducePow]; omega) (.inr (by simp only [Nat.reducePow]; omega))), rfl⟩
  · go_ret
    exact ⟨ret_i64 (len_way x (x / 256) 8 (by omega) _ h0 h1 (by simp only [Nat.reducePow]; omega) (.inr (by simp only [Nat.reducePow]; omega))), rfl⟩
  · go_ret
    refine ⟨ret_i64 ?_, rfl⟩
    have h := len_way x x 0 (by omega) (by rw [len8_size]; omega) h0 h1 (by simp) (.inl rfl)
    simpa using h
theorem bitLen_of (n k : Nat) (h1 : 2 ^ k ≤ n) (h2 : n < 2 ^ (k + 1)) (h3 : n < 18446744073709551616) : Lib.bitLen n = k + 1 := by
  have e : n / 2 ^ k = 1 := by
    rw [Nat.pow_succ] at h2
    exact Nat.div_eq_of_lt_le (by omega) (by omega)
  rw [Lib.bitLen_shift k n h1 h3, e]
  rfl
theorem last_lib (m : Nat) (hm : m < 18446744073709551616) : Lib.bitLen (m &&& 9259542123273814144) / 8 = Swar.lastL (Swar.cut 8 m) := by
  have hle : m &&& 9259542123273814144 ≤ m := Nat.and_le_left
  rw [Swar.marks_eq m hm] at *
  have h := Swar.marks_last (Swar.cut 8 m) (Swar.cut_byt 8 m)
  by_cases h0 : Swar.lastL (Swar.cut 8 m) = 0
  · rw [h.1 h0, h0]; rfl
  · have ⟨h1, h2⟩ := h.2 h0
    have e : 8 * Swar.lastL (Swar.cut 8 m) - 1 + 1 = 8 * Swar.lastL (Swar.cut 8 m) := by omega
    rw [bitLen_of _ (8 * Swar.lastL (Swar.cut 8 m) - 1) h1 (by rw [e]; exact h2) (by omega), e]
    omega
set_option maxHeartbeats 400000 in
theorem final_any (m : Nat) (w : World) (hm : m < 18446744073709551616) :
    Calls Tryd.prog 45 #[.int .u64 (m : Int)] w fun e w' => e = .returned (.int .i64 ((Swar.lastL (Swar.cut 8 m) : Nat) - 1 : Int)) ∧ w' = w := by
  have h1 : m &&& 9259542123273814144 ≤ m := Nat.and_le_left
  have hl := last_lib m hm
  have hb := Swar.lastL_le (Swar.cut 8 m)
  rw [Swar.cut_length] at hb
  have hl2 : Lib.bitLen (m &&& 9259542123273814144) ≤ 71 := by omega
  have HL : Hid (Lib.bitLen (m &&& 9259542123273814144) / 8 = Swar.lastL (Swar.cut 8 m)) := hl
  clear hl
  go_enter Tryd.func45, Tryd.ntmps45
  go_wp2_with fail
  rw [cast_mk, u64_and_nat m _ hm (by omega)]
  refine (len64_lib _ _ (by omega) (by omega)).mono ?_
  rintro e w' ⟨rfl, rfl⟩
  rw [Int.toNat_natCast]
  go_wp2
  go_ret
  exact ⟨ret_i64 (by rw [← HL.out]; omega), rfl⟩
end Go.Proofs.YthiabdpihnjkcaaDoor
