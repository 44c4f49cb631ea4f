/-
  The walk of the law SwarWords: whatever words and byte it is given it returns true, and of what was there nothing turns. Condition: the table of package math/bits lies as its text lays it.
-/
import Derived.Test.YthiabdpihnjkcaaDoorRefMark
namespace Go.Proofs.YthiabdpihnjkcaaDoor
open Go.RowKit
set_option linter.unusedVariables false
theorem cell_later' {w w' : World} (h : Below w.heap.size w w') {a : Addr} {v : Value} (hc : w.cell? a = some v) : w'.cell? a = some v := by
  by_cases hb : a.block < w.heap.size
  · rw [h.cell hb]; exact hc
  · exfalso
    unfold World.cell? at hc
    simp [show w.heap[a.block]? = none by simp; omega] at hc
theorem Tab.below {w w' : World} (h : Below w.heap.size w w') (t : Tab w) : Tab w' := fun i hi => cell_later' h (t i hi)
theorem zeros_i (v : Int) (w : World) (h0 : 0 ≤ v) (hv : v < 18446744073709551616) :
    Calls Tryd.prog 10 #[.int .u64 v] w fun e w' => e = .returned (.int .u64 (Swar.zerosL v.toNat : Nat)) ∧ w' = w := by
  obtain ⟨k, rfl⟩ := Int.eq_ofNat_of_zero_le h0
  exact zeros_any k w (by omega)
theorem head_first : Swar.firstL (Swar.zerosL 72340168543109376) = 0 := by decide +kernel
theorem head_ones : Swar.onesL (Swar.zerosL 72340168543109376) = 2 := by decide +kernel
set_option maxHeartbeats 1000000 in
theorem swarWords_any (v u c : Nat) (w : World) (hv : v < 18446744073709551616) (hu : u < 18446744073709551616) (hc : c < 256) (ht : Tab w) :
    Calls Tryd.prog 3 #[.int .u64 (v : Int), .int .u64 (u : Int), .int .u8 (c : Int)] w fun e w' => e = .returned (.bool true) ∧ Below w.heap.size w w' := by
  go_enter Tryd.func3, Tryd.ntmps3
  go_wp2_with fail
  refine (zeros_i 72340168543109376 _ (by omega) (by omega)).mono ?_
  rintro e w' ⟨rfl, rfl⟩
  go_wp2_with fail
  refine (first_any _ _ (Swar.zerosL_lt _) ht).mono ?_
  rintro e w' ⟨rfl, rfl⟩
  rw [head_first]
  go_wp2_with fail
  refine (zeros_i 72340168543109376 _ (by omega) (by omega)).mono ?_
  rintro e w' ⟨rfl, rfl⟩
  go_wp2_with fail
  refine (ones_any _ _ (Swar.zerosL_lt _)).mono ?_
  rintro e w' ⟨rfl, rfl⟩
  rw [head_ones]
  go_wp2_with fail
  refine (zeros_any v _ hv).mono ?_
  rintro e w1 ⟨rfl, rfl⟩
  go_wp2_with fail
  refine (refZeros_any v _ hv).mono ?_
  rintro e w2 ⟨rfl, hb2⟩
  go_wp2_with fail
  refine (equal_any v u _ hv hu).mono ?_
  rintro e w2' ⟨rfl, rfl⟩
  go_wp2_with fail
  refine (refEqual_any v u _ hv hu).mono ?_
  rintro e w3 ⟨rfl, hb3⟩
  go_wp2_with fail
  refine (below_any v c _ hv hc).mono ?_
  rintro e w3' ⟨rfl, rfl⟩
  go_wp2_with fail
  refine (refBelow_any v c _ hv hc).mono ?_
  rintro e w4 ⟨rfl, hb4⟩
  have hb : Below w1.heap.size w1 w4 := (hb2.trans (hb3.mono hb2.size)).trans (hb4.mono (Nat.le_trans hb2.size hb3.size))
  have ht4 : Tab w4 := ht.below hb
  clear hb2 hb3 hb4 ht
  go_wp2_with fail
  refine (spread_any c _ hc).mono ?_
  rintro e w4' ⟨rfl, rfl⟩
  go_wp2_with fail
  refine (refSpread_any c _ hc).mono ?_
  rintro e w4' ⟨rfl, rfl⟩
  go_wp2_with fail
  refine (lower_any v _ hv).mono ?_
  rintro e w4' ⟨rfl, rfl⟩
  go_wp2_with fail
  refine (refLower_any v _ hv).mono ?_
  rintro e w4' ⟨rfl, rfl⟩
  go_wp2_with fail
  refine (first_any v _ hv ht4).mono ?_
  rintro e w4' ⟨rfl, rfl⟩
  go_wp2_with fail
  refine (refFirst_any v _ hv).mono ?_
  rintro e w4' ⟨rfl, rfl⟩
  go_wp2_with fail
  refine (ones_any v _ hv).mono ?_
  rintro e w4' ⟨rfl, rfl⟩
  go_wp2_with fail
  refine (refOnes_any v _ hv).mono ?_
  rintro e w4' ⟨rfl, rfl⟩
  go_wp2_with fail
  go_ret
  exact ⟨rfl, hb⟩
end Go.Proofs.YthiabdpihnjkcaaDoor
