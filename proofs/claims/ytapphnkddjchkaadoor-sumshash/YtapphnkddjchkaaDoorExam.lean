/-
  The chapter's examples are so. Condition: the table of package sums lies as its text lays it.
-/
import Derived.Test.YtapphnkddjchkaaDoorHash
import Derived.Test.YtapphnkddjchkaaDoorCrc
import Derived.Test.YtapphnkddjchkaaDoorJoin
namespace Go.Proofs.YtapphnkddjchkaaDoor
open Go.RowKit
set_option linter.unusedVariables false
theorem _root_.Go.RowKit.Below.drewN' {B : Nat} {a w : World} (h : Below B a w) (n : Nat) : Below B a (w.drewN n) := ⟨h.os, h.tape, h.output, h.size, h.block⟩
theorem Tab.pos {w : World} (h : Tab w) : 0 < w.heap.size := by
  have := h 0 (by omega)
  by_cases hz : 0 < w.heap.size
  · exact hz
  · simp [World.cell?, show w.heap[0]? = none from Array.getElem?_eq_none (by omega)] at this
theorem Tab.below {B : Nat} {w w' : World} (h : Tab w) (hb : Below B w w') (hB : 0 < B) : Tab w' := fun i hi => by
  rw [hb.cell hB]; exact h i hi
theorem crc_a : Sums.crcL (Sums.bl ⟨#[49, 50, 51, 52]⟩) = 4131058926 := by decide +kernel
theorem crc_b : Sums.crcL (Sums.bl ⟨#[53, 54, 55, 56, 57]⟩) = 2209703384 := by decide +kernel
theorem crc_c : Sums.crcL (Sums.bl ⟨#[49, 50, 51, 52, 53, 54, 55, 56, 57]⟩) = 3808858755 := by decide +kernel
theorem join_ab : Sums.stepN (8 * 5) 4131058926 ^^^ 2209703384 = 3808858755 := by decide +kernel
theorem crc_at (s : ByteArray) (v : Nat) (w : World) (hv : Sums.crcL (Sums.bl s) = v) (hs : s.size ≤ 100) (ht : Tab w) :
    Calls Tryd.prog 12 #[.string s] w fun e w' => e = .returned (.int .u32 (v : Int)) ∧ w' = w := by
  subst hv
  exact crc_any s w (by unfold maxLen; omega) ht
theorem join_at (a b n v : Nat) (w : World) (hv : Sums.stepN (8 * n) a ^^^ b = v) (ha : a < 4294967296) (hb : b < 4294967296) (hn : n < 9223372036854775808) :
    Calls Tryd.prog 11 #[.int .u32 (a : Int), .int .u32 (b : Int), .int .i64 (n : Int)] w fun e w' => e = .returned (.tuple #[.int .u32 (v : Int), .int .i64 0]) ∧ w' = w := by
  subst hv
  exact join_any a b n w ha hb hn
theorem sum3 : Sums.last32 ((0 + 374761393) % 4294967296) 3 [97, 98, 99] = 852579327 := by
  have h := Sums.ex32
  rw [xx32_short _ _ (by decide)] at h
  exact h
def row1 : List Nat := laid (List.replicate 16 0) 0 (Sums.bl ⟨#[97]⟩)
def row2 : List Nat := laid row1 1 (Sums.bl ⟨#[98, 99]⟩)
theorem row1_len : row1.length = 16 := by decide +kernel
theorem row2_len : row2.length = 16 := by decide +kernel
theorem row2_byt : ∀ z ∈ row2, z < 256 := by decide +kernel
theorem row2_take : row2.take 3 = [97, 98, 99] := by decide +kernel
set_option maxRecDepth 100000 in
set_option maxHeartbeats 1000000 in
theorem examples_any (w : World) (ht : Tab w) :
    Calls Tryd.prog 4 #[] w fun e w' => e = .returned (.bool true) ∧ Below w.heap.size w w' := by
  go_enter Tryd.func4, Tryd.ntmps4
  go_wp2_with fail
  refine (crc_at ⟨#[49, 50, 51, 52]⟩ 4131058926 _ crc_a (by decide) ht).mono ?_
  rintro e w1 ⟨rfl, rfl⟩
  go_wp2_with fail
  refine (crc_at ⟨#[53, 54, 55, 56, 57]⟩ 2209703384 _ crc_b (by decide) ht).mono ?_
  rintro e w1 ⟨rfl, rfl⟩
  go_wp2_with fail
  refine (join_at 4131058926 2209703384 5 3808858755 _ join_ab (by decide) (by decide) (by decide)).mono ?_
  rintro e w1 ⟨rfl, rfl⟩
  go_wp2_with fail
  refine (new_any 0 _ (by decide)).mono ?_
  rintro e w2 ⟨g, hg, rfl, P0, B0⟩
  have HP0 := Hid.mk' P0
  have HB0 := Hid.mk' B0
  clear P0 B0
  go_wp2_with fail
  refine (write_zero g 0 _ _ 0 ⟨#[97]⟩ _ (by decide) (by decide) (by decide) HP0.out).mono ?_
  rintro e w3 ⟨rfl, P1⟩
  have HP1 := Hid.mk' P1
  clear P1
  go_wp2_with fail
  refine (write_more g 0 _ row1 1 1 ⟨#[98, 99]⟩ _ row1_len (by decide) (by decide) (by decide) HP1.out.row).mono ?_
  rintro e w4 ⟨rfl, P2⟩
  have HB : Hid (Below w1.heap.size w1 w4) := HB0.out.trans ((HP1.out.below (by exact hg)).trans (P2.below (by exact hg)))
  have ht4 : Tab w4 := ht.below HB.out ht.pos
  have HR : Hid (w4.heap[g]? = some (.cells (hashC 0 (Sums.begin32 0) row2 3 3).toArray 48 (0, 0))) := P2.row
  clear P2 HP1 HB0 HP0
  go_wp2_with fail
  refine (crc_at ⟨#[49, 50, 51, 52, 53, 54, 55, 56, 57]⟩ 3808858755 _ crc_c (by decide) ht4).mono ?_
  rintro e w5 ⟨rfl, rfl⟩
  go_wp2_with fail
  refine (xx32_less 0 ⟨#[97, 98, 99]⟩ _ (by decide) (by decide)).mono ?_
  rintro e w6 ⟨rfl, n1, rfl⟩
  rw [show Sums.xx32 0 (Sums.bl ⟨#[97, 98, 99]⟩) = 852579327 from Sums.ex32]
  go_wp2_with fail
  refine (xx64_less 0 ⟨#[97, 98, 99]⟩ _ (by decide) (by decide)).mono ?_
  rintro e w6 ⟨rfl, n2, rfl⟩
  rw [show Sums.xx64 0 (Sums.bl ⟨#[97, 98, 99]⟩) = 4952883123889572249 from Sums.ex64]
  go_wp2_with fail
  refine (sum_less g 0 _ row2 3 3 (w5.drewN (n1 + n2)) row2_len row2_byt (by decide) (by decide) (by decide) (by exact HR.out)).mono ?_
  rintro e w6 ⟨rfl, n3, rfl⟩
  rw [row2_take, sum3]
  go_wp2_with fail
  refine (len_any g 0 (Sums.begin32 0) row2 3 3 (w5.drewN (n1 + n2 + n3)) row2_len (by exact HR.out)).mono ?_
  rintro e w6 ⟨rfl, rfl⟩
  go_wp2_with fail
  go_ret
  exact ⟨rfl, HB.out.drewN' _⟩
end Go.Proofs.YtapphnkddjchkaaDoor
