/-
  The walk of the law SumsQuick: whatever seeds and text it is given it returns true, and of what was there nothing turns. Conditions: the seeds are of their widths, the text is no longer than a text that is read can be, the table of package sums lies as its text lays it.
-/
import Derived.Test.YtnbcmobdenjjfaaDoorRefYB
namespace Go.Proofs.YtnbcmobdenjjfaaDoor
open Go.RowKit
set_option linter.unusedVariables false
set_option maxHeartbeats 400000 in
theorem sumsQuick_any (seed wide : Nat) (s : ByteArray) (w : World) (hq : seed < 4294967296) (hw : wide < 18446744073709551616) (hs : s.size ≤ 140737488351232) (ht : Tab w) :
    Calls Tryd.prog 5 #[.int .u32 (seed : Int), .int .u64 (wide : Int), .string s] w fun e w' => e = .returned (.bool true) ∧ Below w.heap.size w w' := by
  go_enter Tryd.func5, Tryd.ntmps5
  go_wp2_with fail
  refine (examples_any _ ht).mono ?_
  rintro e w1 ⟨rfl, B1⟩
  have HB1 := Hid.mk' B1
  clear B1
  go_wp2_with fail
  refine (xx32_any seed s _ hq (by unfold maxLen; omega)).mono ?_
  rintro e w2 ⟨rfl, B2⟩
  have HB2 : Hid (Below w.heap.size w w2) := HB1.out.trans (B2.mono HB1.out.size)
  clear B2 HB1
  go_wp2_with fail
  refine (refXX32_any seed s _ hq hs).mono ?_
  rintro e w3 ⟨rfl, B3⟩
  have HB3 : Hid (Below w.heap.size w w3) := HB2.out.trans (B3.mono HB2.out.size)
  clear B3 HB2
  go_wp2_with fail
  refine (xx64_any wide s _ hw (by unfold maxLen; omega)).mono ?_
  rintro e w4 ⟨rfl, B4⟩
  have HB4 : Hid (Below w.heap.size w w4) := HB3.out.trans (B4.mono HB3.out.size)
  clear B4 HB3
  go_wp2_with fail
  refine (refXX64_any wide s _ hw hs).mono ?_
  rintro e w5 ⟨rfl, B5⟩
  have HB5 : Hid (Below w.heap.size w w5) := HB4.out.trans (B5.mono HB4.out.size)
  clear B5 HB4
  go_wp2_with fail
  go_ret
  exact ⟨rfl, HB5.out⟩
end Go.Proofs.YtnbcmobdenjjfaaDoor
