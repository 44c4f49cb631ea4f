/-
  The walk of the law SumsCRC: whatever text it is given it returns true, and of what was there nothing turns. Conditions: the text is no longer than a text that is read can be, the table of package sums lies as its text lays it.
-/
import Derived.Test.YtnbcmobdenjjfaaDoorExam
import Derived.Test.YtnbcmobdenjjfaaDoorRefCrc
namespace Go.Proofs.YtnbcmobdenjjfaaDoor
open Go.RowKit
set_option linter.unusedVariables false
set_option maxHeartbeats 400000 in
theorem sumsCRC_any (s : ByteArray) (w : World) (hs : s.size ≤ 140737488351232) (ht : Tab w) :
    Calls Tryd.prog 3 #[.string s] w fun e w' => e = .returned (.bool true) ∧ Below w.heap.size w w' := by
  go_enter Tryd.func3, Tryd.ntmps3
  go_wp2_with fail
  refine (examples_any _ ht).mono ?_
  rintro e w1 ⟨rfl, B1⟩
  have ht1 := ht.below B1 ht.pos
  have HB := Hid.mk' B1
  clear B1
  go_wp2_with fail
  refine (crc_any s _ (by unfold maxLen; omega) ht1).mono ?_
  rintro e w2 ⟨rfl, rfl⟩
  go_wp2_with fail
  refine (refCrc_any s _ (by unfold maxLen; omega)).mono ?_
  rintro e w2 ⟨rfl, rfl⟩
  go_wp2_with fail
  go_ret
  exact ⟨rfl, HB.out⟩
end Go.Proofs.YtnbcmobdenjjfaaDoor
