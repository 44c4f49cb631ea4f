/-
  The walk of the law SumsJoins: whatever numbers it is given it returns true, and of what was there nothing turns. Conditions: the numbers are of their widths, the table of package sums lies as its text lays it.
-/
import Derived.Test.YtnbcmobdenjjfaaDoorExam
import Derived.Test.YtnbcmobdenjjfaaDoorRefJoinB
namespace Go.Proofs.YtnbcmobdenjjfaaDoor
open Go.RowKit
set_option linter.unusedVariables false
set_option maxHeartbeats 400000 in
theorem sumsJoins_any (a b : Nat) (n : Int) (w : World) (ha : a < 4294967296) (hb : b < 4294967296) (hn0 : -9223372036854775808 ≤ n) (hn : n ≤ 9223372036854775807) (ht : Tab w) :
    Calls Tryd.prog 4 #[.int .u32 (a : Int), .int .u32 (b : Int), .int .i64 n] w fun e w' => e = .returned (.bool true) ∧ Below w.heap.size w w' := by
  by_cases h : n < 0
  · go_enter Tryd.func4, Tryd.ntmps4
    go_wp2_with fail
    refine (examples_any _ ht).mono ?_
    rintro e w1 ⟨rfl, B1⟩
    have HB1 := Hid.mk' B1
    clear B1
    go_wp2_with fail
    refine (join_less a b n _ h).mono ?_
    rintro e w2 ⟨rfl, rfl⟩
    go_wp2_with fail
    refine (refJoin_less a b n _ h).mono ?_
    rintro e w2 ⟨rfl, rfl⟩
    go_wp2_with fail
    go_ret
    exact ⟨rfl, HB1.out⟩
  · obtain ⟨N, rfl⟩ := Int.eq_ofNat_of_zero_le (show 0 ≤ n by omega)
    have hN : N < 9223372036854775808 := by omega
    clear h hn0 hn
    go_enter Tryd.func4, Tryd.ntmps4
    go_wp2_with fail
    refine (examples_any _ ht).mono ?_
    rintro e w1 ⟨rfl, B1⟩
    have HB1 := Hid.mk' B1
    clear B1
    go_wp2_with fail
    refine (join_any a b N _ ha hb hN).mono ?_
    rintro e w2 ⟨rfl, rfl⟩
    go_wp2_with fail
    refine (refJoin_any a b N _ ha hb hN).mono ?_
    rintro e w3 ⟨rfl, B3⟩
    have HB3 : Hid (Below w.heap.size w w3) := HB1.out.trans (B3.mono HB1.out.size)
    clear B3 HB1
    generalize Sums.stepN (8 * N) a ^^^ b = V at *
    go_wp2_with fail
    go_ret
    exact ⟨rfl, HB3.out⟩
end Go.Proofs.YtnbcmobdenjjfaaDoor
