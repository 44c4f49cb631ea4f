/-
  The walk of the law SumsSteps: whatever numbers it is given it returns true, and of what was there nothing turns. Conditions: the numbers are of their widths, the table of package sums lies as its text lays it.
-/
import Derived.Test.YtnbcmobdenjjfaaDoorExam
import Derived.Test.YtnbcmobdenjjfaaDoorPick2
namespace Go.Proofs.YtnbcmobdenjjfaaDoor
open Go.RowKit
set_option linter.unusedVariables false
theorem join_i (a b : Nat) (n : Int) (N v : Nat) (w : World) (en : n = (N : Int)) (hv : Sums.stepN (8 * N) a ^^^ b = v) (ha : a < 4294967296) (hb : b < 4294967296) (hn : N < 9223372036854775808) :
    Calls Tryd.prog 12 #[.int .u32 (a : Int), .int .u32 (b : Int), .int .i64 n] w fun e w' => e = .returned (.tuple #[.int .u32 (v : Int), .int .i64 0]) ∧ w' = w := by
  subst en
  exact join_at a b N v w hv ha hb hn
theorem join_0 (a : Nat) (n : Int) (N : Nat) (w : World) (en : n = (N : Int)) (ha : a < 4294967296) (hn : N < 9223372036854775808) :
    Calls Tryd.prog 12 #[.int .u32 (a : Int), .int .u32 0, .int .i64 n] w fun e w' => e = .returned (.tuple #[.int .u32 ((Sums.stepN (8 * N) a : Nat) : Int), .int .i64 0]) ∧ w' = w :=
  join_i a 0 n N _ w en (Nat.xor_zero _) ha (by decide) hn
set_option maxRecDepth 100000 in
set_option maxHeartbeats 1000000 in
theorem sumsSteps_any (a b : Nat) (n m : Int) (w : World) (ha : a < 4294967296) (hb : b < 4294967296) (hn0 : -9223372036854775808 ≤ n) (hn : n ≤ 9223372036854775807) (hm0 : -9223372036854775808 ≤ m) (hm : m ≤ 9223372036854775807) (ht : Tab w) :
    Calls Tryd.prog 8 #[.int .u32 (a : Int), .int .u32 (b : Int), .int .i64 n, .int .i64 m] w fun e w' => e = .returned (.bool true) ∧ Below w.heap.size w w' := by
  go_enter Tryd.func8, Tryd.ntmps8
  go_wp2_with fail
  refine (examples_any _ ht).mono ?_
  rintro e w1 ⟨rfl, B1⟩
  have HB := Hid.mk' B1
  clear B1
  go_wp2_with fail
  refine (pick_any n 1152921504606846976 _ (by omega) (by omega) hn0 hn).mono ?_
  rintro e w2 ⟨⟨N, hN, rfl⟩, rfl⟩
  go_wp2_with fail
  refine (pick_any m 1152921504606846976 _ (by omega) (by omega) hm0 hm).mono ?_
  rintro e w2 ⟨⟨M, hM, rfl⟩, rfl⟩
  clear hn0 hn hm0 hm
  go_wp2_with fail
  refine (join_0 a _ N _ rfl ha (by omega)).mono ?_
  rintro e w2 ⟨rfl, rfl⟩
  have lx := Sums.stepN_lt (8 * N) a ha
  go_wp2_with fail
  refine (join_0 (Sums.stepN (8 * N) a) _ M _ rfl lx (by omega)).mono ?_
  rintro e w2 ⟨rfl, rfl⟩
  go_wp2_with fail
  have HZ : Hid (Sums.stepN (8 * (N + M)) a = Sums.stepN (8 * M) (Sums.stepN (8 * N) a)) := by
    show _ = _
    rw [Nat.mul_add, Sums.stepN_add]
  refine (join_i a 0 _ (N + M) (Sums.stepN (8 * M) (Sums.stepN (8 * N) a)) _ (by omega) (by rw [Nat.xor_zero]; exact HZ.out) ha (by decide) (by omega)).mono ?_
  rintro e w2 ⟨rfl, rfl⟩
  go_wp2_with fail
  refine (join_i a b _ N _ _ rfl rfl ha hb (by omega)).mono ?_
  rintro e w2 ⟨rfl, rfl⟩
  go_wp2_with fail
  refine (join_i a b 0 0 (a ^^^ b) _ rfl rfl ha hb (by omega)).mono ?_
  rintro e w2 ⟨rfl, rfl⟩
  go_wp2_with fail
  refine (join_less a b _ _ (by omega)).mono ?_
  rintro e w2 ⟨rfl, rfl⟩
  have X1 : bits .xor .u32 ((Sums.stepN (8 * N) a : Nat) : Int) (b : Int) = ((Sums.stepN (8 * N) a ^^^ b : Nat) : Int) := u32_xor_nat _ _ lx hb
  have X2 : bits .xor .u32 (a : Int) (b : Int) = ((a ^^^ b : Nat) : Int) := u32_xor_nat _ _ ha hb
  generalize Sums.stepN (8 * M) (Sums.stepN (8 * N) a) = Y at *
  generalize Sums.stepN (8 * N) a ^^^ b = V at *
  generalize Sums.stepN (8 * N) a = X at *
  generalize a ^^^ b = U at *
  clear lx HZ ha hb hN hM
  go_wp2_with fail
  go_ret
  exact ⟨rfl, HB.out⟩
end Go.Proofs.YtnbcmobdenjjfaaDoor
