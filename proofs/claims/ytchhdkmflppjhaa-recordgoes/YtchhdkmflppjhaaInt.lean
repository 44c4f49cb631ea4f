/-
  What code.Int, Text write. Conditions: as each says.
-/
import Derived.Test.YtchhdkmflppjhaaUint
namespace Go.Proofs.Ytchhdkmflppjhaa
open Go.RowKit
set_option linter.unusedVariables false
theorem or_one (k : Nat) (h : k < 9223372036854775808) : bits .or .u64 ((2 * k : Nat) : Int) 1 = ((2 * k + 1 : Nat) : Int) := by
  rw [show (1 : Int) = ((1 : Nat) : Int) from rfl, u64_or_nat _ _ (by omega) (by omega)]
  have := Nat.two_pow_add_eq_or_of_lt (i := 1) (b := 1) (by decide) k
  rw [Nat.pow_one] at this
  rw [this]
theorem zig_or (n : Int) (hn : n < 0) (h0 : -9223372036854775808 ≤ n) : bits .or .u64 (-(n + 1) * 2) 1 = ((2 * (-(n + 1)).toNat + 1 : Nat) : Int) := by
  rw [← or_one _ (by omega)]
  congr 1
  omega
set_option maxHeartbeats 1000000 in
theorem int_any (n : Int) (w : World) (h0 : -9223372036854775808 ≤ n) (h1 : n ≤ 9223372036854775807) :
    Calls Try.prog 39 #[.int .i64 n] w fun e w' => e = .returned (.string (nums (Code.uint (Code.zig n)))) ∧ Below w.heap.size w w' := by
  have hz := Code.zig_lt n h0 h1
  by_cases hn : n < 0
  · have HZ : Hid (Code.zig n = 2 * (-(n + 1)).toNat + 1) := by unfold Code.zig; rw [if_neg (by omega)]; rfl
    go_enter Try.func39, Try.ntmps39
    go_wp2_with fail
    rw [zig_or n hn h0, ← HZ.out]
    refine (uint_any _ _ hz).mono ?_
    rintro e w1 ⟨rfl, hb⟩
    go_wp2_with fail
    go_ret
    exact ⟨rfl, hb⟩
  · have HZ : Hid (Code.zig n = 2 * n.toNat) := by unfold Code.zig; rw [if_pos (by omega)]; rfl
    go_enter Try.func39, Try.ntmps39
    go_wp2_with fail
    rw [show n * 2 = ((2 * n.toNat : Nat) : Int) by omega, ← HZ.out]
    refine (uint_any _ _ hz).mono ?_
    rintro e w1 ⟨rfl, hb⟩
    go_wp2_with fail
    go_ret
    exact ⟨rfl, hb⟩
end Go.Proofs.Ytchhdkmflppjhaa
