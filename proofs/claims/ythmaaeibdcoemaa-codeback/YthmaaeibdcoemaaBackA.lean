/-
  What the law's things are, and what its text, fixed and written do. Conditions: as they say.
-/
import Derived.Test.YthmaaeibdcoemaaRefRf
namespace Go.Proofs.Ythmaaeibdcoemaa
open Go.RowKit
set_option linter.unusedVariables false
theorem pick4 (c : Int) (w : World) (h0 : -9223372036854775808 ≤ c) (h1 : c ≤ 9223372036854775807) :
    Calls Try.prog 24 #[.int .i64 c, .int .i64 4] w fun e w' => e = .returned (.int .i64 (pickN c 4 : Int)) ∧ w' = w :=
  pick_any c 4 w h0 h1 (by decide) (by decide)
theorem pick8 (c : Int) (w : World) (h0 : -9223372036854775808 ≤ c) (h1 : c ≤ 9223372036854775807) :
    Calls Try.prog 24 #[.int .i64 c, .int .i64 8] w fun e w' => e = .returned (.int .i64 (pickN c 8 : Int)) ∧ w' = w :=
  pick_any c 8 w h0 h1 (by decide) (by decide)
/-- a thing's cells -/
def thv (k : Int) (n : Nat) (i : Int) (s : ByteArray) (d : Int) : Array Value := #[.int .i64 k, .int .u64 (n : Int), .int .i64 i, .string s, .int .i64 d]
def cutT (s : ByteArray) : ByteArray := if 4096 < s.size then s.extract 0 4096 else s
theorem cutT_size (s : ByteArray) : (cutT s).size ≤ 4096 := by
  unfold cutT
  split
  · rw [ByteArray.size_extract]; omega
  · omega
set_option maxRecDepth 100000 in
set_option maxHeartbeats 1000000 in
theorem lawText_any (k : Int) (n : Nat) (i : Int) (s : ByteArray) (d : Int) (w : World) (hs : s.size ≤ 1125899906842624) :
    Calls Try.prog 53 #[.agg (thv k n i s d)] w fun e w' => e = .returned (.string (cutT s)) ∧ Below w.heap.size w w' := by
  have HS := Hid.mk' hs
  unfold thv
  by_cases h : 4096 < s.size
  · have HC : Hid (cutT s = s.extract 0 4096) := if_pos h
    have h2 : (4096 : Int) < (s.size : Int) := by omega
    have h3 : (s.size : Int) ≤ 1125899906842624 := by omega
    clear h hs
    go_enter Try.func53, Try.ntmps53
    go_wp2_with fail
    go_ret
    exact ⟨by rw [HC.out]; rfl, (Below.refl _ _).alloc (Nat.le_refl _) _⟩
  · have HC : Hid (cutT s = s) := if_neg h
    have h2 : ¬ (4096 : Int) < (s.size : Int) := by omega
    clear h hs
    go_enter Try.func53, Try.ntmps53
    go_wp2_with fail
    go_ret
    exact ⟨by rw [HC.out]; rfl, (Below.refl _ _).alloc (Nat.le_refl _) _⟩
def fixW (d : Int) : Nat := 1 + pickN d 8
def fixN (n : Nat) (d : Int) : Nat := n % 256 ^ fixW d
set_option maxRecDepth 100000 in
set_option maxHeartbeats 1000000 in
theorem lawFixed_any (k : Int) (n : Nat) (i : Int) (s : ByteArray) (d : Int) (w : World) (hn : n < 18446744073709551616) (h0 : -9223372036854775808 ≤ d) (h1 : d ≤ 9223372036854775807) :
    Calls Try.prog 54 #[.agg (thv k n i s d)] w fun e w' => e = .returned (.tuple #[.int .u64 (fixN n d : Int), .int .i64 (fixW d : Int)]) ∧ Below w.heap.size w w' := by
  have n1 : (n : Int) < 18446744073709551616 := by omega
  unfold thv
  have hp : pickN d 8 < 8 := by unfold pickN; omega
  obtain ⟨p, HP⟩ : ∃ p, Hid (pickN d 8 = p) := ⟨_, Hid.mk' rfl⟩
  have HF : Hid (fixW d = 1 + p) := by unfold Hid fixW; rw [HP.out]
  have HG : Hid (fixN n d = n % 256 ^ (1 + p)) := by unfold Hid fixN; rw [HF.out]
  rw [HF.out, HG.out]
  rw [HP.out] at hp
  clear HF HG
  have hq : p = 0 ∨ p = 1 ∨ p = 2 ∨ p = 3 ∨ p = 4 ∨ p = 5 ∨ p = 6 ∨ p = 7 := by omega
  clear hp
  have HN := Hid.mk' hn
  clear hn
  rcases hq with rfl | rfl | rfl | rfl | rfl | rfl | rfl | rfl
  all_goals (
    simp only [Nat.reduceAdd, Nat.reducePow, Int.cast_ofNat_Int]
    go_enter Try.func54, Try.ntmps54
    go_wp2_with fail
    refine (pick8 d _ h0 h1).mono ?_
    rintro e w' ⟨rfl, hw'⟩
    subst hw'
    rw [HP.out]
    simp only [Int.cast_ofNat_Int]
    go_wp2_with fail
    go_ret2
    refine ⟨?_, (Below.refl _ _).alloc (Nat.le_refl _) _⟩
    first | rfl | (have := HN.out; rw [Nat.mod_eq_of_lt (by omega)]; rfl))
end Go.Proofs.Ythmaaeibdcoemaa
