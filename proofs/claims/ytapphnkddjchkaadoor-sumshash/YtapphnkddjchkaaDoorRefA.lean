/-
  What the document's left, word, wide, eight and round do. Conditions: as each says.
-/
import Derived.Test.YtapphnkddjchkaaDoorXXW
namespace Go.Proofs.YtapphnkddjchkaaDoor
open Go.RowKit
set_option linter.unusedVariables false
set_option maxHeartbeats 400000 in
theorem left_any (x k : Nat) (w : World) (hx : x < 4294967296) (hk0 : 0 < k) (hk : k < 32) :
    Calls Tryd.prog 28 #[.int .u32 (x : Int), .int .i64 (k : Int)] w fun e w' => e = .returned (.int .u32 (Sums.rot32 x k : Nat)) ∧ ∃ n, w' = w.drewN n := by
  have q0 : (0 : Int) ≤ (k : Int) := by omega
  have q1 : (0 : Int) ≤ 32 - (k : Int) := by omega
  have q2 : (32 - (k : Int)).toNat = 32 - k := by omega
  go_enter Tryd.func28, Tryd.ntmps28
  go_wp2_with fail
  go_quiet (fail)
  go_wp2_with fail
  go_ret
  exact ⟨ret_u32 (rot32_bits x k hx hk0 hk), nq, rfl⟩
theorem left_i (x : Int) (X k : Nat) (w : World) (e : x = (X : Int)) (hx : X < 4294967296) (hk0 : 0 < k) (hk : k < 32) (K : Int) (eK : K = (k : Int)) :
    Calls Tryd.prog 28 #[.int .u32 x, .int .i64 K] w fun e w' => e = .returned (.int .u32 (Sums.rot32 X k : Nat)) ∧ ∃ n, w' = w.drewN n := by
  subst e
  subst eK
  exact left_any X k w hx hk0 hk
theorem bl_at (s : ByteArray) (p j : Nat) (h : p + j < s.size) : ((Sums.bl s).drop p).getD j 0 = s[p + j].toNat := by
  rw [List.getD_eq_getElem?_getD, List.getElem?_drop, ← List.getD_eq_getElem?_getD, Sums.bl_get s (p + j) h]
set_option maxHeartbeats 400000 in
theorem refWord_any (s : ByteArray) (p : Nat) (w : World) (hs : s.size ≤ maxLen) (h4 : p + 4 ≤ s.size) :
    Calls Tryd.prog 29 #[.string s, .int .i64 (p : Int)] w fun e w' => e = .returned (.int .u32 (Sums.w4 ((Sums.bl s).drop p) : Nat)) ∧ ∃ n, w' = w.drewN n := by
  have hs2 : s.size ≤ 9223372036854775807 := by unfold maxLen at hs; omega
  clear hs
  have hpi : (p : Int) + 3 < 9223372036854775807 := by omega
  have u1 : IntKind.i64.wrap ((p : Int) + 1) = (p : Int) + 1 := by rw [IntKind.wrap_i64]; omega
  have u2 : IntKind.i64.wrap ((p : Int) + 2) = (p : Int) + 2 := by rw [IntKind.wrap_i64]; omega
  have u3 : IntKind.i64.wrap ((p : Int) + 3) = (p : Int) + 3 := by rw [IntKind.wrap_i64]; omega
  have v1 : ((p : Int) + 1).toNat = p + 1 := by omega
  have v2 : ((p : Int) + 2).toNat = p + 2 := by omega
  have v3 : ((p : Int) + 3).toNat = p + 3 := by omega
  have x1 : (0 : Int) ≤ (p : Int) + 1 := by omega
  have x2 : (0 : Int) ≤ (p : Int) + 2 := by omega
  have x3 : (0 : Int) ≤ (p : Int) + 3 := by omega
  have n0 : p < s.size := by omega
  have n1 : p + 1 < s.size := by omega
  have n2 : p + 2 < s.size := by omega
  have n3 : p + 3 < s.size := by omega
  have h0 : (p : Int) < (s.size : Int) := by omega
  have h1 : (p : Int) + 1 < (s.size : Int) := by omega
  have h2 : (p : Int) + 2 < (s.size : Int) := by omega
  have h3 : (p : Int) + 3 < (s.size : Int) := by omega
  go_enter Tryd.func29, Tryd.ntmps29
  go_wp2
  go_quiet (fail)
  go_wp2
  go_ret
  refine ⟨ret_u32 ?_, nq, rfl⟩
  have b0 := UInt8.toNat_lt (s[p]'(by omega))
  have b1 := UInt8.toNat_lt (s[p + 1]'(by omega))
  have b2 := UInt8.toNat_lt (s[p + 2]'(by omega))
  have b3 := UInt8.toNat_lt (s[p + 3]'(by omega))
  have hv : ((Sums.w4 ((Sums.bl s).drop p) : Nat) : Int) = ((s[p]'(by omega)).toNat : Int) + ((s[p + 1]'(by omega)).toNat : Int) * 256 + ((s[p + 2]'(by omega)).toNat : Int) * 65536 + ((s[p + 3]'(by omega)).toNat : Int) * 16777216 := by
    unfold Sums.w4
    rw [bl_at s p 0 (by omega), bl_at s p 1 (by omega), bl_at s p 2 (by omega), bl_at s p 3 (by omega)]
    simp only [Nat.add_zero]
    omega
  rw [hv]
  try simp only [IntKind.wrap_u32]
  omega
end Go.Proofs.YtapphnkddjchkaaDoor
