/-
  What XX32 and XX64 are of a short text. Conditions: the seed is of its width.
-/
import Derived.Test.YtapphnkddjchkaaDoorLastW
namespace Go.Proofs.YtapphnkddjchkaaDoor
open Go.RowKit
set_option linter.unusedVariables false
theorem last32_i (h : Int) (H n : Nat) (r : ByteArray) (w : World) (eH : h = (H : Int)) (hh : H < 4294967296) (hn : n < 9223372036854775808) (hr : r.size ≤ maxLen) :
    Calls Tryd.prog 19 #[.int .u32 h, .int .i64 (n : Int), .string r] w fun e w' => e = .returned (.int .u32 (Sums.last32 H n (Sums.bl r) : Nat)) ∧ ∃ n, w' = w.drewN n := by
  subst eH
  exact last32_any H n r w hh hn hr
theorem last64_i (h : Int) (H n : Nat) (r : ByteArray) (w : World) (eH : h = (H : Int)) (hh : H < 18446744073709551616) (hn : n < 9223372036854775808) (hr : r.size ≤ maxLen) :
    Calls Tryd.prog 22 #[.int .u64 h, .int .i64 (n : Int), .string r] w fun e w' => e = .returned (.int .u64 (Sums.last64 H n (Sums.bl r) : Nat)) ∧ ∃ n, w' = w.drewN n := by
  subst eH
  exact last64_any H n r w hh hn hr
theorem xx32_short (seed : Nat) (l : List Nat) (h : l.length < 16) : Sums.xx32 seed l = Sums.last32 ((seed + 374761393) % 4294967296) l.length l := by
  rw [Sums.xx32, if_pos h]
theorem xx64_short (seed : Nat) (l : List Nat) (h : l.length < 32) : Sums.xx64 seed l = Sums.last64 ((seed + 2870177450012600261) % 18446744073709551616) l.length l := by
  rw [Sums.xx64, if_pos h]
set_option maxHeartbeats 400000 in
theorem xx32_less (seed : Nat) (s : ByteArray) (w : World) (hq : seed < 4294967296) (h : s.size < 16) :
    Calls Tryd.prog 13 #[.int .u32 (seed : Int), .string s] w fun e w' => e = .returned (.int .u32 (Sums.xx32 seed (Sums.bl s) : Nat)) ∧ ∃ n, w' = w.drewN n := by
  have g : (s.size : Int) < 16 := by omega
  have HX : Hid (Sums.xx32 seed (Sums.bl s) = Sums.last32 ((seed + 374761393) % 4294967296) s.size (Sums.bl s)) := by
    show _ = _
    rw [xx32_short _ _ (by rw [Sums.bl_length]; exact h), Sums.bl_length]
  go_enter Tryd.func13, Tryd.ntmps13
  go_wp2_with fail
  refine (last32_i _ ((seed + 374761393) % 4294967296) s.size s _ (by omega) (by omega) (by omega) (by unfold maxLen; omega)).mono ?_
  rintro e w1 ⟨rfl, n1, rfl⟩
  go_wp2_with fail
  go_ret
  exact ⟨ret_u32 (by rw [HX.out]), n1, rfl⟩
set_option maxHeartbeats 400000 in
theorem xx64_less (seed : Nat) (s : ByteArray) (w : World) (hq : seed < 18446744073709551616) (h : s.size < 32) :
    Calls Tryd.prog 14 #[.int .u64 (seed : Int), .string s] w fun e w' => e = .returned (.int .u64 (Sums.xx64 seed (Sums.bl s) : Nat)) ∧ ∃ n, w' = w.drewN n := by
  have g : (s.size : Int) < 32 := by omega
  have HX : Hid (Sums.xx64 seed (Sums.bl s) = Sums.last64 ((seed + 2870177450012600261) % 18446744073709551616) s.size (Sums.bl s)) := by
    show _ = _
    rw [xx64_short _ _ (by rw [Sums.bl_length]; exact h), Sums.bl_length]
  go_enter Tryd.func14, Tryd.ntmps14
  go_wp2_with fail
  refine (last64_i _ ((seed + 2870177450012600261) % 18446744073709551616) s.size s _ (by rw [IntKind.wrap_u64]; omega) (by omega) (by omega) (by unfold maxLen; omega)).mono ?_
  rintro e w1 ⟨rfl, n1, rfl⟩
  go_wp2_with fail
  go_ret
  exact ⟨ret_u64 (by rw [HX.out]), n1, rfl⟩
end Go.Proofs.YtapphnkddjchkaaDoor
