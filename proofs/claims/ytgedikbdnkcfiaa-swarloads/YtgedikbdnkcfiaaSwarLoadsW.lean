/-
  The walk of the law SwarLoads: whatever text and place it is given it returns true, and the world has at most drawn. Conditions: the text is no longer than any text that is read can be, the place is an int.
-/
import Derived.Test.YtgedikbdnkcfiaaLoadB
namespace Go.Proofs.Ytgedikbdnkcfiaa
open Go.RowKit
set_option linter.unusedVariables false
theorem ab_value : Swar.ldL ⟨#[97, 98]⟩ (-1) = 6447360 := by decide +kernel
set_option maxHeartbeats 400000 in
theorem swarLoads_any (s : ByteArray) (a : Int) (w : World) (hs : s.size ≤ 140737488355328) (hl : -9223372036854775808 ≤ a) (hh : a ≤ 9223372036854775807) :
    Calls Try.prog 3 #[.string s, .int .i64 a] w fun e w' => e = .returned (.bool true) ∧ ∃ n, w' = w.drewN n := by
  go_enter Try.func3, Try.ntmps3
  go_wp2_with fail
  refine (load_any ⟨#[97, 98]⟩ (-1) _ (by decide) (by omega) (by omega)).mono ?_
  rintro e w' ⟨rfl, n, rfl⟩
  rw [ab_value]
  go_wp2_with fail
  refine (load_any s a _ hs hl hh).mono ?_
  rintro e w' ⟨rfl, n2, rfl⟩
  go_wp2_with fail
  refine (refLoad_any s a _ hs hl hh).mono ?_
  rintro e w' ⟨rfl, rfl⟩
  go_wp2_with fail
  go_ret
  exact ⟨rfl, n + n2, rfl⟩
end Go.Proofs.Ytgedikbdnkcfiaa
