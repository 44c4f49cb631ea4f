/-
  lz4.Bound and the document's Bound are one number: the law of both is true. Conditions: an int.
-/
import Derived.Test.YtmngldlgikbmdaaProg
import Derived.WalkKit
import Derived.Handy
namespace Go.Proofs.Ytmngldlgikbmdaa
open Go.RowKit
set_option linter.unusedVariables false
theorem lz4Bounds_any (n : Int) (w : World) (h0 : -9223372036854775808 ≤ n) (h1 : n ≤ 9223372036854775807) :
    Calls Try.prog 3 #[.int .i64 n] w fun e w' => e = .returned (.bool true) ∧ Below w.heap.size w w' := by
  have hq : (n + (n / 255 + 16) == n + n / 255 + 16) = true := by rw [beq_iff_eq]; omega
  go_enter Try.func3, Try.ntmps3
  go_wp2
  all_goals go_ret
  all_goals first | exact ⟨rfl, Below.refl _ _⟩ | (rw [hq]; exact ⟨rfl, Below.refl _ _⟩)
end Go.Proofs.Ytmngldlgikbmdaa
