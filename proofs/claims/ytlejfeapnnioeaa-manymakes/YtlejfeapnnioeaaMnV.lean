/-
  The document's folded. Conditions: as it says.
-/
import Derived.Test.YtlejfeapnnioeaaMnU
import Derived.Test.YtlejfeapnnioeaaRefFoldS
namespace Go.Proofs.Ytlejfeapnnioeaa
open Go.RowKit Go.Shelf
set_option linter.unusedVariables false
theorem folded_any (s : ByteArray) (fold : Bool) (w : World) (hs : s.size ≤ 140737488351232) :
    Calls Try.prog 28 #[.string s, .bool fold] w fun e w' => e = .returned (.string (Mn.fd fold s)) ∧ Below w.heap.size w w' := by
  have HF := Hid.mk' (fun w => refFold_any s w hs)
  cases fold
  · go_enter Try.func28, Try.ntmps28
    go_wp2
    go_ret
    exact ⟨rfl, Below.refl _ _⟩
  · go_enter Try.func28, Try.ntmps28
    go_wp2_with (first | (go_at_call 41; refine (HF.out _).mono ?_; rintro e w1 ⟨rfl, hb1⟩; have HB1 := Hid.mk' hb1; clear hb1) | fail)
    go_ret
    exact ⟨rfl, HB1.out⟩
end Go.Proofs.Ytlejfeapnnioeaa
