/-
  What a Reader's Text does. Conditions: as each says.
-/
import Derived.Test.YtlplbnlfajdcbaaGreatDoorRTake
import Derived.Test.YtlplbnlfajdcbaaGreatDoorAttS
namespace Go.Proofs.YtlplbnlfajdcbaaGreatDoor
open Go.RowKit
set_option linter.unusedVariables false
/-- what Text answers, and how far it goes on -/
def textR (s : ByteArray) (a : Nat) : ByteArray × Nat × Nat :=
  if (rdAt s a).2.1 ≠ 0 then (⟨#[]⟩, (rdAt s a).2.1, 0) else if s.size - (a + (rdAt s a).2.2) < (rdAt s a).1 then (⟨#[]⟩, 30, 0) else (s.extract (a + (rdAt s a).2.2) (a + (rdAt s a).2.2 + (rdAt s a).1), 0, (rdAt s a).2.2 + (rdAt s a).1)
theorem textR_err (s : ByteArray) (a : Nat) (h : (textR s a).2.1 ≠ 0) : (textR s a).2.2 = 0 ∧ (textR s a).1 = ⟨#[]⟩ := by
  unfold textR at h ⊢
  split
  · exact ⟨rfl, rfl⟩
  · split
    · exact ⟨rfl, rfl⟩
    · rename_i h1 h2
      rw [if_neg h1, if_neg h2] at h
      exact absurd rfl h
end Go.Proofs.YtlplbnlfajdcbaaGreatDoor
