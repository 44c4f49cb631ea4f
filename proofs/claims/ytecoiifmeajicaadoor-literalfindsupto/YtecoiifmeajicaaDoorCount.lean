/-
  What swar.Count does: it returns how often the byte stands in the text. Conditions: the text is no longer than any text that is read can be, the byte a byte.
-/
import Derived.Test.YtecoiifmeajicaaDoorIndex
import Derived.Test.YtecoiifmeajicaaDoorPlainZ
namespace Go.Proofs.YtecoiifmeajicaaDoor
open Go.RowKit
set_option linter.unusedVariables false
theorem shl_any (e t : Nat) : IntKind.u64.wrap ((e : Int) * 2 ^ (8 * t)) = ((e * 256 ^ t % 18446744073709551616 : Nat) : Int) := by
  rw [IntKind.wrap_u64, Int.pow_mul]
  have e2 : ((2 : Int) ^ 8) ^ t = ((256 ^ t : Nat) : Int) := by simp
  rw [e2]
  omega
end Go.Proofs.YtecoiifmeajicaaDoor
