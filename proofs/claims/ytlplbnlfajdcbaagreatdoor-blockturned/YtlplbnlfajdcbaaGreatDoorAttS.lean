/-
  What attempt does with a function that reads a text: refused, the place is put back. Conditions: as each says.
-/
import Derived.Test.YtlplbnlfajdcbaaGreatDoorMgB
namespace Go.Proofs.YtlplbnlfajdcbaaGreatDoor
open Go.RowKit
set_option linter.unusedVariables false
end Go.Proofs.YtlplbnlfajdcbaaGreatDoor
