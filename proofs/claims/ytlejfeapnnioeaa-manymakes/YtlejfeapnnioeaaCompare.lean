/-
  What swar.Compare does: the first byte in which the texts differ decides. Conditions: the texts are no longer than two texts that are read can be together, the table of package math/bits lies as its text lays it.
-/
import Derived.Test.YtlejfeapnnioeaaCommon
namespace Go.Proofs.Ytlejfeapnnioeaa
open Go.RowKit
set_option linter.unusedVariables false
end Go.Proofs.Ytlejfeapnnioeaa
