/-
  What swar.Common and swar.Compare do. Conditions: the texts are no longer than two texts that are read can be together, the table of package math/bits lies as its text lays it.
-/
import Derived.Test.YtlejfeapnnioeaaIndex
import Derived.Test.YtlejfeapnnioeaaWordsF
namespace Go.Proofs.Ytlejfeapnnioeaa
open Go.RowKit
set_option linter.unusedVariables false
end Go.Proofs.Ytlejfeapnnioeaa
