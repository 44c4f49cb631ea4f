/-
  object.Parse of any text that is not too long. Conditions: as it says.
-/
import Derived.Test.YtkplbggefiemdaaGreatDoorOqAG
import Derived.Test.YtkplbggefiemdaaGreatDoorObU
namespace Go.Proofs.YtkplbggefiemdaaGreatDoor
open Go.RowKit
set_option linter.unusedVariables false
theorem parse_full (S : ByteArray) (w : World) (ht : RwT w) (hS : S.size ≤ 65536) : Calls Tryz.prog 18 #[.string S] w ((whlP S (pqG S)).PostF w) :=
  parse_any (pqG S) S w ht hS (fun a t b h => pqG_lt hS a t b h) (fun g d a X hg hr hx => quoted_any g S a d X hr hS hg hx)
end Go.Proofs.YtkplbggefiemdaaGreatDoor
