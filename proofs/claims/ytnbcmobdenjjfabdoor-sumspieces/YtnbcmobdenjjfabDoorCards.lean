/-
  DERIVED. GIVEN WITH THE SEED: THE CARDS: each row of YtnbcmobdenjjfabDoorRows.lean that lists a variable, with what it lists TIED to the program's text (the seventh form; the later family's looks); each row that meets fmt, with fmt's text TOLD by the authors' own Lean function (tested against real Go, not proved from fmt's source: count such statements apart). THE CARD IS WHAT COUNTS. Prove the row's statement (the work); the ties are given (YtnbcmobdenjjfabDoorTie.lean); close each card by the builder's one call (the guide's Derived/Test/ToyasCard.lean, 'card_holds'). Laid BY PROGRAM, IN A SANDBOX (cutbox-door.mjs). By AI agents, Wed Nov 11 2026. No macro, syntax, notation, axiom, sorry.
-/
import Derived.Test.YtnbcmobdenjjfabDoorRows
import GoSem.ClaimSeven
namespace Go.Proofs.YtnbcmobdenjjfabDoor
namespace Rows

/-- THE TIED CARD OF 'dragnetlaw2.SumsTold'. -/
def sumsToldCard : Claim7 := { stood := { row := sumsToldRow, standIns := [], harness := (true, "447f774953ce9560bf96c32c84340d309e04a284a0580cf4c0e3f6ae1af0267c"), looks := false }, kinds := [], alts := [], laidByText := true, laidKinds := [.data], laidTests := true, laidLooks := .later }
def SumsToldCardSaid : Prop := Claim7.holds Tryd.pinned (.plain (OpenSpec.ofChange sumsToldSpec)) sumsToldCard

/-- THE TIED CARD OF 'dragnetlaw2.SumsOne'. -/
def sumsOneCard : Claim7 := { stood := { row := sumsOneRow, standIns := [], harness := (true, "447f774953ce9560bf96c32c84340d309e04a284a0580cf4c0e3f6ae1af0267c"), looks := false }, kinds := [], alts := [], laidByText := true, laidKinds := [.data], laidTests := true, laidLooks := .later }
def SumsOneCardSaid : Prop := Claim7.holds Tryd.pinned (.plain (OpenSpec.ofChange sumsOneSpec)) sumsOneCard

/-- THE TIED CARD OF 'dragnetlaw2.SumsEach'. -/
def sumsEachCard : Claim7 := { stood := { row := sumsEachRow, standIns := [], harness := (true, "447f774953ce9560bf96c32c84340d309e04a284a0580cf4c0e3f6ae1af0267c"), looks := false }, kinds := [], alts := [], laidByText := true, laidKinds := [.data], laidTests := true, laidLooks := .later }
def SumsEachCardSaid : Prop := Claim7.holds Tryd.pinned (.plain (OpenSpec.ofChange sumsEachSpec)) sumsEachCard

/-- THE TIED CARD OF 'dragnetlaw2.SumsPieces'. -/
def sumsPiecesCard : Claim7 := { stood := { row := sumsPiecesRow, standIns := [], harness := (true, "447f774953ce9560bf96c32c84340d309e04a284a0580cf4c0e3f6ae1af0267c"), looks := false }, kinds := [], alts := [], laidByText := true, laidKinds := [.data], laidTests := true, laidLooks := .later }
def SumsPiecesCardSaid : Prop := Claim7.holds Tryd.pinned (.plain (OpenSpec.ofChange sumsPiecesSpec)) sumsPiecesCard

/-- THE SECOND FORM's CARD OF 'dragnetlaw2.SumsTold'. -/
def sumsToldUptoCard : Claim7 := { stood := { row := sumsToldUptoRow, standIns := [], harness := (true, "447f774953ce9560bf96c32c84340d309e04a284a0580cf4c0e3f6ae1af0267c"), looks := false }, kinds := [], alts := [], laidByText := true, laidKinds := [.data], laidTests := true, laidLooks := .later }
def SumsToldUptoCardSaid : Prop := Claim7.holds Tryd.pinned (.plain (OpenSpec.upto sumsToldSpec)) sumsToldUptoCard

/-- THE SECOND FORM's CARD OF 'dragnetlaw2.SumsOne'. -/
def sumsOneUptoCard : Claim7 := { stood := { row := sumsOneUptoRow, standIns := [], harness := (true, "447f774953ce9560bf96c32c84340d309e04a284a0580cf4c0e3f6ae1af0267c"), looks := false }, kinds := [], alts := [], laidByText := true, laidKinds := [.data], laidTests := true, laidLooks := .later }
def SumsOneUptoCardSaid : Prop := Claim7.holds Tryd.pinned (.plain (OpenSpec.upto sumsOneSpec)) sumsOneUptoCard

/-- THE SECOND FORM's CARD OF 'dragnetlaw2.SumsEach'. -/
def sumsEachUptoCard : Claim7 := { stood := { row := sumsEachUptoRow, standIns := [], harness := (true, "447f774953ce9560bf96c32c84340d309e04a284a0580cf4c0e3f6ae1af0267c"), looks := false }, kinds := [], alts := [], laidByText := true, laidKinds := [.data], laidTests := true, laidLooks := .later }
def SumsEachUptoCardSaid : Prop := Claim7.holds Tryd.pinned (.plain (OpenSpec.upto sumsEachSpec)) sumsEachUptoCard

/-- THE SECOND FORM's CARD OF 'dragnetlaw2.SumsPieces'. -/
def sumsPiecesUptoCard : Claim7 := { stood := { row := sumsPiecesUptoRow, standIns := [], harness := (true, "447f774953ce9560bf96c32c84340d309e04a284a0580cf4c0e3f6ae1af0267c"), looks := false }, kinds := [], alts := [], laidByText := true, laidKinds := [.data], laidTests := true, laidLooks := .later }
def SumsPiecesUptoCardSaid : Prop := Claim7.holds Tryd.pinned (.plain (OpenSpec.upto sumsPiecesSpec)) sumsPiecesUptoCard
end Rows
end Go.Proofs.YtnbcmobdenjjfabDoor
