/-
  DERIVED. GIVEN WITH THE SEED: THE CARDS: each row of YthmpokndffbkdaaGreatDoorRows.lean that lists a variable, with what it lists TIED to the program's text (the seventh form; the later family's looks); each row that meets fmt, with fmt's text TOLD by the authors' own Lean function (tested against real Go, not proved from fmt's source: count such statements apart). THE CARD IS WHAT COUNTS. Prove the row's statement (the work); the ties are given (YthmpokndffbkdaaGreatDoorTie.lean); close each card by the builder's one call (the guide's Derived/Test/ToyasCard.lean, 'card_holds'). Laid BY PROGRAM, IN A SANDBOX (cutbox-door.mjs). By AI agents, Wed Nov 11 2026. No macro, syntax, notation, axiom, sorry.
-/
import Derived.Test.YthmpokndffbkdaaGreatDoorRows
import GoSem.ClaimSeven
namespace Go.Proofs.YthmpokndffbkdaaGreatDoor
namespace Rows

/-- THE TIED CARD OF 'dragnetlaw12.MomentReads'. -/
def momentReadsCard : Claim7 := { stood := { row := momentReadsRow, standIns := [], harness := (true, "5db3cec1bd96e47b64177d0f7ae0117aeebe5ce833b8e52b8aa2d89f36f44273"), looks := false }, kinds := [], alts := [], laidByText := true, laidKinds := [.data, .data, .data, .data, .data, .data, .pinned], laidTests := true, laidLooks := .later }
def MomentReadsCardSaid : Prop := Claim7.holds Tryz.pinned (.plain (OpenSpec.ofChange momentReadsSpec)) momentReadsCard

/-- THE SECOND FORM's CARD OF 'dragnetlaw12.MomentReads'. -/
def momentReadsUptoCard : Claim7 := { stood := { row := momentReadsUptoRow, standIns := [], harness := (true, "5db3cec1bd96e47b64177d0f7ae0117aeebe5ce833b8e52b8aa2d89f36f44273"), looks := false }, kinds := [], alts := [], laidByText := true, laidKinds := [.data, .data, .data, .data, .data, .data, .pinned], laidTests := true, laidLooks := .later }
def MomentReadsUptoCardSaid : Prop := Claim7.holds Tryz.pinned (.plain (OpenSpec.upto momentReadsSpec)) momentReadsUptoCard
end Rows
end Go.Proofs.YthmpokndffbkdaaGreatDoor
