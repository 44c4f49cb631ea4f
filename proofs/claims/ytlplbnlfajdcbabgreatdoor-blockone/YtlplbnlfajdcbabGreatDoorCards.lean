/-
  DERIVED. GIVEN WITH THE SEED: THE CARDS: each row of YtlplbnlfajdcbabGreatDoorRows.lean that lists a variable, with what it lists TIED to the program's text (the seventh form; the later family's looks); each row that meets fmt, with fmt's text TOLD by the authors' own Lean function (tested against real Go, not proved from fmt's source: count such statements apart). THE CARD IS WHAT COUNTS. Prove the row's statement (the work); the ties are given (YtlplbnlfajdcbabGreatDoorTie.lean); close each card by the builder's one call (the guide's Derived/Test/ToyasCard.lean, 'card_holds'). Laid BY PROGRAM, IN A SANDBOX (cutbox-door.mjs). By AI agents, Wed Nov 11 2026. No macro, syntax, notation, axiom, sorry.
-/
import Derived.Test.YtlplbnlfajdcbabGreatDoorRows
import GoSem.ClaimSeven
namespace Go.Proofs.YtlplbnlfajdcbabGreatDoor
namespace Rows

/-- THE TIED CARD OF 'dragnetlaw18.BlockOne'. -/
def blockOneCard : Claim7 := { stood := { row := blockOneRow, standIns := [], harness := (true, "eabe8967bc95b09dbcb40eb749834a6f3bf09185c5736e32712a253255aa054d"), looks := true }, kinds := [], alts := [], laidByText := true, laidKinds := [.handle, .data], laidTests := true, laidLooks := .later }
def BlockOneCardSaid : Prop := Claim7.holds Tryz.pinned (.plain (OpenSpec.ofChange blockOneSpec)) blockOneCard

/-- THE SECOND FORM's CARD OF 'dragnetlaw18.BlockOne'. -/
def blockOneUptoCard : Claim7 := { stood := { row := blockOneUptoRow, standIns := [], harness := (true, "eabe8967bc95b09dbcb40eb749834a6f3bf09185c5736e32712a253255aa054d"), looks := true }, kinds := [], alts := [], laidByText := true, laidKinds := [.handle, .data], laidTests := true, laidLooks := .later }
def BlockOneUptoCardSaid : Prop := Claim7.holds Tryz.pinned (.plain (OpenSpec.upto blockOneSpec)) blockOneUptoCard
end Rows
end Go.Proofs.YtlplbnlfajdcbabGreatDoor
