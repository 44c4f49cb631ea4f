/-
  DERIVED. GIVEN WITH THE SEED: THE CARDS: each row of YtlplbnlfajdcbaaGreatDoorRows.lean that lists a variable, with what it lists TIED to the program's text (the seventh form; the later family's looks); each row that meets fmt, with fmt's text TOLD by the authors' own Lean function (tested against real Go, not proved from fmt's source: count such statements apart). THE CARD IS WHAT COUNTS. Prove the row's statement (the work); the ties are given (YtlplbnlfajdcbaaGreatDoorTie.lean); close each card by the builder's one call (the guide's Derived/Test/ToyasCard.lean, 'card_holds'). Laid BY PROGRAM, IN A SANDBOX (cutbox-door.mjs). By AI agents, Wed Nov 11 2026. No macro, syntax, notation, axiom, sorry.
-/
import Derived.Test.YtlplbnlfajdcbaaGreatDoorRows
import GoSem.ClaimSeven
namespace Go.Proofs.YtlplbnlfajdcbaaGreatDoor
namespace Rows

/-- THE TIED CARD OF 'dragnetlaw18.BlockSeals'. -/
def blockSealsCard : Claim7 := { stood := { row := blockSealsRow, standIns := [], harness := (true, "63212e7df43f22a6bba1bbc17533f357afda8f1b84949b75dc8b62bddf15c5dd"), looks := true }, kinds := [], alts := [], laidByText := true, laidKinds := [.handle, .data], laidTests := true, laidLooks := .later }
def BlockSealsCardSaid : Prop := Claim7.holds Tryz.pinned (.plain (OpenSpec.ofChange blockSealsSpec)) blockSealsCard

/-- THE TIED CARD OF 'dragnetlaw18.BlockOpens'. -/
def blockOpensCard : Claim7 := { stood := { row := blockOpensRow, standIns := [], harness := (true, "63212e7df43f22a6bba1bbc17533f357afda8f1b84949b75dc8b62bddf15c5dd"), looks := true }, kinds := [], alts := [], laidByText := true, laidKinds := [.handle, .data], laidTests := true, laidLooks := .later }
def BlockOpensCardSaid : Prop := Claim7.holds Tryz.pinned (.plain (OpenSpec.ofChange blockOpensSpec)) blockOpensCard

/-- THE TIED CARD OF 'dragnetlaw18.BlockBack'. -/
def blockBackCard : Claim7 := { stood := { row := blockBackRow, standIns := [], harness := (true, "63212e7df43f22a6bba1bbc17533f357afda8f1b84949b75dc8b62bddf15c5dd"), looks := true }, kinds := [], alts := [], laidByText := true, laidKinds := [.handle, .data], laidTests := true, laidLooks := .later }
def BlockBackCardSaid : Prop := Claim7.holds Tryz.pinned (.plain (OpenSpec.ofChange blockBackSpec)) blockBackCard

/-- THE TIED CARD OF 'dragnetlaw18.BlockTurned'. -/
def blockTurnedCard : Claim7 := { stood := { row := blockTurnedRow, standIns := [], harness := (true, "63212e7df43f22a6bba1bbc17533f357afda8f1b84949b75dc8b62bddf15c5dd"), looks := true }, kinds := [], alts := [], laidByText := true, laidKinds := [.handle, .data], laidTests := true, laidLooks := .later }
def BlockTurnedCardSaid : Prop := Claim7.holds Tryz.pinned (.plain (OpenSpec.ofChange blockTurnedSpec)) blockTurnedCard

/-- THE TIED CARD OF 'dragnetlaw18.BlockCut'. -/
def blockCutCard : Claim7 := { stood := { row := blockCutRow, standIns := [], harness := (true, "63212e7df43f22a6bba1bbc17533f357afda8f1b84949b75dc8b62bddf15c5dd"), looks := true }, kinds := [], alts := [], laidByText := true, laidKinds := [.handle, .data], laidTests := true, laidLooks := .later }
def BlockCutCardSaid : Prop := Claim7.holds Tryz.pinned (.plain (OpenSpec.ofChange blockCutSpec)) blockCutCard

/-- THE TIED CARD OF 'dragnetlaw18.BlockAgain'. -/
def blockAgainCard : Claim7 := { stood := { row := blockAgainRow, standIns := [], harness := (true, "63212e7df43f22a6bba1bbc17533f357afda8f1b84949b75dc8b62bddf15c5dd"), looks := true }, kinds := [], alts := [], laidByText := true, laidKinds := [.handle, .data], laidTests := true, laidLooks := .later }
def BlockAgainCardSaid : Prop := Claim7.holds Tryz.pinned (.plain (OpenSpec.ofChange blockAgainSpec)) blockAgainCard

/-- THE SECOND FORM's CARD OF 'dragnetlaw18.BlockSeals'. -/
def blockSealsUptoCard : Claim7 := { stood := { row := blockSealsUptoRow, standIns := [], harness := (true, "63212e7df43f22a6bba1bbc17533f357afda8f1b84949b75dc8b62bddf15c5dd"), looks := true }, kinds := [], alts := [], laidByText := true, laidKinds := [.handle, .data], laidTests := true, laidLooks := .later }
def BlockSealsUptoCardSaid : Prop := Claim7.holds Tryz.pinned (.plain (OpenSpec.upto blockSealsSpec)) blockSealsUptoCard

/-- THE SECOND FORM's CARD OF 'dragnetlaw18.BlockOpens'. -/
def blockOpensUptoCard : Claim7 := { stood := { row := blockOpensUptoRow, standIns := [], harness := (true, "63212e7df43f22a6bba1bbc17533f357afda8f1b84949b75dc8b62bddf15c5dd"), looks := true }, kinds := [], alts := [], laidByText := true, laidKinds := [.handle, .data], laidTests := true, laidLooks := .later }
def BlockOpensUptoCardSaid : Prop := Claim7.holds Tryz.pinned (.plain (OpenSpec.upto blockOpensSpec)) blockOpensUptoCard

/-- THE SECOND FORM's CARD OF 'dragnetlaw18.BlockBack'. -/
def blockBackUptoCard : Claim7 := { stood := { row := blockBackUptoRow, standIns := [], harness := (true, "63212e7df43f22a6bba1bbc17533f357afda8f1b84949b75dc8b62bddf15c5dd"), looks := true }, kinds := [], alts := [], laidByText := true, laidKinds := [.handle, .data], laidTests := true, laidLooks := .later }
def BlockBackUptoCardSaid : Prop := Claim7.holds Tryz.pinned (.plain (OpenSpec.upto blockBackSpec)) blockBackUptoCard

/-- THE SECOND FORM's CARD OF 'dragnetlaw18.BlockTurned'. -/
def blockTurnedUptoCard : Claim7 := { stood := { row := blockTurnedUptoRow, standIns := [], harness := (true, "63212e7df43f22a6bba1bbc17533f357afda8f1b84949b75dc8b62bddf15c5dd"), looks := true }, kinds := [], alts := [], laidByText := true, laidKinds := [.handle, .data], laidTests := true, laidLooks := .later }
def BlockTurnedUptoCardSaid : Prop := Claim7.holds Tryz.pinned (.plain (OpenSpec.upto blockTurnedSpec)) blockTurnedUptoCard

/-- THE SECOND FORM's CARD OF 'dragnetlaw18.BlockCut'. -/
def blockCutUptoCard : Claim7 := { stood := { row := blockCutUptoRow, standIns := [], harness := (true, "63212e7df43f22a6bba1bbc17533f357afda8f1b84949b75dc8b62bddf15c5dd"), looks := true }, kinds := [], alts := [], laidByText := true, laidKinds := [.handle, .data], laidTests := true, laidLooks := .later }
def BlockCutUptoCardSaid : Prop := Claim7.holds Tryz.pinned (.plain (OpenSpec.upto blockCutSpec)) blockCutUptoCard

/-- THE SECOND FORM's CARD OF 'dragnetlaw18.BlockAgain'. -/
def blockAgainUptoCard : Claim7 := { stood := { row := blockAgainUptoRow, standIns := [], harness := (true, "63212e7df43f22a6bba1bbc17533f357afda8f1b84949b75dc8b62bddf15c5dd"), looks := true }, kinds := [], alts := [], laidByText := true, laidKinds := [.handle, .data], laidTests := true, laidLooks := .later }
def BlockAgainUptoCardSaid : Prop := Claim7.holds Tryz.pinned (.plain (OpenSpec.upto blockAgainSpec)) blockAgainUptoCard
end Rows
end Go.Proofs.YtlplbnlfajdcbaaGreatDoor
