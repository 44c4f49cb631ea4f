/-
  DERIVED. GIVEN WITH THE SEED: THE CARDS: each row of YthmpokndffbkdabDoorRows.lean that lists a variable, with what it lists TIED to the program's text (the seventh form; the later family's looks); each row that meets fmt, with fmt's text TOLD by the authors' own Lean function (tested against real Go, not proved from fmt's source: count such statements apart). THE CARD IS WHAT COUNTS. Prove the row's statement (the work); the ties are given (YthmpokndffbkdabDoorTie.lean); close each card by the builder's one call (the guide's Derived/Test/ToyasCard.lean, 'card_holds'). Laid BY PROGRAM, IN A SANDBOX (cutbox-door.mjs). By AI agents, Wed Nov 11 2026. No macro, syntax, notation, axiom, sorry.
-/
import Derived.Test.YthmpokndffbkdabDoorRows
import GoSem.ClaimSeven
namespace Go.Proofs.YthmpokndffbkdabDoor
namespace Rows

/-- THE TIED CARD OF 'dragnetlaw12.MomentAhead'. -/
def momentAheadCard : Claim7 := { stood := { row := momentAheadRow, standIns := [], harness := (true, "f391890312dc57ac48f09bfb7ddea9416862115d5644c46a0d988706a70bd268"), looks := false }, kinds := [], alts := [], laidByText := true, laidKinds := [.data, .data, .data, .data, .data, .data, .pinned], laidTests := true, laidLooks := .later }
def MomentAheadCardSaid : Prop := Claim7.holds Tryd.pinned (.plain (OpenSpec.ofChange momentAheadSpec)) momentAheadCard

/-- THE TIED CARD OF 'dragnetlaw12.MomentZones'. -/
def momentZonesCard : Claim7 := { stood := { row := momentZonesRow, standIns := [], harness := (true, "f391890312dc57ac48f09bfb7ddea9416862115d5644c46a0d988706a70bd268"), looks := false }, kinds := [], alts := [], laidByText := true, laidKinds := [.data, .data, .data, .data, .data, .data, .pinned], laidTests := true, laidLooks := .later }
def MomentZonesCardSaid : Prop := Claim7.holds Tryd.pinned (.plain (OpenSpec.ofChange momentZonesSpec)) momentZonesCard

/-- THE TIED CARD OF 'dragnetlaw12.MomentSpells'. -/
def momentSpellsCard : Claim7 := { stood := { row := momentSpellsRow, standIns := [], harness := (true, "f391890312dc57ac48f09bfb7ddea9416862115d5644c46a0d988706a70bd268"), looks := false }, kinds := [], alts := [], laidByText := true, laidKinds := [.data, .data, .data, .data, .data, .data, .pinned], laidTests := true, laidLooks := .later }
def MomentSpellsCardSaid : Prop := Claim7.holds Tryd.pinned (.plain (OpenSpec.ofChange momentSpellsSpec)) momentSpellsCard

/-- THE TIED CARD OF 'dragnetlaw12.MomentBuckets'. -/
def momentBucketsCard : Claim7 := { stood := { row := momentBucketsRow, standIns := [], harness := (true, "f391890312dc57ac48f09bfb7ddea9416862115d5644c46a0d988706a70bd268"), looks := false }, kinds := [], alts := [], laidByText := true, laidKinds := [.data, .data, .data, .data, .data, .data, .pinned], laidTests := true, laidLooks := .later }
def MomentBucketsCardSaid : Prop := Claim7.holds Tryd.pinned (.plain (OpenSpec.ofChange momentBucketsSpec)) momentBucketsCard

/-- THE SECOND FORM's CARD OF 'dragnetlaw12.MomentAhead'. -/
def momentAheadUptoCard : Claim7 := { stood := { row := momentAheadUptoRow, standIns := [], harness := (true, "f391890312dc57ac48f09bfb7ddea9416862115d5644c46a0d988706a70bd268"), looks := false }, kinds := [], alts := [], laidByText := true, laidKinds := [.data, .data, .data, .data, .data, .data, .pinned], laidTests := true, laidLooks := .later }
def MomentAheadUptoCardSaid : Prop := Claim7.holds Tryd.pinned (.plain (OpenSpec.upto momentAheadSpec)) momentAheadUptoCard

/-- THE SECOND FORM's CARD OF 'dragnetlaw12.MomentZones'. -/
def momentZonesUptoCard : Claim7 := { stood := { row := momentZonesUptoRow, standIns := [], harness := (true, "f391890312dc57ac48f09bfb7ddea9416862115d5644c46a0d988706a70bd268"), looks := false }, kinds := [], alts := [], laidByText := true, laidKinds := [.data, .data, .data, .data, .data, .data, .pinned], laidTests := true, laidLooks := .later }
def MomentZonesUptoCardSaid : Prop := Claim7.holds Tryd.pinned (.plain (OpenSpec.upto momentZonesSpec)) momentZonesUptoCard

/-- THE SECOND FORM's CARD OF 'dragnetlaw12.MomentSpells'. -/
def momentSpellsUptoCard : Claim7 := { stood := { row := momentSpellsUptoRow, standIns := [], harness := (true, "f391890312dc57ac48f09bfb7ddea9416862115d5644c46a0d988706a70bd268"), looks := false }, kinds := [], alts := [], laidByText := true, laidKinds := [.data, .data, .data, .data, .data, .data, .pinned], laidTests := true, laidLooks := .later }
def MomentSpellsUptoCardSaid : Prop := Claim7.holds Tryd.pinned (.plain (OpenSpec.upto momentSpellsSpec)) momentSpellsUptoCard

/-- THE SECOND FORM's CARD OF 'dragnetlaw12.MomentBuckets'. -/
def momentBucketsUptoCard : Claim7 := { stood := { row := momentBucketsUptoRow, standIns := [], harness := (true, "f391890312dc57ac48f09bfb7ddea9416862115d5644c46a0d988706a70bd268"), looks := false }, kinds := [], alts := [], laidByText := true, laidKinds := [.data, .data, .data, .data, .data, .data, .pinned], laidTests := true, laidLooks := .later }
def MomentBucketsUptoCardSaid : Prop := Claim7.holds Tryd.pinned (.plain (OpenSpec.upto momentBucketsSpec)) momentBucketsUptoCard
end Rows
end Go.Proofs.YthmpokndffbkdabDoor
