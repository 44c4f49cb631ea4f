/-
  DERIVED. GIVEN WITH THE SEED: THE CARDS: each row of YtlejfeapnnioeaaDoorRows.lean that lists a variable, with what it lists TIED to the program's text (the seventh form; the later family's looks); each row that meets fmt, with fmt's text TOLD by the authors' own Lean function (tested against real Go, not proved from fmt's source: count such statements apart). THE CARD IS WHAT COUNTS. Prove the row's statement (the work); the ties are given (YtlejfeapnnioeaaDoorTie.lean); close each card by the builder's one call (the guide's Derived/Test/ToyasCard.lean, 'card_holds'). Laid BY PROGRAM, IN A SANDBOX (cutbox-door.mjs). By AI agents, Wed Nov 11 2026. No macro, syntax, notation, axiom, sorry.
-/
import Derived.Test.YtlejfeapnnioeaaDoorRows
import GoSem.ClaimSeven
namespace Go.Proofs.YtlejfeapnnioeaaDoor
namespace Rows

/-- THE TIED CARD OF 'dragnetlaw7.ManyAlone'. -/
def manyAloneCard : Claim7 := { stood := { row := manyAloneRow, standIns := [], harness := (true, "9dcb07339127ecf0063c8882b534936c176d5b9059257a5ba882a7470b83de44"), looks := false }, kinds := [], alts := [], laidByText := true, laidKinds := [.data], laidTests := true, laidLooks := .later }
def ManyAloneCardSaid : Prop := Claim7.holds Tryd.pinned (.plain (OpenSpec.ofChange manyAloneSpec)) manyAloneCard

/-- THE TIED CARD OF 'dragnetlaw7.ManyGrows'. -/
def manyGrowsCard : Claim7 := { stood := { row := manyGrowsRow, standIns := [], harness := (true, "9dcb07339127ecf0063c8882b534936c176d5b9059257a5ba882a7470b83de44"), looks := false }, kinds := [], alts := [], laidByText := true, laidKinds := [.data], laidTests := true, laidLooks := .later }
def ManyGrowsCardSaid : Prop := Claim7.holds Tryd.pinned (.plain (OpenSpec.ofChange manyGrowsSpec)) manyGrowsCard

/-- THE SECOND FORM's CARD OF 'dragnetlaw7.ManyAlone'. -/
def manyAloneUptoCard : Claim7 := { stood := { row := manyAloneUptoRow, standIns := [], harness := (true, "9dcb07339127ecf0063c8882b534936c176d5b9059257a5ba882a7470b83de44"), looks := false }, kinds := [], alts := [], laidByText := true, laidKinds := [.data], laidTests := true, laidLooks := .later }
def ManyAloneUptoCardSaid : Prop := Claim7.holds Tryd.pinned (.plain (OpenSpec.upto manyAloneSpec)) manyAloneUptoCard

/-- THE SECOND FORM's CARD OF 'dragnetlaw7.ManyGrows'. -/
def manyGrowsUptoCard : Claim7 := { stood := { row := manyGrowsUptoRow, standIns := [], harness := (true, "9dcb07339127ecf0063c8882b534936c176d5b9059257a5ba882a7470b83de44"), looks := false }, kinds := [], alts := [], laidByText := true, laidKinds := [.data], laidTests := true, laidLooks := .later }
def ManyGrowsUptoCardSaid : Prop := Claim7.holds Tryd.pinned (.plain (OpenSpec.upto manyGrowsSpec)) manyGrowsUptoCard
end Rows
end Go.Proofs.YtlejfeapnnioeaaDoor
