/-
  DERIVED. GIVEN WITH THE SEED: THE CARDS: each row of YthooefogbbnbaaaDoorRows.lean that lists a variable, with what it lists TIED to the program's text (the seventh form; the later family's looks); each row that meets fmt, with fmt's text TOLD by the authors' own Lean function (tested against real Go, not proved from fmt's source: count such statements apart). THE CARD IS WHAT COUNTS. Prove the row's statement (the work); the ties are given (YthooefogbbnbaaaDoorTie.lean); close each card by the builder's one call (the guide's Derived/Test/ToyasCard.lean, 'card_holds'). Laid BY PROGRAM, IN A SANDBOX (cutbox-door.mjs). By AI agents, Wed Nov 11 2026. No macro, syntax, notation, axiom, sorry.
-/
import Derived.Test.YthooefogbbnbaaaDoorRows
import GoSem.ClaimSeven
namespace Go.Proofs.YthooefogbbnbaaaDoor
namespace Rows

/-- THE TIED CARD OF 'dragnetlaw1.SwarLines'. -/
def swarLinesCard : Claim7 := { stood := { row := swarLinesRow, standIns := [], harness := (true, "6141600a95bdfe8a9fda6016affc276af3e2a0bfbff64294dda58f45eed22bd7"), looks := false }, kinds := [], alts := [], laidByText := true, laidKinds := [.data], laidTests := true, laidLooks := .later }
def SwarLinesCardSaid : Prop := Claim7.holds Tryd.pinned (.plain (OpenSpec.ofChange swarLinesSpec)) swarLinesCard

/-- THE SECOND FORM's CARD OF 'dragnetlaw1.SwarLines'. -/
def swarLinesUptoCard : Claim7 := { stood := { row := swarLinesUptoRow, standIns := [], harness := (true, "6141600a95bdfe8a9fda6016affc276af3e2a0bfbff64294dda58f45eed22bd7"), looks := false }, kinds := [], alts := [], laidByText := true, laidKinds := [.data], laidTests := true, laidLooks := .later }
def SwarLinesUptoCardSaid : Prop := Claim7.holds Tryd.pinned (.plain (OpenSpec.upto swarLinesSpec)) swarLinesUptoCard
end Rows
end Go.Proofs.YthooefogbbnbaaaDoor
