/-
  DERIVED. GIVEN WITH THE SEED: THE CARDS: each row of YtjodfdfegbbogaaDoorRows.lean that lists a variable, with what it lists TIED to the program's text (the seventh form; the later family's looks); each row that meets fmt, with fmt's text TOLD by the authors' own Lean function (tested against real Go, not proved from fmt's source: count such statements apart). THE CARD IS WHAT COUNTS. Prove the row's statement (the work); the ties are given (YtjodfdfegbbogaaDoorTie.lean); close each card by the builder's one call (the guide's Derived/Test/ToyasCard.lean, 'card_holds'). Laid BY PROGRAM, IN A SANDBOX (cutbox-door.mjs). By AI agents, Wed Nov 11 2026. No macro, syntax, notation, axiom, sorry.
-/
import Derived.Test.YtjodfdfegbbogaaDoorRows
import GoSem.ClaimSeven
namespace Go.Proofs.YtjodfdfegbbogaaDoor
namespace Rows

/-- THE TIED CARD OF 'dragnetlaw1.SwarTexts'. -/
def swarTextsCard : Claim7 := { stood := { row := swarTextsRow, standIns := [], harness := (true, "ddbcc70b9a7204141750a694f8393882bf0bb4e5c2c3baa7a283974663a45e1f"), looks := false }, kinds := [], alts := [], laidByText := true, laidKinds := [.data], laidTests := true, laidLooks := .later }
def SwarTextsCardSaid : Prop := Claim7.holds Tryd.pinned (.plain (OpenSpec.ofChange swarTextsSpec)) swarTextsCard

/-- THE TIED CARD OF 'dragnetlaw1.SwarLines'. -/
def swarLinesCard : Claim7 := { stood := { row := swarLinesRow, standIns := [], harness := (true, "ddbcc70b9a7204141750a694f8393882bf0bb4e5c2c3baa7a283974663a45e1f"), looks := false }, kinds := [], alts := [], laidByText := true, laidKinds := [.data], laidTests := true, laidLooks := .later }
def SwarLinesCardSaid : Prop := Claim7.holds Tryd.pinned (.plain (OpenSpec.ofChange swarLinesSpec)) swarLinesCard

/-- THE TIED CARD OF 'dragnetlaw1.SwarCase'. -/
def swarCaseCard : Claim7 := { stood := { row := swarCaseRow, standIns := [], harness := (true, "ddbcc70b9a7204141750a694f8393882bf0bb4e5c2c3baa7a283974663a45e1f"), looks := false }, kinds := [], alts := [], laidByText := true, laidKinds := [.data], laidTests := true, laidLooks := .later }
def SwarCaseCardSaid : Prop := Claim7.holds Tryd.pinned (.plain (OpenSpec.ofChange swarCaseSpec)) swarCaseCard

/-- THE TIED CARD OF 'dragnetlaw1.SwarRejoined'. -/
def swarRejoinedCard : Claim7 := { stood := { row := swarRejoinedRow, standIns := [], harness := (true, "ddbcc70b9a7204141750a694f8393882bf0bb4e5c2c3baa7a283974663a45e1f"), looks := false }, kinds := [], alts := [], laidByText := true, laidKinds := [.data], laidTests := true, laidLooks := .later }
def SwarRejoinedCardSaid : Prop := Claim7.holds Tryd.pinned (.plain (OpenSpec.ofChange swarRejoinedSpec)) swarRejoinedCard

/-- THE SECOND FORM's CARD OF 'dragnetlaw1.SwarTexts'. -/
def swarTextsUptoCard : Claim7 := { stood := { row := swarTextsUptoRow, standIns := [], harness := (true, "ddbcc70b9a7204141750a694f8393882bf0bb4e5c2c3baa7a283974663a45e1f"), looks := false }, kinds := [], alts := [], laidByText := true, laidKinds := [.data], laidTests := true, laidLooks := .later }
def SwarTextsUptoCardSaid : Prop := Claim7.holds Tryd.pinned (.plain (OpenSpec.upto swarTextsSpec)) swarTextsUptoCard

/-- THE SECOND FORM's CARD OF 'dragnetlaw1.SwarLines'. -/
def swarLinesUptoCard : Claim7 := { stood := { row := swarLinesUptoRow, standIns := [], harness := (true, "ddbcc70b9a7204141750a694f8393882bf0bb4e5c2c3baa7a283974663a45e1f"), looks := false }, kinds := [], alts := [], laidByText := true, laidKinds := [.data], laidTests := true, laidLooks := .later }
def SwarLinesUptoCardSaid : Prop := Claim7.holds Tryd.pinned (.plain (OpenSpec.upto swarLinesSpec)) swarLinesUptoCard

/-- THE SECOND FORM's CARD OF 'dragnetlaw1.SwarCase'. -/
def swarCaseUptoCard : Claim7 := { stood := { row := swarCaseUptoRow, standIns := [], harness := (true, "ddbcc70b9a7204141750a694f8393882bf0bb4e5c2c3baa7a283974663a45e1f"), looks := false }, kinds := [], alts := [], laidByText := true, laidKinds := [.data], laidTests := true, laidLooks := .later }
def SwarCaseUptoCardSaid : Prop := Claim7.holds Tryd.pinned (.plain (OpenSpec.upto swarCaseSpec)) swarCaseUptoCard

/-- THE SECOND FORM's CARD OF 'dragnetlaw1.SwarRejoined'. -/
def swarRejoinedUptoCard : Claim7 := { stood := { row := swarRejoinedUptoRow, standIns := [], harness := (true, "ddbcc70b9a7204141750a694f8393882bf0bb4e5c2c3baa7a283974663a45e1f"), looks := false }, kinds := [], alts := [], laidByText := true, laidKinds := [.data], laidTests := true, laidLooks := .later }
def SwarRejoinedUptoCardSaid : Prop := Claim7.holds Tryd.pinned (.plain (OpenSpec.upto swarRejoinedSpec)) swarRejoinedUptoCard
end Rows
end Go.Proofs.YtjodfdfegbbogaaDoor
