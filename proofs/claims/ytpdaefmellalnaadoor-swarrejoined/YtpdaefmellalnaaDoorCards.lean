/-
  DERIVED. GIVEN WITH THE SEED: THE CARDS: each row of YtpdaefmellalnaaDoorRows.lean that lists a variable, with what it lists TIED to the program's text (the seventh form; the later family's looks); each row that meets fmt, with fmt's text TOLD by the authors' own Lean function (tested against real Go, not proved from fmt's source: count such statements apart). THE CARD IS WHAT COUNTS. Prove the row's statement (the work); the ties are given (YtpdaefmellalnaaDoorTie.lean); close each card by the builder's one call (the guide's Derived/Test/ToyasCard.lean, 'card_holds'). Laid BY PROGRAM, IN A SANDBOX (cutbox-door.mjs). By AI agents, Wed Nov 11 2026. No macro, syntax, notation, axiom, sorry.
-/
import Derived.Test.YtpdaefmellalnaaDoorRows
import GoSem.ClaimSeven
namespace Go.Proofs.YtpdaefmellalnaaDoor
namespace Rows

/-- THE TIED CARD OF 'dragnetlaw1.SwarLines'. -/
def swarLinesCard : Claim7 := { stood := { row := swarLinesRow, standIns := [], harness := (true, "cc7d3f101c58d5fee2f75d66c79ad851c65e432745654f18dbe053878db4f75d"), looks := false }, kinds := [], alts := [], laidByText := true, laidKinds := [.data], laidTests := true, laidLooks := .later }
def SwarLinesCardSaid : Prop := Claim7.holds Tryd.pinned (.plain (OpenSpec.ofChange swarLinesSpec)) swarLinesCard

/-- THE TIED CARD OF 'dragnetlaw1.SwarRejoined'. -/
def swarRejoinedCard : Claim7 := { stood := { row := swarRejoinedRow, standIns := [], harness := (true, "cc7d3f101c58d5fee2f75d66c79ad851c65e432745654f18dbe053878db4f75d"), looks := false }, kinds := [], alts := [], laidByText := true, laidKinds := [.data], laidTests := true, laidLooks := .later }
def SwarRejoinedCardSaid : Prop := Claim7.holds Tryd.pinned (.plain (OpenSpec.ofChange swarRejoinedSpec)) swarRejoinedCard

/-- THE SECOND FORM's CARD OF 'dragnetlaw1.SwarLines'. -/
def swarLinesUptoCard : Claim7 := { stood := { row := swarLinesUptoRow, standIns := [], harness := (true, "cc7d3f101c58d5fee2f75d66c79ad851c65e432745654f18dbe053878db4f75d"), looks := false }, kinds := [], alts := [], laidByText := true, laidKinds := [.data], laidTests := true, laidLooks := .later }
def SwarLinesUptoCardSaid : Prop := Claim7.holds Tryd.pinned (.plain (OpenSpec.upto swarLinesSpec)) swarLinesUptoCard

/-- THE SECOND FORM's CARD OF 'dragnetlaw1.SwarRejoined'. -/
def swarRejoinedUptoCard : Claim7 := { stood := { row := swarRejoinedUptoRow, standIns := [], harness := (true, "cc7d3f101c58d5fee2f75d66c79ad851c65e432745654f18dbe053878db4f75d"), looks := false }, kinds := [], alts := [], laidByText := true, laidKinds := [.data], laidTests := true, laidLooks := .later }
def SwarRejoinedUptoCardSaid : Prop := Claim7.holds Tryd.pinned (.plain (OpenSpec.upto swarRejoinedSpec)) swarRejoinedUptoCard
end Rows
end Go.Proofs.YtpdaefmellalnaaDoor
