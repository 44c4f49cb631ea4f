/-
  DERIVED. GIVEN WITH THE SEED: THE CARDS: each row of YtapphnkddjchkaaDoorRows.lean that lists a variable, with what it lists TIED to the program's text (the seventh form; the later family's looks); each row that meets fmt, with fmt's text TOLD by the authors' own Lean function (tested against real Go, not proved from fmt's source: count such statements apart). THE CARD IS WHAT COUNTS. Prove the row's statement (the work); the ties are given (YtapphnkddjchkaaDoorTie.lean); close each card by the builder's one call (the guide's Derived/Test/ToyasCard.lean, 'card_holds'). Laid BY PROGRAM, IN A SANDBOX (cutbox-door.mjs). By AI agents, Wed Nov 11 2026. No macro, syntax, notation, axiom, sorry.
-/
import Derived.Test.YtapphnkddjchkaaDoorRows
import GoSem.ClaimSeven
namespace Go.Proofs.YtapphnkddjchkaaDoor
namespace Rows

/-- THE TIED CARD OF 'dragnetlaw2.SumsHash'. -/
def sumsHashCard : Claim7 := { stood := { row := sumsHashRow, standIns := [], harness := (true, "c74299aaad0241456d753a1b8820bc44e0e33399ea42b858a2be61941dd97b3b"), looks := false }, kinds := [], alts := [], laidByText := true, laidKinds := [.data], laidTests := true, laidLooks := .later }
def SumsHashCardSaid : Prop := Claim7.holds Tryd.pinned (.plain (OpenSpec.ofChange sumsHashSpec)) sumsHashCard

/-- THE SECOND FORM's CARD OF 'dragnetlaw2.SumsHash'. -/
def sumsHashUptoCard : Claim7 := { stood := { row := sumsHashUptoRow, standIns := [], harness := (true, "c74299aaad0241456d753a1b8820bc44e0e33399ea42b858a2be61941dd97b3b"), looks := false }, kinds := [], alts := [], laidByText := true, laidKinds := [.data], laidTests := true, laidLooks := .later }
def SumsHashUptoCardSaid : Prop := Claim7.holds Tryd.pinned (.plain (OpenSpec.upto sumsHashSpec)) sumsHashUptoCard
end Rows
end Go.Proofs.YtapphnkddjchkaaDoor
