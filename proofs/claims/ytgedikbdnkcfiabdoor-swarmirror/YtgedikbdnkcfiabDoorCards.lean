/-
  DERIVED. GIVEN WITH THE SEED: THE CARDS: each row of YtgedikbdnkcfiabDoorRows.lean that lists a variable, with what it lists TIED to the program's text (the seventh form; the later family's looks); each row that meets fmt, with fmt's text TOLD by the authors' own Lean function (tested against real Go, not proved from fmt's source: count such statements apart). THE CARD IS WHAT COUNTS. Prove the row's statement (the work); the ties are given (YtgedikbdnkcfiabDoorTie.lean); close each card by the builder's one call (the guide's Derived/Test/ToyasCard.lean, 'card_holds'). Laid BY PROGRAM, IN A SANDBOX (cutbox-door.mjs). By AI agents, Wed Nov 11 2026. No macro, syntax, notation, axiom, sorry.
-/
import Derived.Test.YtgedikbdnkcfiabDoorRows
import GoSem.ClaimSeven
namespace Go.Proofs.YtgedikbdnkcfiabDoor
namespace Rows

/-- THE TIED CARD OF 'dragnetlaw1.SwarMarks'. -/
def swarMarksCard : Claim7 := { stood := { row := swarMarksRow, standIns := [], harness := (true, "8aa277bca1f530884d846453edfe29a78826200514bbd2c29a8c511d2b364b4b"), looks := false }, kinds := [], alts := [], laidByText := true, laidKinds := [.data], laidTests := true, laidLooks := .later }
def SwarMarksCardSaid : Prop := Claim7.holds Tryd.pinned (.plain (OpenSpec.ofChange swarMarksSpec)) swarMarksCard

/-- THE TIED CARD OF 'dragnetlaw1.SwarReach'. -/
def swarReachCard : Claim7 := { stood := { row := swarReachRow, standIns := [], harness := (true, "8aa277bca1f530884d846453edfe29a78826200514bbd2c29a8c511d2b364b4b"), looks := false }, kinds := [], alts := [], laidByText := true, laidKinds := [.data], laidTests := true, laidLooks := .later }
def SwarReachCardSaid : Prop := Claim7.holds Tryd.pinned (.plain (OpenSpec.ofChange swarReachSpec)) swarReachCard

/-- THE TIED CARD OF 'dragnetlaw1.SwarMirror'. -/
def swarMirrorCard : Claim7 := { stood := { row := swarMirrorRow, standIns := [], harness := (true, "8aa277bca1f530884d846453edfe29a78826200514bbd2c29a8c511d2b364b4b"), looks := false }, kinds := [], alts := [], laidByText := true, laidKinds := [.data], laidTests := true, laidLooks := .later }
def SwarMirrorCardSaid : Prop := Claim7.holds Tryd.pinned (.plain (OpenSpec.ofChange swarMirrorSpec)) swarMirrorCard

/-- THE TIED CARD OF 'dragnetlaw1.SwarApart'. -/
def swarApartCard : Claim7 := { stood := { row := swarApartRow, standIns := [], harness := (true, "8aa277bca1f530884d846453edfe29a78826200514bbd2c29a8c511d2b364b4b"), looks := false }, kinds := [], alts := [], laidByText := true, laidKinds := [.data], laidTests := true, laidLooks := .later }
def SwarApartCardSaid : Prop := Claim7.holds Tryd.pinned (.plain (OpenSpec.ofChange swarApartSpec)) swarApartCard

/-- THE TIED CARD OF 'dragnetlaw1.SwarOrder'. -/
def swarOrderCard : Claim7 := { stood := { row := swarOrderRow, standIns := [], harness := (true, "8aa277bca1f530884d846453edfe29a78826200514bbd2c29a8c511d2b364b4b"), looks := false }, kinds := [], alts := [], laidByText := true, laidKinds := [.data], laidTests := true, laidLooks := .later }
def SwarOrderCardSaid : Prop := Claim7.holds Tryd.pinned (.plain (OpenSpec.ofChange swarOrderSpec)) swarOrderCard

/-- THE TIED CARD OF 'dragnetlaw1.SwarCase'. -/
def swarCaseCard : Claim7 := { stood := { row := swarCaseRow, standIns := [], harness := (true, "8aa277bca1f530884d846453edfe29a78826200514bbd2c29a8c511d2b364b4b"), looks := false }, kinds := [], alts := [], laidByText := true, laidKinds := [.data], laidTests := true, laidLooks := .later }
def SwarCaseCardSaid : Prop := Claim7.holds Tryd.pinned (.plain (OpenSpec.ofChange swarCaseSpec)) swarCaseCard

/-- THE SECOND FORM's CARD OF 'dragnetlaw1.SwarMarks'. -/
def swarMarksUptoCard : Claim7 := { stood := { row := swarMarksUptoRow, standIns := [], harness := (true, "8aa277bca1f530884d846453edfe29a78826200514bbd2c29a8c511d2b364b4b"), looks := false }, kinds := [], alts := [], laidByText := true, laidKinds := [.data], laidTests := true, laidLooks := .later }
def SwarMarksUptoCardSaid : Prop := Claim7.holds Tryd.pinned (.plain (OpenSpec.upto swarMarksSpec)) swarMarksUptoCard

/-- THE SECOND FORM's CARD OF 'dragnetlaw1.SwarReach'. -/
def swarReachUptoCard : Claim7 := { stood := { row := swarReachUptoRow, standIns := [], harness := (true, "8aa277bca1f530884d846453edfe29a78826200514bbd2c29a8c511d2b364b4b"), looks := false }, kinds := [], alts := [], laidByText := true, laidKinds := [.data], laidTests := true, laidLooks := .later }
def SwarReachUptoCardSaid : Prop := Claim7.holds Tryd.pinned (.plain (OpenSpec.upto swarReachSpec)) swarReachUptoCard

/-- THE SECOND FORM's CARD OF 'dragnetlaw1.SwarMirror'. -/
def swarMirrorUptoCard : Claim7 := { stood := { row := swarMirrorUptoRow, standIns := [], harness := (true, "8aa277bca1f530884d846453edfe29a78826200514bbd2c29a8c511d2b364b4b"), looks := false }, kinds := [], alts := [], laidByText := true, laidKinds := [.data], laidTests := true, laidLooks := .later }
def SwarMirrorUptoCardSaid : Prop := Claim7.holds Tryd.pinned (.plain (OpenSpec.upto swarMirrorSpec)) swarMirrorUptoCard

/-- THE SECOND FORM's CARD OF 'dragnetlaw1.SwarApart'. -/
def swarApartUptoCard : Claim7 := { stood := { row := swarApartUptoRow, standIns := [], harness := (true, "8aa277bca1f530884d846453edfe29a78826200514bbd2c29a8c511d2b364b4b"), looks := false }, kinds := [], alts := [], laidByText := true, laidKinds := [.data], laidTests := true, laidLooks := .later }
def SwarApartUptoCardSaid : Prop := Claim7.holds Tryd.pinned (.plain (OpenSpec.upto swarApartSpec)) swarApartUptoCard

/-- THE SECOND FORM's CARD OF 'dragnetlaw1.SwarOrder'. -/
def swarOrderUptoCard : Claim7 := { stood := { row := swarOrderUptoRow, standIns := [], harness := (true, "8aa277bca1f530884d846453edfe29a78826200514bbd2c29a8c511d2b364b4b"), looks := false }, kinds := [], alts := [], laidByText := true, laidKinds := [.data], laidTests := true, laidLooks := .later }
def SwarOrderUptoCardSaid : Prop := Claim7.holds Tryd.pinned (.plain (OpenSpec.upto swarOrderSpec)) swarOrderUptoCard

/-- THE SECOND FORM's CARD OF 'dragnetlaw1.SwarCase'. -/
def swarCaseUptoCard : Claim7 := { stood := { row := swarCaseUptoRow, standIns := [], harness := (true, "8aa277bca1f530884d846453edfe29a78826200514bbd2c29a8c511d2b364b4b"), looks := false }, kinds := [], alts := [], laidByText := true, laidKinds := [.data], laidTests := true, laidLooks := .later }
def SwarCaseUptoCardSaid : Prop := Claim7.holds Tryd.pinned (.plain (OpenSpec.upto swarCaseSpec)) swarCaseUptoCard
end Rows
end Go.Proofs.YtgedikbdnkcfiabDoor
