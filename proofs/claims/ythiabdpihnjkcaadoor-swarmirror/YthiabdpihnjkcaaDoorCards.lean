/-
  DERIVED. GIVEN WITH THE SEED: THE CARDS: each row of YthiabdpihnjkcaaDoorRows.lean that lists a variable, with what it lists TIED to the program's text (the seventh form; the later family's looks); each row that meets fmt, with fmt's text TOLD by the authors' own Lean function (tested against real Go, not proved from fmt's source: count such statements apart). THE CARD IS WHAT COUNTS. Prove the row's statement (the work); the ties are given (YthiabdpihnjkcaaDoorTie.lean); close each card by the builder's one call (the guide's Derived/Test/ToyasCard.lean, 'card_holds'). Laid BY PROGRAM, IN A SANDBOX (cutbox-door.mjs). By AI agents, Wed Nov 11 2026. No macro, syntax, notation, axiom, sorry.
-/
import Derived.Test.YthiabdpihnjkcaaDoorRows
import GoSem.ClaimSeven
namespace Go.Proofs.YthiabdpihnjkcaaDoor
namespace Rows

/-- THE TIED CARD OF 'dragnetlaw1.SwarWords'. -/
def swarWordsCard : Claim7 := { stood := { row := swarWordsRow, standIns := [], harness := (true, "c06f2f2e5a024feb3792aaf8ed6c4631351f3a7ebf1444f8b4b669a8d4ae9822"), looks := false }, kinds := [], alts := [], laidByText := true, laidKinds := [.data], laidTests := true, laidLooks := .later }
def SwarWordsCardSaid : Prop := Claim7.holds Tryd.pinned (.plain (OpenSpec.ofChange swarWordsSpec)) swarWordsCard

/-- THE TIED CARD OF 'dragnetlaw1.SwarFinds'. -/
def swarFindsCard : Claim7 := { stood := { row := swarFindsRow, standIns := [], harness := (true, "c06f2f2e5a024feb3792aaf8ed6c4631351f3a7ebf1444f8b4b669a8d4ae9822"), looks := false }, kinds := [], alts := [], laidByText := true, laidKinds := [.data], laidTests := true, laidLooks := .later }
def SwarFindsCardSaid : Prop := Claim7.holds Tryd.pinned (.plain (OpenSpec.ofChange swarFindsSpec)) swarFindsCard

/-- THE TIED CARD OF 'dragnetlaw1.SwarPairs'. -/
def swarPairsCard : Claim7 := { stood := { row := swarPairsRow, standIns := [], harness := (true, "c06f2f2e5a024feb3792aaf8ed6c4631351f3a7ebf1444f8b4b669a8d4ae9822"), looks := false }, kinds := [], alts := [], laidByText := true, laidKinds := [.data], laidTests := true, laidLooks := .later }
def SwarPairsCardSaid : Prop := Claim7.holds Tryd.pinned (.plain (OpenSpec.ofChange swarPairsSpec)) swarPairsCard

/-- THE TIED CARD OF 'dragnetlaw1.SwarMarks'. -/
def swarMarksCard : Claim7 := { stood := { row := swarMarksRow, standIns := [], harness := (true, "c06f2f2e5a024feb3792aaf8ed6c4631351f3a7ebf1444f8b4b669a8d4ae9822"), looks := false }, kinds := [], alts := [], laidByText := true, laidKinds := [.data], laidTests := true, laidLooks := .later }
def SwarMarksCardSaid : Prop := Claim7.holds Tryd.pinned (.plain (OpenSpec.ofChange swarMarksSpec)) swarMarksCard

/-- THE TIED CARD OF 'dragnetlaw1.SwarReach'. -/
def swarReachCard : Claim7 := { stood := { row := swarReachRow, standIns := [], harness := (true, "c06f2f2e5a024feb3792aaf8ed6c4631351f3a7ebf1444f8b4b669a8d4ae9822"), looks := false }, kinds := [], alts := [], laidByText := true, laidKinds := [.data], laidTests := true, laidLooks := .later }
def SwarReachCardSaid : Prop := Claim7.holds Tryd.pinned (.plain (OpenSpec.ofChange swarReachSpec)) swarReachCard

/-- THE TIED CARD OF 'dragnetlaw1.SwarMirror'. -/
def swarMirrorCard : Claim7 := { stood := { row := swarMirrorRow, standIns := [], harness := (true, "c06f2f2e5a024feb3792aaf8ed6c4631351f3a7ebf1444f8b4b669a8d4ae9822"), looks := false }, kinds := [], alts := [], laidByText := true, laidKinds := [.data], laidTests := true, laidLooks := .later }
def SwarMirrorCardSaid : Prop := Claim7.holds Tryd.pinned (.plain (OpenSpec.ofChange swarMirrorSpec)) swarMirrorCard

/-- THE SECOND FORM's CARD OF 'dragnetlaw1.SwarWords'. -/
def swarWordsUptoCard : Claim7 := { stood := { row := swarWordsUptoRow, standIns := [], harness := (true, "c06f2f2e5a024feb3792aaf8ed6c4631351f3a7ebf1444f8b4b669a8d4ae9822"), looks := false }, kinds := [], alts := [], laidByText := true, laidKinds := [.data], laidTests := true, laidLooks := .later }
def SwarWordsUptoCardSaid : Prop := Claim7.holds Tryd.pinned (.plain (OpenSpec.upto swarWordsSpec)) swarWordsUptoCard

/-- THE SECOND FORM's CARD OF 'dragnetlaw1.SwarFinds'. -/
def swarFindsUptoCard : Claim7 := { stood := { row := swarFindsUptoRow, standIns := [], harness := (true, "c06f2f2e5a024feb3792aaf8ed6c4631351f3a7ebf1444f8b4b669a8d4ae9822"), looks := false }, kinds := [], alts := [], laidByText := true, laidKinds := [.data], laidTests := true, laidLooks := .later }
def SwarFindsUptoCardSaid : Prop := Claim7.holds Tryd.pinned (.plain (OpenSpec.upto swarFindsSpec)) swarFindsUptoCard

/-- THE SECOND FORM's CARD OF 'dragnetlaw1.SwarPairs'. -/
def swarPairsUptoCard : Claim7 := { stood := { row := swarPairsUptoRow, standIns := [], harness := (true, "c06f2f2e5a024feb3792aaf8ed6c4631351f3a7ebf1444f8b4b669a8d4ae9822"), looks := false }, kinds := [], alts := [], laidByText := true, laidKinds := [.data], laidTests := true, laidLooks := .later }
def SwarPairsUptoCardSaid : Prop := Claim7.holds Tryd.pinned (.plain (OpenSpec.upto swarPairsSpec)) swarPairsUptoCard

/-- THE SECOND FORM's CARD OF 'dragnetlaw1.SwarMarks'. -/
def swarMarksUptoCard : Claim7 := { stood := { row := swarMarksUptoRow, standIns := [], harness := (true, "c06f2f2e5a024feb3792aaf8ed6c4631351f3a7ebf1444f8b4b669a8d4ae9822"), looks := false }, kinds := [], alts := [], laidByText := true, laidKinds := [.data], laidTests := true, laidLooks := .later }
def SwarMarksUptoCardSaid : Prop := Claim7.holds Tryd.pinned (.plain (OpenSpec.upto swarMarksSpec)) swarMarksUptoCard

/-- THE SECOND FORM's CARD OF 'dragnetlaw1.SwarReach'. -/
def swarReachUptoCard : Claim7 := { stood := { row := swarReachUptoRow, standIns := [], harness := (true, "c06f2f2e5a024feb3792aaf8ed6c4631351f3a7ebf1444f8b4b669a8d4ae9822"), looks := false }, kinds := [], alts := [], laidByText := true, laidKinds := [.data], laidTests := true, laidLooks := .later }
def SwarReachUptoCardSaid : Prop := Claim7.holds Tryd.pinned (.plain (OpenSpec.upto swarReachSpec)) swarReachUptoCard

/-- THE SECOND FORM's CARD OF 'dragnetlaw1.SwarMirror'. -/
def swarMirrorUptoCard : Claim7 := { stood := { row := swarMirrorUptoRow, standIns := [], harness := (true, "c06f2f2e5a024feb3792aaf8ed6c4631351f3a7ebf1444f8b4b669a8d4ae9822"), looks := false }, kinds := [], alts := [], laidByText := true, laidKinds := [.data], laidTests := true, laidLooks := .later }
def SwarMirrorUptoCardSaid : Prop := Claim7.holds Tryd.pinned (.plain (OpenSpec.upto swarMirrorSpec)) swarMirrorUptoCard
end Rows
end Go.Proofs.YthiabdpihnjkcaaDoor
