/-
  DERIVED. GIVEN WITH THE SEED: THE CARDS: each row of YtgedikbdnkcfiaaDoorRows.lean that lists a variable, with what it lists TIED to the program's text (the seventh form; the later family's looks); each row that meets fmt, with fmt's text TOLD by the authors' own Lean function (tested against real Go, not proved from fmt's source: count such statements apart). THE CARD IS WHAT COUNTS. Prove the row's statement (the work); the ties are given (YtgedikbdnkcfiaaDoorTie.lean); close each card by the builder's one call (the guide's Derived/Test/ToyasCard.lean, 'card_holds'). Laid BY PROGRAM, IN A SANDBOX (cutbox-door.mjs). By AI agents, Wed Nov 11 2026. No macro, syntax, notation, axiom, sorry.
-/
import Derived.Test.YtgedikbdnkcfiaaDoorRows
import GoSem.ClaimSeven
namespace Go.Proofs.YtgedikbdnkcfiaaDoor
namespace Rows

/-- THE TIED CARD OF 'dragnetlaw1.SwarWords'. -/
def swarWordsCard : Claim7 := { stood := { row := swarWordsRow, standIns := [], harness := (true, "8d2b67b4f3bb30cf9173b36133e42d2f5b15a44e0546678f7bf66183a87c4a67"), looks := false }, kinds := [], alts := [], laidByText := true, laidKinds := [.data], laidTests := true, laidLooks := .later }
def SwarWordsCardSaid : Prop := Claim7.holds Tryd.pinned (.plain (OpenSpec.ofChange swarWordsSpec)) swarWordsCard

/-- THE TIED CARD OF 'dragnetlaw1.SwarFinds'. -/
def swarFindsCard : Claim7 := { stood := { row := swarFindsRow, standIns := [], harness := (true, "8d2b67b4f3bb30cf9173b36133e42d2f5b15a44e0546678f7bf66183a87c4a67"), looks := false }, kinds := [], alts := [], laidByText := true, laidKinds := [.data], laidTests := true, laidLooks := .later }
def SwarFindsCardSaid : Prop := Claim7.holds Tryd.pinned (.plain (OpenSpec.ofChange swarFindsSpec)) swarFindsCard

/-- THE TIED CARD OF 'dragnetlaw1.SwarPairs'. -/
def swarPairsCard : Claim7 := { stood := { row := swarPairsRow, standIns := [], harness := (true, "8d2b67b4f3bb30cf9173b36133e42d2f5b15a44e0546678f7bf66183a87c4a67"), looks := false }, kinds := [], alts := [], laidByText := true, laidKinds := [.data], laidTests := true, laidLooks := .later }
def SwarPairsCardSaid : Prop := Claim7.holds Tryd.pinned (.plain (OpenSpec.ofChange swarPairsSpec)) swarPairsCard

/-- THE TIED CARD OF 'dragnetlaw1.SwarTexts'. -/
def swarTextsCard : Claim7 := { stood := { row := swarTextsRow, standIns := [], harness := (true, "8d2b67b4f3bb30cf9173b36133e42d2f5b15a44e0546678f7bf66183a87c4a67"), looks := false }, kinds := [], alts := [], laidByText := true, laidKinds := [.data], laidTests := true, laidLooks := .later }
def SwarTextsCardSaid : Prop := Claim7.holds Tryd.pinned (.plain (OpenSpec.ofChange swarTextsSpec)) swarTextsCard

/-- THE TIED CARD OF 'dragnetlaw1.SwarLines'. -/
def swarLinesCard : Claim7 := { stood := { row := swarLinesRow, standIns := [], harness := (true, "8d2b67b4f3bb30cf9173b36133e42d2f5b15a44e0546678f7bf66183a87c4a67"), looks := false }, kinds := [], alts := [], laidByText := true, laidKinds := [.data], laidTests := true, laidLooks := .later }
def SwarLinesCardSaid : Prop := Claim7.holds Tryd.pinned (.plain (OpenSpec.ofChange swarLinesSpec)) swarLinesCard

/-- THE SECOND FORM's CARD OF 'dragnetlaw1.SwarWords'. -/
def swarWordsUptoCard : Claim7 := { stood := { row := swarWordsUptoRow, standIns := [], harness := (true, "8d2b67b4f3bb30cf9173b36133e42d2f5b15a44e0546678f7bf66183a87c4a67"), looks := false }, kinds := [], alts := [], laidByText := true, laidKinds := [.data], laidTests := true, laidLooks := .later }
def SwarWordsUptoCardSaid : Prop := Claim7.holds Tryd.pinned (.plain (OpenSpec.upto swarWordsSpec)) swarWordsUptoCard

/-- THE SECOND FORM's CARD OF 'dragnetlaw1.SwarFinds'. -/
def swarFindsUptoCard : Claim7 := { stood := { row := swarFindsUptoRow, standIns := [], harness := (true, "8d2b67b4f3bb30cf9173b36133e42d2f5b15a44e0546678f7bf66183a87c4a67"), looks := false }, kinds := [], alts := [], laidByText := true, laidKinds := [.data], laidTests := true, laidLooks := .later }
def SwarFindsUptoCardSaid : Prop := Claim7.holds Tryd.pinned (.plain (OpenSpec.upto swarFindsSpec)) swarFindsUptoCard

/-- THE SECOND FORM's CARD OF 'dragnetlaw1.SwarPairs'. -/
def swarPairsUptoCard : Claim7 := { stood := { row := swarPairsUptoRow, standIns := [], harness := (true, "8d2b67b4f3bb30cf9173b36133e42d2f5b15a44e0546678f7bf66183a87c4a67"), looks := false }, kinds := [], alts := [], laidByText := true, laidKinds := [.data], laidTests := true, laidLooks := .later }
def SwarPairsUptoCardSaid : Prop := Claim7.holds Tryd.pinned (.plain (OpenSpec.upto swarPairsSpec)) swarPairsUptoCard

/-- THE SECOND FORM's CARD OF 'dragnetlaw1.SwarTexts'. -/
def swarTextsUptoCard : Claim7 := { stood := { row := swarTextsUptoRow, standIns := [], harness := (true, "8d2b67b4f3bb30cf9173b36133e42d2f5b15a44e0546678f7bf66183a87c4a67"), looks := false }, kinds := [], alts := [], laidByText := true, laidKinds := [.data], laidTests := true, laidLooks := .later }
def SwarTextsUptoCardSaid : Prop := Claim7.holds Tryd.pinned (.plain (OpenSpec.upto swarTextsSpec)) swarTextsUptoCard

/-- THE SECOND FORM's CARD OF 'dragnetlaw1.SwarLines'. -/
def swarLinesUptoCard : Claim7 := { stood := { row := swarLinesUptoRow, standIns := [], harness := (true, "8d2b67b4f3bb30cf9173b36133e42d2f5b15a44e0546678f7bf66183a87c4a67"), looks := false }, kinds := [], alts := [], laidByText := true, laidKinds := [.data], laidTests := true, laidLooks := .later }
def SwarLinesUptoCardSaid : Prop := Claim7.holds Tryd.pinned (.plain (OpenSpec.upto swarLinesSpec)) swarLinesUptoCard
end Rows
end Go.Proofs.YtgedikbdnkcfiaaDoor
