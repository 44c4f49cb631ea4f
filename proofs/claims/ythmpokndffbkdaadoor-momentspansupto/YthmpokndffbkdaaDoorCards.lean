/-
  DERIVED. GIVEN WITH THE SEED: THE CARDS: each row of YthmpokndffbkdaaDoorRows.lean that lists a variable, with what it lists TIED to the program's text (the seventh form; the later family's looks); each row that meets fmt, with fmt's text TOLD by the authors' own Lean function (tested against real Go, not proved from fmt's source: count such statements apart). THE CARD IS WHAT COUNTS. Prove the row's statement (the work); the ties are given (YthmpokndffbkdaaDoorTie.lean); close each card by the builder's one call (the guide's Derived/Test/ToyasCard.lean, 'card_holds'). Laid BY PROGRAM, IN A SANDBOX (cutbox-door.mjs). By AI agents, Wed Nov 11 2026. No macro, syntax, notation, axiom, sorry.
-/
import Derived.Test.YthmpokndffbkdaaDoorRows
import GoSem.ClaimSeven
namespace Go.Proofs.YthmpokndffbkdaaDoor
namespace Rows

/-- THE TIED CARD OF 'dragnetlaw12.MomentDates'. -/
def momentDatesCard : Claim7 := { stood := { row := momentDatesRow, standIns := [], harness := (true, "c4f40305a2a2286f1e8a0c89a0c6db6947a64c77b19c4def83d75716174634cd"), looks := false }, kinds := [], alts := [], laidByText := true, laidKinds := [.data, .data, .data, .data, .data, .data, .pinned], laidTests := true, laidLooks := .later }
def MomentDatesCardSaid : Prop := Claim7.holds Tryd.pinned (.plain (OpenSpec.ofChange momentDatesSpec)) momentDatesCard

/-- THE TIED CARD OF 'dragnetlaw12.MomentSpans'. -/
def momentSpansCard : Claim7 := { stood := { row := momentSpansRow, standIns := [], harness := (true, "c4f40305a2a2286f1e8a0c89a0c6db6947a64c77b19c4def83d75716174634cd"), looks := false }, kinds := [], alts := [], laidByText := true, laidKinds := [.data, .data, .data, .data, .data, .data, .pinned], laidTests := true, laidLooks := .later }
def MomentSpansCardSaid : Prop := Claim7.holds Tryd.pinned (.plain (OpenSpec.ofChange momentSpansSpec)) momentSpansCard

/-- THE TIED CARD OF 'dragnetlaw12.MomentBack'. -/
def momentBackCard : Claim7 := { stood := { row := momentBackRow, standIns := [], harness := (true, "c4f40305a2a2286f1e8a0c89a0c6db6947a64c77b19c4def83d75716174634cd"), looks := false }, kinds := [], alts := [], laidByText := true, laidKinds := [.data, .data, .data, .data, .data, .data, .pinned], laidTests := true, laidLooks := .later }
def MomentBackCardSaid : Prop := Claim7.holds Tryd.pinned (.plain (OpenSpec.ofChange momentBackSpec)) momentBackCard

/-- THE TIED CARD OF 'dragnetlaw12.MomentNext'. -/
def momentNextCard : Claim7 := { stood := { row := momentNextRow, standIns := [], harness := (true, "c4f40305a2a2286f1e8a0c89a0c6db6947a64c77b19c4def83d75716174634cd"), looks := false }, kinds := [], alts := [], laidByText := true, laidKinds := [.data, .data, .data, .data, .data, .data, .pinned], laidTests := true, laidLooks := .later }
def MomentNextCardSaid : Prop := Claim7.holds Tryd.pinned (.plain (OpenSpec.ofChange momentNextSpec)) momentNextCard

/-- THE TIED CARD OF 'dragnetlaw12.MomentOrder'. -/
def momentOrderCard : Claim7 := { stood := { row := momentOrderRow, standIns := [], harness := (true, "c4f40305a2a2286f1e8a0c89a0c6db6947a64c77b19c4def83d75716174634cd"), looks := false }, kinds := [], alts := [], laidByText := true, laidKinds := [.data, .data, .data, .data, .data, .data, .pinned], laidTests := true, laidLooks := .later }
def MomentOrderCardSaid : Prop := Claim7.holds Tryd.pinned (.plain (OpenSpec.ofChange momentOrderSpec)) momentOrderCard

/-- THE SECOND FORM's CARD OF 'dragnetlaw12.MomentDates'. -/
def momentDatesUptoCard : Claim7 := { stood := { row := momentDatesUptoRow, standIns := [], harness := (true, "c4f40305a2a2286f1e8a0c89a0c6db6947a64c77b19c4def83d75716174634cd"), looks := false }, kinds := [], alts := [], laidByText := true, laidKinds := [.data, .data, .data, .data, .data, .data, .pinned], laidTests := true, laidLooks := .later }
def MomentDatesUptoCardSaid : Prop := Claim7.holds Tryd.pinned (.plain (OpenSpec.upto momentDatesSpec)) momentDatesUptoCard

/-- THE SECOND FORM's CARD OF 'dragnetlaw12.MomentSpans'. -/
def momentSpansUptoCard : Claim7 := { stood := { row := momentSpansUptoRow, standIns := [], harness := (true, "c4f40305a2a2286f1e8a0c89a0c6db6947a64c77b19c4def83d75716174634cd"), looks := false }, kinds := [], alts := [], laidByText := true, laidKinds := [.data, .data, .data, .data, .data, .data, .pinned], laidTests := true, laidLooks := .later }
def MomentSpansUptoCardSaid : Prop := Claim7.holds Tryd.pinned (.plain (OpenSpec.upto momentSpansSpec)) momentSpansUptoCard

/-- THE SECOND FORM's CARD OF 'dragnetlaw12.MomentBack'. -/
def momentBackUptoCard : Claim7 := { stood := { row := momentBackUptoRow, standIns := [], harness := (true, "c4f40305a2a2286f1e8a0c89a0c6db6947a64c77b19c4def83d75716174634cd"), looks := false }, kinds := [], alts := [], laidByText := true, laidKinds := [.data, .data, .data, .data, .data, .data, .pinned], laidTests := true, laidLooks := .later }
def MomentBackUptoCardSaid : Prop := Claim7.holds Tryd.pinned (.plain (OpenSpec.upto momentBackSpec)) momentBackUptoCard

/-- THE SECOND FORM's CARD OF 'dragnetlaw12.MomentNext'. -/
def momentNextUptoCard : Claim7 := { stood := { row := momentNextUptoRow, standIns := [], harness := (true, "c4f40305a2a2286f1e8a0c89a0c6db6947a64c77b19c4def83d75716174634cd"), looks := false }, kinds := [], alts := [], laidByText := true, laidKinds := [.data, .data, .data, .data, .data, .data, .pinned], laidTests := true, laidLooks := .later }
def MomentNextUptoCardSaid : Prop := Claim7.holds Tryd.pinned (.plain (OpenSpec.upto momentNextSpec)) momentNextUptoCard

/-- THE SECOND FORM's CARD OF 'dragnetlaw12.MomentOrder'. -/
def momentOrderUptoCard : Claim7 := { stood := { row := momentOrderUptoRow, standIns := [], harness := (true, "c4f40305a2a2286f1e8a0c89a0c6db6947a64c77b19c4def83d75716174634cd"), looks := false }, kinds := [], alts := [], laidByText := true, laidKinds := [.data, .data, .data, .data, .data, .data, .pinned], laidTests := true, laidLooks := .later }
def MomentOrderUptoCardSaid : Prop := Claim7.holds Tryd.pinned (.plain (OpenSpec.upto momentOrderSpec)) momentOrderUptoCard
end Rows
end Go.Proofs.YthmpokndffbkdaaDoor
