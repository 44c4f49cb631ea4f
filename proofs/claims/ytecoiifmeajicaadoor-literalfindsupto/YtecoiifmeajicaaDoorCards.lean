/-
  DERIVED. GIVEN WITH THE SEED: THE CARDS: each row of YtecoiifmeajicaaDoorRows.lean that lists a variable, with what it lists TIED to the program's text (the seventh form; the later family's looks); each row that meets fmt, with fmt's text TOLD by the authors' own Lean function (tested against real Go, not proved from fmt's source: count such statements apart). THE CARD IS WHAT COUNTS. Prove the row's statement (the work); the ties are given (YtecoiifmeajicaaDoorTie.lean); close each card by the builder's one call (the guide's Derived/Test/ToyasCard.lean, 'card_holds'). Laid BY PROGRAM, IN A SANDBOX (cutbox-door.mjs). By AI agents, Wed Nov 11 2026. No macro, syntax, notation, axiom, sorry.
-/
import Derived.Test.YtecoiifmeajicaaDoorRows
import GoSem.ClaimSeven
namespace Go.Proofs.YtecoiifmeajicaaDoor
namespace Rows

/-- THE TIED CARD OF 'dragnetlaw6.LiteralMakes'. -/
def literalMakesCard : Claim7 := { stood := { row := literalMakesRow, standIns := [], harness := (true, "0b9ae3a7b4ee7689cb741e05b153545cde34ddcda98fc33119d1b45a3c5b30c0"), looks := false }, kinds := [], alts := [], laidByText := true, laidKinds := [.data], laidTests := true, laidLooks := .later }
def LiteralMakesCardSaid : Prop := Claim7.holds Tryd.pinned (.plain (OpenSpec.ofChange literalMakesSpec)) literalMakesCard

/-- THE TIED CARD OF 'dragnetlaw6.LiteralFinds'. -/
def literalFindsCard : Claim7 := { stood := { row := literalFindsRow, standIns := [], harness := (true, "0b9ae3a7b4ee7689cb741e05b153545cde34ddcda98fc33119d1b45a3c5b30c0"), looks := false }, kinds := [], alts := [], laidByText := true, laidKinds := [.data], laidTests := true, laidLooks := .later }
def LiteralFindsCardSaid : Prop := Claim7.holds Tryd.pinned (.plain (OpenSpec.ofChange literalFindsSpec)) literalFindsCard

/-- THE TIED CARD OF 'dragnetlaw6.LiteralAgree'. -/
def literalAgreeCard : Claim7 := { stood := { row := literalAgreeRow, standIns := [], harness := (true, "0b9ae3a7b4ee7689cb741e05b153545cde34ddcda98fc33119d1b45a3c5b30c0"), looks := false }, kinds := [], alts := [], laidByText := true, laidKinds := [.data], laidTests := true, laidLooks := .later }
def LiteralAgreeCardSaid : Prop := Claim7.holds Tryd.pinned (.plain (OpenSpec.ofChange literalAgreeSpec)) literalAgreeCard

/-- THE TIED CARD OF 'dragnetlaw6.LiteralStands'. -/
def literalStandsCard : Claim7 := { stood := { row := literalStandsRow, standIns := [], harness := (true, "0b9ae3a7b4ee7689cb741e05b153545cde34ddcda98fc33119d1b45a3c5b30c0"), looks := false }, kinds := [], alts := [], laidByText := true, laidKinds := [.data], laidTests := true, laidLooks := .later }
def LiteralStandsCardSaid : Prop := Claim7.holds Tryd.pinned (.plain (OpenSpec.ofChange literalStandsSpec)) literalStandsCard

/-- THE TIED CARD OF 'dragnetlaw6.LiteralLaid'. -/
def literalLaidCard : Claim7 := { stood := { row := literalLaidRow, standIns := [], harness := (true, "0b9ae3a7b4ee7689cb741e05b153545cde34ddcda98fc33119d1b45a3c5b30c0"), looks := false }, kinds := [], alts := [], laidByText := true, laidKinds := [.data], laidTests := true, laidLooks := .later }
def LiteralLaidCardSaid : Prop := Claim7.holds Tryd.pinned (.plain (OpenSpec.ofChange literalLaidSpec)) literalLaidCard

/-- THE TIED CARD OF 'dragnetlaw6.LiteralFolds'. -/
def literalFoldsCard : Claim7 := { stood := { row := literalFoldsRow, standIns := [], harness := (true, "0b9ae3a7b4ee7689cb741e05b153545cde34ddcda98fc33119d1b45a3c5b30c0"), looks := false }, kinds := [], alts := [], laidByText := true, laidKinds := [.data], laidTests := true, laidLooks := .later }
def LiteralFoldsCardSaid : Prop := Claim7.holds Tryd.pinned (.plain (OpenSpec.ofChange literalFoldsSpec)) literalFoldsCard

/-- THE SECOND FORM's CARD OF 'dragnetlaw6.LiteralMakes'. -/
def literalMakesUptoCard : Claim7 := { stood := { row := literalMakesUptoRow, standIns := [], harness := (true, "0b9ae3a7b4ee7689cb741e05b153545cde34ddcda98fc33119d1b45a3c5b30c0"), looks := false }, kinds := [], alts := [], laidByText := true, laidKinds := [.data], laidTests := true, laidLooks := .later }
def LiteralMakesUptoCardSaid : Prop := Claim7.holds Tryd.pinned (.plain (OpenSpec.upto literalMakesSpec)) literalMakesUptoCard

/-- THE SECOND FORM's CARD OF 'dragnetlaw6.LiteralFinds'. -/
def literalFindsUptoCard : Claim7 := { stood := { row := literalFindsUptoRow, standIns := [], harness := (true, "0b9ae3a7b4ee7689cb741e05b153545cde34ddcda98fc33119d1b45a3c5b30c0"), looks := false }, kinds := [], alts := [], laidByText := true, laidKinds := [.data], laidTests := true, laidLooks := .later }
def LiteralFindsUptoCardSaid : Prop := Claim7.holds Tryd.pinned (.plain (OpenSpec.upto literalFindsSpec)) literalFindsUptoCard

/-- THE SECOND FORM's CARD OF 'dragnetlaw6.LiteralAgree'. -/
def literalAgreeUptoCard : Claim7 := { stood := { row := literalAgreeUptoRow, standIns := [], harness := (true, "0b9ae3a7b4ee7689cb741e05b153545cde34ddcda98fc33119d1b45a3c5b30c0"), looks := false }, kinds := [], alts := [], laidByText := true, laidKinds := [.data], laidTests := true, laidLooks := .later }
def LiteralAgreeUptoCardSaid : Prop := Claim7.holds Tryd.pinned (.plain (OpenSpec.upto literalAgreeSpec)) literalAgreeUptoCard

/-- THE SECOND FORM's CARD OF 'dragnetlaw6.LiteralStands'. -/
def literalStandsUptoCard : Claim7 := { stood := { row := literalStandsUptoRow, standIns := [], harness := (true, "0b9ae3a7b4ee7689cb741e05b153545cde34ddcda98fc33119d1b45a3c5b30c0"), looks := false }, kinds := [], alts := [], laidByText := true, laidKinds := [.data], laidTests := true, laidLooks := .later }
def LiteralStandsUptoCardSaid : Prop := Claim7.holds Tryd.pinned (.plain (OpenSpec.upto literalStandsSpec)) literalStandsUptoCard

/-- THE SECOND FORM's CARD OF 'dragnetlaw6.LiteralLaid'. -/
def literalLaidUptoCard : Claim7 := { stood := { row := literalLaidUptoRow, standIns := [], harness := (true, "0b9ae3a7b4ee7689cb741e05b153545cde34ddcda98fc33119d1b45a3c5b30c0"), looks := false }, kinds := [], alts := [], laidByText := true, laidKinds := [.data], laidTests := true, laidLooks := .later }
def LiteralLaidUptoCardSaid : Prop := Claim7.holds Tryd.pinned (.plain (OpenSpec.upto literalLaidSpec)) literalLaidUptoCard

/-- THE SECOND FORM's CARD OF 'dragnetlaw6.LiteralFolds'. -/
def literalFoldsUptoCard : Claim7 := { stood := { row := literalFoldsUptoRow, standIns := [], harness := (true, "0b9ae3a7b4ee7689cb741e05b153545cde34ddcda98fc33119d1b45a3c5b30c0"), looks := false }, kinds := [], alts := [], laidByText := true, laidKinds := [.data], laidTests := true, laidLooks := .later }
def LiteralFoldsUptoCardSaid : Prop := Claim7.holds Tryd.pinned (.plain (OpenSpec.upto literalFoldsSpec)) literalFoldsUptoCard
end Rows
end Go.Proofs.YtecoiifmeajicaaDoor
