/-
  DERIVED. GIVEN WITH THE SEED: THE CARDS: each row of YtacbmpjpindepaaGreatDoorRows.lean that lists a variable, with what it lists TIED to the program's text (the seventh form; the later family's looks); each row that meets fmt, with fmt's text TOLD by the authors' own Lean function (tested against real Go, not proved from fmt's source: count such statements apart). THE CARD IS WHAT COUNTS. Prove the row's statement (the work); the ties are given (YtacbmpjpindepaaGreatDoorTie.lean); close each card by the builder's one call (the guide's Derived/Test/ToyasCard.lean, 'card_holds'). Laid BY PROGRAM, IN A SANDBOX (cutbox-door.mjs). By AI agents, Wed Nov 11 2026. No macro, syntax, notation, axiom, sorry.
-/
import Derived.Test.YtacbmpjpindepaaGreatDoorRows
import GoSem.ClaimSeven
namespace Go.Proofs.YtacbmpjpindepaaGreatDoor
namespace Rows

/-- THE TIED CARD OF 'dragnetlaw14.FieldsAll'. -/
def fieldsAllCard : Claim7 := { stood := { row := fieldsAllRow, standIns := [], harness := (true, "7fc42d616705afe9b1d18f5fadbffec19d91759a6003d4e41696291e1171ae71"), looks := true }, kinds := [], alts := [], laidByText := true, laidKinds := [.data, .data, .data, .data, .sentinel, .sentinel, .data, .pinned], laidTests := true, laidLooks := .later }
def FieldsAllCardSaid : Prop := Claim7.holds Tryz.pinned (.plain (OpenSpec.ofChange fieldsAllSpec)) fieldsAllCard

/-- THE TIED CARD OF 'dragnetlaw14.FieldsNumbers'. -/
def fieldsNumbersCard : Claim7 := { stood := { row := fieldsNumbersRow, standIns := [], harness := (true, "7fc42d616705afe9b1d18f5fadbffec19d91759a6003d4e41696291e1171ae71"), looks := true }, kinds := [], alts := [], laidByText := true, laidKinds := [.data, .data, .data, .data, .sentinel, .sentinel, .data, .pinned], laidTests := true, laidLooks := .later }
def FieldsNumbersCardSaid : Prop := Claim7.holds Tryz.pinned (.plain (OpenSpec.ofChange fieldsNumbersSpec)) fieldsNumbersCard

/-- THE TIED CARD OF 'dragnetlaw14.FieldsHolds'. -/
def fieldsHoldsCard : Claim7 := { stood := { row := fieldsHoldsRow, standIns := [], harness := (true, "7fc42d616705afe9b1d18f5fadbffec19d91759a6003d4e41696291e1171ae71"), looks := true }, kinds := [], alts := [], laidByText := true, laidKinds := [.data, .data, .data, .data, .sentinel, .sentinel, .data, .pinned], laidTests := true, laidLooks := .later }
def FieldsHoldsCardSaid : Prop := Claim7.holds Tryz.pinned (.plain (OpenSpec.ofChange fieldsHoldsSpec)) fieldsHoldsCard

/-- THE TIED CARD OF 'dragnetlaw14.FieldsTotal'. -/
def fieldsTotalCard : Claim7 := { stood := { row := fieldsTotalRow, standIns := [], harness := (true, "7fc42d616705afe9b1d18f5fadbffec19d91759a6003d4e41696291e1171ae71"), looks := true }, kinds := [], alts := [], laidByText := true, laidKinds := [.data, .data, .data, .data, .sentinel, .sentinel, .data, .pinned], laidTests := true, laidLooks := .later }
def FieldsTotalCardSaid : Prop := Claim7.holds Tryz.pinned (.plain (OpenSpec.ofChange fieldsTotalSpec)) fieldsTotalCard

/-- THE TIED CARD OF 'dragnetlaw14.FieldsJust'. -/
def fieldsJustCard : Claim7 := { stood := { row := fieldsJustRow, standIns := [], harness := (true, "7fc42d616705afe9b1d18f5fadbffec19d91759a6003d4e41696291e1171ae71"), looks := true }, kinds := [], alts := [], laidByText := true, laidKinds := [.data, .data, .data, .data, .sentinel, .sentinel, .data, .pinned], laidTests := true, laidLooks := .later }
def FieldsJustCardSaid : Prop := Claim7.holds Tryz.pinned (.plain (OpenSpec.ofChange fieldsJustSpec)) fieldsJustCard

/-- THE TIED CARD OF 'dragnetlaw14.FieldsShown'. -/
def fieldsShownCard : Claim7 := { stood := { row := fieldsShownRow, standIns := [], harness := (true, "7fc42d616705afe9b1d18f5fadbffec19d91759a6003d4e41696291e1171ae71"), looks := true }, kinds := [], alts := [], laidByText := true, laidKinds := [.data, .data, .data, .data, .sentinel, .sentinel, .data, .pinned], laidTests := true, laidLooks := .later }
def FieldsShownCardSaid : Prop := Claim7.holds Tryz.pinned (.plain (OpenSpec.ofChange fieldsShownSpec)) fieldsShownCard

/-- THE SECOND FORM's CARD OF 'dragnetlaw14.FieldsAll'. -/
def fieldsAllUptoCard : Claim7 := { stood := { row := fieldsAllUptoRow, standIns := [], harness := (true, "7fc42d616705afe9b1d18f5fadbffec19d91759a6003d4e41696291e1171ae71"), looks := true }, kinds := [], alts := [], laidByText := true, laidKinds := [.data, .data, .data, .data, .sentinel, .sentinel, .data, .pinned], laidTests := true, laidLooks := .later }
def FieldsAllUptoCardSaid : Prop := Claim7.holds Tryz.pinned (.plain (OpenSpec.upto fieldsAllSpec)) fieldsAllUptoCard

/-- THE SECOND FORM's CARD OF 'dragnetlaw14.FieldsNumbers'. -/
def fieldsNumbersUptoCard : Claim7 := { stood := { row := fieldsNumbersUptoRow, standIns := [], harness := (true, "7fc42d616705afe9b1d18f5fadbffec19d91759a6003d4e41696291e1171ae71"), looks := true }, kinds := [], alts := [], laidByText := true, laidKinds := [.data, .data, .data, .data, .sentinel, .sentinel, .data, .pinned], laidTests := true, laidLooks := .later }
def FieldsNumbersUptoCardSaid : Prop := Claim7.holds Tryz.pinned (.plain (OpenSpec.upto fieldsNumbersSpec)) fieldsNumbersUptoCard

/-- THE SECOND FORM's CARD OF 'dragnetlaw14.FieldsHolds'. -/
def fieldsHoldsUptoCard : Claim7 := { stood := { row := fieldsHoldsUptoRow, standIns := [], harness := (true, "7fc42d616705afe9b1d18f5fadbffec19d91759a6003d4e41696291e1171ae71"), looks := true }, kinds := [], alts := [], laidByText := true, laidKinds := [.data, .data, .data, .data, .sentinel, .sentinel, .data, .pinned], laidTests := true, laidLooks := .later }
def FieldsHoldsUptoCardSaid : Prop := Claim7.holds Tryz.pinned (.plain (OpenSpec.upto fieldsHoldsSpec)) fieldsHoldsUptoCard

/-- THE SECOND FORM's CARD OF 'dragnetlaw14.FieldsTotal'. -/
def fieldsTotalUptoCard : Claim7 := { stood := { row := fieldsTotalUptoRow, standIns := [], harness := (true, "7fc42d616705afe9b1d18f5fadbffec19d91759a6003d4e41696291e1171ae71"), looks := true }, kinds := [], alts := [], laidByText := true, laidKinds := [.data, .data, .data, .data, .sentinel, .sentinel, .data, .pinned], laidTests := true, laidLooks := .later }
def FieldsTotalUptoCardSaid : Prop := Claim7.holds Tryz.pinned (.plain (OpenSpec.upto fieldsTotalSpec)) fieldsTotalUptoCard

/-- THE SECOND FORM's CARD OF 'dragnetlaw14.FieldsJust'. -/
def fieldsJustUptoCard : Claim7 := { stood := { row := fieldsJustUptoRow, standIns := [], harness := (true, "7fc42d616705afe9b1d18f5fadbffec19d91759a6003d4e41696291e1171ae71"), looks := true }, kinds := [], alts := [], laidByText := true, laidKinds := [.data, .data, .data, .data, .sentinel, .sentinel, .data, .pinned], laidTests := true, laidLooks := .later }
def FieldsJustUptoCardSaid : Prop := Claim7.holds Tryz.pinned (.plain (OpenSpec.upto fieldsJustSpec)) fieldsJustUptoCard

/-- THE SECOND FORM's CARD OF 'dragnetlaw14.FieldsShown'. -/
def fieldsShownUptoCard : Claim7 := { stood := { row := fieldsShownUptoRow, standIns := [], harness := (true, "7fc42d616705afe9b1d18f5fadbffec19d91759a6003d4e41696291e1171ae71"), looks := true }, kinds := [], alts := [], laidByText := true, laidKinds := [.data, .data, .data, .data, .sentinel, .sentinel, .data, .pinned], laidTests := true, laidLooks := .later }
def FieldsShownUptoCardSaid : Prop := Claim7.holds Tryz.pinned (.plain (OpenSpec.upto fieldsShownSpec)) fieldsShownUptoCard
end Rows
end Go.Proofs.YtacbmpjpindepaaGreatDoor
