/-
  DERIVED. GIVEN WITH THE SEED: THE CARDS: each row of YtkplbggefiemdaaGreatDoorRows.lean that lists a variable, with what it lists TIED to the program's text (the seventh form; the later family's looks); each row that meets fmt, with fmt's text TOLD by the authors' own Lean function (tested against real Go, not proved from fmt's source: count such statements apart). THE CARD IS WHAT COUNTS. Prove the row's statement (the work); the ties are given (YtkplbggefiemdaaGreatDoorTie.lean); close each card by the builder's one call (the guide's Derived/Test/ToyasCard.lean, 'card_holds'). Laid BY PROGRAM, IN A SANDBOX (cutbox-door.mjs). By AI agents, Wed Nov 11 2026. No macro, syntax, notation, axiom, sorry.
-/
import Derived.Test.YtkplbggefiemdaaGreatDoorRows
import GoSem.ClaimSeven
namespace Go.Proofs.YtkplbggefiemdaaGreatDoor
namespace Rows

/-- THE TIED CARD OF 'dragnetlaw14.FieldsAll'. -/
def fieldsAllCard : Claim7 := { stood := { row := fieldsAllRow, standIns := [], harness := (true, "e742fa39077874c6dafb5e319d09ce4be57e28c137abe64a46cf69b4764a757c"), looks := true }, kinds := [], alts := [], laidByText := true, laidKinds := [.data, .data, .data, .data, .sentinel, .sentinel, .data, .pinned], laidTests := true, laidLooks := .later }
def FieldsAllCardSaid : Prop := Claim7.holds Tryz.pinned (.plain (OpenSpec.ofChange fieldsAllSpec)) fieldsAllCard

/-- THE TIED CARD OF 'dragnetlaw14.FieldsMade'. -/
def fieldsMadeCard : Claim7 := { stood := { row := fieldsMadeRow, standIns := [], harness := (true, "e742fa39077874c6dafb5e319d09ce4be57e28c137abe64a46cf69b4764a757c"), looks := true }, kinds := [], alts := [], laidByText := true, laidKinds := [.data, .data, .data, .data, .sentinel, .sentinel, .data, .pinned], laidTests := true, laidLooks := .later }
def FieldsMadeCardSaid : Prop := Claim7.holds Tryz.pinned (.plain (OpenSpec.ofChange fieldsMadeSpec)) fieldsMadeCard

/-- THE TIED CARD OF 'dragnetlaw14.FieldsObject'. -/
def fieldsObjectCard : Claim7 := { stood := { row := fieldsObjectRow, standIns := [], harness := (true, "e742fa39077874c6dafb5e319d09ce4be57e28c137abe64a46cf69b4764a757c"), looks := true }, kinds := [], alts := [], laidByText := true, laidKinds := [.data, .data, .data, .data, .sentinel, .sentinel, .data, .pinned], laidTests := true, laidLooks := .later }
def FieldsObjectCardSaid : Prop := Claim7.holds Tryz.pinned (.plain (OpenSpec.ofChange fieldsObjectSpec)) fieldsObjectCard

/-- THE SECOND FORM's CARD OF 'dragnetlaw14.FieldsAll'. -/
def fieldsAllUptoCard : Claim7 := { stood := { row := fieldsAllUptoRow, standIns := [], harness := (true, "e742fa39077874c6dafb5e319d09ce4be57e28c137abe64a46cf69b4764a757c"), looks := true }, kinds := [], alts := [], laidByText := true, laidKinds := [.data, .data, .data, .data, .sentinel, .sentinel, .data, .pinned], laidTests := true, laidLooks := .later }
def FieldsAllUptoCardSaid : Prop := Claim7.holds Tryz.pinned (.plain (OpenSpec.upto fieldsAllSpec)) fieldsAllUptoCard

/-- THE SECOND FORM's CARD OF 'dragnetlaw14.FieldsMade'. -/
def fieldsMadeUptoCard : Claim7 := { stood := { row := fieldsMadeUptoRow, standIns := [], harness := (true, "e742fa39077874c6dafb5e319d09ce4be57e28c137abe64a46cf69b4764a757c"), looks := true }, kinds := [], alts := [], laidByText := true, laidKinds := [.data, .data, .data, .data, .sentinel, .sentinel, .data, .pinned], laidTests := true, laidLooks := .later }
def FieldsMadeUptoCardSaid : Prop := Claim7.holds Tryz.pinned (.plain (OpenSpec.upto fieldsMadeSpec)) fieldsMadeUptoCard

/-- THE SECOND FORM's CARD OF 'dragnetlaw14.FieldsObject'. -/
def fieldsObjectUptoCard : Claim7 := { stood := { row := fieldsObjectUptoRow, standIns := [], harness := (true, "e742fa39077874c6dafb5e319d09ce4be57e28c137abe64a46cf69b4764a757c"), looks := true }, kinds := [], alts := [], laidByText := true, laidKinds := [.data, .data, .data, .data, .sentinel, .sentinel, .data, .pinned], laidTests := true, laidLooks := .later }
def FieldsObjectUptoCardSaid : Prop := Claim7.holds Tryz.pinned (.plain (OpenSpec.upto fieldsObjectSpec)) fieldsObjectUptoCard
end Rows
end Go.Proofs.YtkplbggefiemdaaGreatDoor
