/-
  DERIVED. GIVEN WITH THE SEED: THE CARDS: each row of YthiabdpihnjkcabDoorRows.lean that lists a variable, with what it lists TIED to the program's text (the seventh form; the later family's looks); each row that meets fmt, with fmt's text TOLD by the authors' own Lean function (tested against real Go, not proved from fmt's source: count such statements apart). THE CARD IS WHAT COUNTS. Prove the row's statement (the work); the ties are given (YthiabdpihnjkcabDoorTie.lean); close each card by the builder's one call (the guide's Derived/Test/ToyasCard.lean, 'card_holds'). Laid BY PROGRAM, IN A SANDBOX (cutbox-door.mjs). By AI agents, Wed Nov 11 2026. No macro, syntax, notation, axiom, sorry.
-/
import Derived.Test.YthiabdpihnjkcabDoorRows
import GoSem.ClaimSeven
namespace Go.Proofs.YthiabdpihnjkcabDoor
namespace Rows

/-- THE TIED CARD OF 'dragnetlaw1.SwarApart'. -/
def swarApartCard : Claim7 := { stood := { row := swarApartRow, standIns := [], harness := (true, "6f153e4f71b55a7814ed8187e670591a98a30d82e181dc54e3ee423a10d8d392"), looks := false }, kinds := [], alts := [], laidByText := true, laidKinds := [.data], laidTests := true, laidLooks := .later }
def SwarApartCardSaid : Prop := Claim7.holds Tryd.pinned (.plain (OpenSpec.ofChange swarApartSpec)) swarApartCard

/-- THE TIED CARD OF 'dragnetlaw1.SwarOrder'. -/
def swarOrderCard : Claim7 := { stood := { row := swarOrderRow, standIns := [], harness := (true, "6f153e4f71b55a7814ed8187e670591a98a30d82e181dc54e3ee423a10d8d392"), looks := false }, kinds := [], alts := [], laidByText := true, laidKinds := [.data], laidTests := true, laidLooks := .later }
def SwarOrderCardSaid : Prop := Claim7.holds Tryd.pinned (.plain (OpenSpec.ofChange swarOrderSpec)) swarOrderCard

/-- THE SECOND FORM's CARD OF 'dragnetlaw1.SwarApart'. -/
def swarApartUptoCard : Claim7 := { stood := { row := swarApartUptoRow, standIns := [], harness := (true, "6f153e4f71b55a7814ed8187e670591a98a30d82e181dc54e3ee423a10d8d392"), looks := false }, kinds := [], alts := [], laidByText := true, laidKinds := [.data], laidTests := true, laidLooks := .later }
def SwarApartUptoCardSaid : Prop := Claim7.holds Tryd.pinned (.plain (OpenSpec.upto swarApartSpec)) swarApartUptoCard

/-- THE SECOND FORM's CARD OF 'dragnetlaw1.SwarOrder'. -/
def swarOrderUptoCard : Claim7 := { stood := { row := swarOrderUptoRow, standIns := [], harness := (true, "6f153e4f71b55a7814ed8187e670591a98a30d82e181dc54e3ee423a10d8d392"), looks := false }, kinds := [], alts := [], laidByText := true, laidKinds := [.data], laidTests := true, laidLooks := .later }
def SwarOrderUptoCardSaid : Prop := Claim7.holds Tryd.pinned (.plain (OpenSpec.upto swarOrderSpec)) swarOrderUptoCard
end Rows
end Go.Proofs.YthiabdpihnjkcabDoor
