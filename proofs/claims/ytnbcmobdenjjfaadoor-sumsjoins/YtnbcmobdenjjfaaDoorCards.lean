/-
  DERIVED. GIVEN WITH THE SEED: THE CARDS: each row of YtnbcmobdenjjfaaDoorRows.lean that lists a variable, with what it lists TIED to the program's text (the seventh form; the later family's looks); each row that meets fmt, with fmt's text TOLD by the authors' own Lean function (tested against real Go, not proved from fmt's source: count such statements apart). THE CARD IS WHAT COUNTS. Prove the row's statement (the work); the ties are given (YtnbcmobdenjjfaaDoorTie.lean); close each card by the builder's one call (the guide's Derived/Test/ToyasCard.lean, 'card_holds'). Laid BY PROGRAM, IN A SANDBOX (cutbox-door.mjs). By AI agents, Wed Nov 11 2026. No macro, syntax, notation, axiom, sorry.
-/
import Derived.Test.YtnbcmobdenjjfaaDoorRows
import GoSem.ClaimSeven
namespace Go.Proofs.YtnbcmobdenjjfaaDoor
namespace Rows

/-- THE TIED CARD OF 'dragnetlaw2.SumsCRC'. -/
def sumsCRCCard : Claim7 := { stood := { row := sumsCRCRow, standIns := [], harness := (true, "73a32d0755b81de72b9539dd0978371947496670326b5eede5268eb45c59d20e"), looks := false }, kinds := [], alts := [], laidByText := true, laidKinds := [.data], laidTests := true, laidLooks := .later }
def SumsCRCCardSaid : Prop := Claim7.holds Tryd.pinned (.plain (OpenSpec.ofChange sumsCRCSpec)) sumsCRCCard

/-- THE TIED CARD OF 'dragnetlaw2.SumsJoins'. -/
def sumsJoinsCard : Claim7 := { stood := { row := sumsJoinsRow, standIns := [], harness := (true, "73a32d0755b81de72b9539dd0978371947496670326b5eede5268eb45c59d20e"), looks := false }, kinds := [], alts := [], laidByText := true, laidKinds := [.data], laidTests := true, laidLooks := .later }
def SumsJoinsCardSaid : Prop := Claim7.holds Tryd.pinned (.plain (OpenSpec.ofChange sumsJoinsSpec)) sumsJoinsCard

/-- THE TIED CARD OF 'dragnetlaw2.SumsQuick'. -/
def sumsQuickCard : Claim7 := { stood := { row := sumsQuickRow, standIns := [], harness := (true, "73a32d0755b81de72b9539dd0978371947496670326b5eede5268eb45c59d20e"), looks := false }, kinds := [], alts := [], laidByText := true, laidKinds := [.data], laidTests := true, laidLooks := .later }
def SumsQuickCardSaid : Prop := Claim7.holds Tryd.pinned (.plain (OpenSpec.ofChange sumsQuickSpec)) sumsQuickCard

/-- THE TIED CARD OF 'dragnetlaw2.SumsHash'. -/
def sumsHashCard : Claim7 := { stood := { row := sumsHashRow, standIns := [], harness := (true, "73a32d0755b81de72b9539dd0978371947496670326b5eede5268eb45c59d20e"), looks := false }, kinds := [], alts := [], laidByText := true, laidKinds := [.data], laidTests := true, laidLooks := .later }
def SumsHashCardSaid : Prop := Claim7.holds Tryd.pinned (.plain (OpenSpec.ofChange sumsHashSpec)) sumsHashCard

/-- THE TIED CARD OF 'dragnetlaw2.SumsTogether'. -/
def sumsTogetherCard : Claim7 := { stood := { row := sumsTogetherRow, standIns := [], harness := (true, "73a32d0755b81de72b9539dd0978371947496670326b5eede5268eb45c59d20e"), looks := false }, kinds := [], alts := [], laidByText := true, laidKinds := [.data], laidTests := true, laidLooks := .later }
def SumsTogetherCardSaid : Prop := Claim7.holds Tryd.pinned (.plain (OpenSpec.ofChange sumsTogetherSpec)) sumsTogetherCard

/-- THE TIED CARD OF 'dragnetlaw2.SumsSteps'. -/
def sumsStepsCard : Claim7 := { stood := { row := sumsStepsRow, standIns := [], harness := (true, "73a32d0755b81de72b9539dd0978371947496670326b5eede5268eb45c59d20e"), looks := false }, kinds := [], alts := [], laidByText := true, laidKinds := [.data], laidTests := true, laidLooks := .later }
def SumsStepsCardSaid : Prop := Claim7.holds Tryd.pinned (.plain (OpenSpec.ofChange sumsStepsSpec)) sumsStepsCard

/-- THE SECOND FORM's CARD OF 'dragnetlaw2.SumsCRC'. -/
def sumsCRCUptoCard : Claim7 := { stood := { row := sumsCRCUptoRow, standIns := [], harness := (true, "73a32d0755b81de72b9539dd0978371947496670326b5eede5268eb45c59d20e"), looks := false }, kinds := [], alts := [], laidByText := true, laidKinds := [.data], laidTests := true, laidLooks := .later }
def SumsCRCUptoCardSaid : Prop := Claim7.holds Tryd.pinned (.plain (OpenSpec.upto sumsCRCSpec)) sumsCRCUptoCard

/-- THE SECOND FORM's CARD OF 'dragnetlaw2.SumsJoins'. -/
def sumsJoinsUptoCard : Claim7 := { stood := { row := sumsJoinsUptoRow, standIns := [], harness := (true, "73a32d0755b81de72b9539dd0978371947496670326b5eede5268eb45c59d20e"), looks := false }, kinds := [], alts := [], laidByText := true, laidKinds := [.data], laidTests := true, laidLooks := .later }
def SumsJoinsUptoCardSaid : Prop := Claim7.holds Tryd.pinned (.plain (OpenSpec.upto sumsJoinsSpec)) sumsJoinsUptoCard

/-- THE SECOND FORM's CARD OF 'dragnetlaw2.SumsQuick'. -/
def sumsQuickUptoCard : Claim7 := { stood := { row := sumsQuickUptoRow, standIns := [], harness := (true, "73a32d0755b81de72b9539dd0978371947496670326b5eede5268eb45c59d20e"), looks := false }, kinds := [], alts := [], laidByText := true, laidKinds := [.data], laidTests := true, laidLooks := .later }
def SumsQuickUptoCardSaid : Prop := Claim7.holds Tryd.pinned (.plain (OpenSpec.upto sumsQuickSpec)) sumsQuickUptoCard

/-- THE SECOND FORM's CARD OF 'dragnetlaw2.SumsHash'. -/
def sumsHashUptoCard : Claim7 := { stood := { row := sumsHashUptoRow, standIns := [], harness := (true, "73a32d0755b81de72b9539dd0978371947496670326b5eede5268eb45c59d20e"), looks := false }, kinds := [], alts := [], laidByText := true, laidKinds := [.data], laidTests := true, laidLooks := .later }
def SumsHashUptoCardSaid : Prop := Claim7.holds Tryd.pinned (.plain (OpenSpec.upto sumsHashSpec)) sumsHashUptoCard

/-- THE SECOND FORM's CARD OF 'dragnetlaw2.SumsTogether'. -/
def sumsTogetherUptoCard : Claim7 := { stood := { row := sumsTogetherUptoRow, standIns := [], harness := (true, "73a32d0755b81de72b9539dd0978371947496670326b5eede5268eb45c59d20e"), looks := false }, kinds := [], alts := [], laidByText := true, laidKinds := [.data], laidTests := true, laidLooks := .later }
def SumsTogetherUptoCardSaid : Prop := Claim7.holds Tryd.pinned (.plain (OpenSpec.upto sumsTogetherSpec)) sumsTogetherUptoCard

/-- THE SECOND FORM's CARD OF 'dragnetlaw2.SumsSteps'. -/
def sumsStepsUptoCard : Claim7 := { stood := { row := sumsStepsUptoRow, standIns := [], harness := (true, "73a32d0755b81de72b9539dd0978371947496670326b5eede5268eb45c59d20e"), looks := false }, kinds := [], alts := [], laidByText := true, laidKinds := [.data], laidTests := true, laidLooks := .later }
def SumsStepsUptoCardSaid : Prop := Claim7.holds Tryd.pinned (.plain (OpenSpec.upto sumsStepsSpec)) sumsStepsUptoCard
end Rows
end Go.Proofs.YtnbcmobdenjjfaaDoor
