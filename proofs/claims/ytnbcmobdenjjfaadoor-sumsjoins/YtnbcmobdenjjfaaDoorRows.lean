/-
  NARROWER THAN 'FOR EVERY INPUT', by the rows' own cells (each row's printed sentence says how): SumsCRC: laid · SumsJoins: laid · SumsQuick: laid · SumsHash: laid · SumsTogether: laid · SumsSteps: laid.
  DERIVED. THE GIVEN ROWS OF THIS SEAT. 6 by the template 'for every input the law returns true; each argument reads behind the call as it read before'; 0 by the template 'total and deterministic' (their statements: YtnbcmobdenjjfaaDoorTotals.lean).
  GIVEN WITH THE SEED: the statements are not yours to turn. If you find one false, say at which input.
  Laid BY PROGRAM, IN A SANDBOX (cutbox-rows.mjs): the forced cells as the released guide's own fill.sh prints them over the translation b618061c57280ba9… (all of the seat's roots in one cut). By AI agents, Wed Nov 11 2026. No macro, syntax, notation, axiom, sorry.
-/
import Derived.Test.YtnbcmobdenjjfaaDoorChecked
import GoSem.Claim
import GoSem.ClaimJoined
import GoSem.ClaimMapViews
import Derived.JoinedTies
import Derived.KernelRfl
namespace Go.Proofs.YtnbcmobdenjjfaaDoor
/- THE CELL 'sum', in the pinned program and in every row, IS THE sha256 OF THE DUMP (.gsa) THAT YtnbcmobdenjjfaaDoorProg.lean LOADS. Nothing in Lean hashes anything: it is a label: what it is worth is what the hold of that sum in a sandbox is worth. -/
noncomputable def Tryd.pinned : Pinned := { name := "ytnbcmobdenjjfaadoor", sum := "b618061c57280ba90bcb98ebc74636fe066ff7941ff3d89208319c1ebab904c1", checked := Tryd.checked }
namespace Rows
def none {H : Type} : Left H := { results := [], args := [] }

/- WHAT THE LISTED PACKAGE-LEVEL VARIABLES READ AS WHEN THE CALL BEGINS. Each datum BY PROGRAM (the guide's laid-datum.mjs) off the statement by which the dump's own 'gosem.cut.vars' lays the variable. In a bare row this is a premise. The card (YtnbcmobdenjjfaaDoorCards.lean) ties it to the program's text. -/
def laid_dragnet_sums_fourSteps {H : Type} : DataW H := .agg [.lit (.int .u32 0), .lit (.int .u32 274646895), .lit (.int .u32 549293790), .lit (.int .u32 820201905), .lit (.int .u32 1098587580), .lit (.int .u32 1361435347), .lit (.int .u32 1640403810), .lit (.int .u32 1905808397), .lit (.int .u32 2197175160), .lit (.int .u32 2460548119), .lit (.int .u32 2722870694), .lit (.int .u32 2987750089), .lit (.int .u32 3280807620), .lit (.int .u32 3553878443), .lit (.int .u32 3811616794), .lit (.int .u32 4084100981)]

/-- 'dragnetlaw2.SumsCRC': WHATEVER THE INPUT: true; the input reads as it did. -/
def sumsCRCSpec : ChangeSpec := { name := "sumsCRC", fn := fun _ => fun
  | [d] => { results := [.lit (.bool true)], args := [d] }
  | _ => none }
def sumsCRCRow : OpenClaim := { program := "ytnbcmobdenjjfaadoor", sum := "b618061c57280ba90bcb98ebc74636fe066ff7941ff3d89208319c1ebab904c1", func := "dragnet/dragnetlaw2.SumsCRC", spec := "sumsCRC", unfollowed := true, recurses := true, named := ["dragnet/sums.fourSteps"], apart := false, laid := [("dragnet/sums.fourSteps", laid_dragnet_sums_fourSteps)] }
def SumsCRCSaid : Prop := sumsCRCRow.holds Tryd.pinned (OpenSpec.ofChange sumsCRCSpec)

/-- ITS FALSE NEIGHBOUR: 'it returns false'. Refute it at one input. -/
def sumsCRCWrong : ChangeSpec := { name := "sumsCRC", fn := fun _ => fun
  | [d] => { results := [.lit (.bool false)], args := [d] }
  | _ => none }
def SumsCRCWrongFalsely : Prop := sumsCRCRow.holds Tryd.pinned (OpenSpec.ofChange sumsCRCWrong)

/-- 'dragnetlaw2.SumsJoins': WHATEVER THE INPUT: true; the input reads as it did. -/
def sumsJoinsSpec : ChangeSpec := { name := "sumsJoins", fn := fun _ => fun
  | [d1, d2, d3] => { results := [.lit (.bool true)], args := [d1, d2, d3] }
  | _ => none }
def sumsJoinsRow : OpenClaim := { program := "ytnbcmobdenjjfaadoor", sum := "b618061c57280ba90bcb98ebc74636fe066ff7941ff3d89208319c1ebab904c1", func := "dragnet/dragnetlaw2.SumsJoins", spec := "sumsJoins", unfollowed := true, recurses := true, named := ["dragnet/sums.fourSteps"], apart := false, laid := [("dragnet/sums.fourSteps", laid_dragnet_sums_fourSteps)] }
def SumsJoinsSaid : Prop := sumsJoinsRow.holds Tryd.pinned (OpenSpec.ofChange sumsJoinsSpec)

/-- ITS FALSE NEIGHBOUR: 'it returns false'. Refute it at one input. -/
def sumsJoinsWrong : ChangeSpec := { name := "sumsJoins", fn := fun _ => fun
  | [d1, d2, d3] => { results := [.lit (.bool false)], args := [d1, d2, d3] }
  | _ => none }
def SumsJoinsWrongFalsely : Prop := sumsJoinsRow.holds Tryd.pinned (OpenSpec.ofChange sumsJoinsWrong)

/-- 'dragnetlaw2.SumsQuick': WHATEVER THE INPUT: true; the input reads as it did. -/
def sumsQuickSpec : ChangeSpec := { name := "sumsQuick", fn := fun _ => fun
  | [d1, d2, d3] => { results := [.lit (.bool true)], args := [d1, d2, d3] }
  | _ => none }
def sumsQuickRow : OpenClaim := { program := "ytnbcmobdenjjfaadoor", sum := "b618061c57280ba90bcb98ebc74636fe066ff7941ff3d89208319c1ebab904c1", func := "dragnet/dragnetlaw2.SumsQuick", spec := "sumsQuick", unfollowed := true, recurses := true, named := ["dragnet/sums.fourSteps"], apart := false, laid := [("dragnet/sums.fourSteps", laid_dragnet_sums_fourSteps)] }
def SumsQuickSaid : Prop := sumsQuickRow.holds Tryd.pinned (OpenSpec.ofChange sumsQuickSpec)

/-- ITS FALSE NEIGHBOUR: 'it returns false'. Refute it at one input. -/
def sumsQuickWrong : ChangeSpec := { name := "sumsQuick", fn := fun _ => fun
  | [d1, d2, d3] => { results := [.lit (.bool false)], args := [d1, d2, d3] }
  | _ => none }
def SumsQuickWrongFalsely : Prop := sumsQuickRow.holds Tryd.pinned (OpenSpec.ofChange sumsQuickWrong)

/-- 'dragnetlaw2.SumsHash': WHATEVER THE INPUT: true; the input reads as it did. -/
def sumsHashSpec : ChangeSpec := { name := "sumsHash", fn := fun _ => fun
  | [d1, d2, d3] => { results := [.lit (.bool true)], args := [d1, d2, d3] }
  | _ => none }
def sumsHashRow : OpenClaim := { program := "ytnbcmobdenjjfaadoor", sum := "b618061c57280ba90bcb98ebc74636fe066ff7941ff3d89208319c1ebab904c1", func := "dragnet/dragnetlaw2.SumsHash", spec := "sumsHash", unfollowed := true, recurses := true, named := ["dragnet/sums.fourSteps"], apart := false, laid := [("dragnet/sums.fourSteps", laid_dragnet_sums_fourSteps)] }
def SumsHashSaid : Prop := sumsHashRow.holds Tryd.pinned (OpenSpec.ofChange sumsHashSpec)

/-- ITS FALSE NEIGHBOUR: 'it returns false'. Refute it at one input. -/
def sumsHashWrong : ChangeSpec := { name := "sumsHash", fn := fun _ => fun
  | [d1, d2, d3] => { results := [.lit (.bool false)], args := [d1, d2, d3] }
  | _ => none }
def SumsHashWrongFalsely : Prop := sumsHashRow.holds Tryd.pinned (OpenSpec.ofChange sumsHashWrong)

/-- 'dragnetlaw2.SumsTogether': WHATEVER THE INPUT: true; the input reads as it did. -/
def sumsTogetherSpec : ChangeSpec := { name := "sumsTogether", fn := fun _ => fun
  | [d1, d2, d3] => { results := [.lit (.bool true)], args := [d1, d2, d3] }
  | _ => none }
def sumsTogetherRow : OpenClaim := { program := "ytnbcmobdenjjfaadoor", sum := "b618061c57280ba90bcb98ebc74636fe066ff7941ff3d89208319c1ebab904c1", func := "dragnet/dragnetlaw2.SumsTogether", spec := "sumsTogether", unfollowed := true, recurses := true, named := ["dragnet/sums.fourSteps"], apart := false, laid := [("dragnet/sums.fourSteps", laid_dragnet_sums_fourSteps)] }
def SumsTogetherSaid : Prop := sumsTogetherRow.holds Tryd.pinned (OpenSpec.ofChange sumsTogetherSpec)

/-- ITS FALSE NEIGHBOUR: 'it returns false'. Refute it at one input. -/
def sumsTogetherWrong : ChangeSpec := { name := "sumsTogether", fn := fun _ => fun
  | [d1, d2, d3] => { results := [.lit (.bool false)], args := [d1, d2, d3] }
  | _ => none }
def SumsTogetherWrongFalsely : Prop := sumsTogetherRow.holds Tryd.pinned (OpenSpec.ofChange sumsTogetherWrong)

/-- 'dragnetlaw2.SumsSteps': WHATEVER THE INPUT: true; the input reads as it did. -/
def sumsStepsSpec : ChangeSpec := { name := "sumsSteps", fn := fun _ => fun
  | [d1, d2, d3, d4] => { results := [.lit (.bool true)], args := [d1, d2, d3, d4] }
  | _ => none }
def sumsStepsRow : OpenClaim := { program := "ytnbcmobdenjjfaadoor", sum := "b618061c57280ba90bcb98ebc74636fe066ff7941ff3d89208319c1ebab904c1", func := "dragnet/dragnetlaw2.SumsSteps", spec := "sumsSteps", unfollowed := true, recurses := true, named := ["dragnet/sums.fourSteps"], apart := false, laid := [("dragnet/sums.fourSteps", laid_dragnet_sums_fourSteps)] }
def SumsStepsSaid : Prop := sumsStepsRow.holds Tryd.pinned (OpenSpec.ofChange sumsStepsSpec)

/-- ITS FALSE NEIGHBOUR: 'it returns false'. Refute it at one input. -/
def sumsStepsWrong : ChangeSpec := { name := "sumsSteps", fn := fun _ => fun
  | [d1, d2, d3, d4] => { results := [.lit (.bool false)], args := [d1, d2, d3, d4] }
  | _ => none }
def SumsStepsWrongFalsely : Prop := sumsStepsRow.holds Tryd.pinned (OpenSpec.ofChange sumsStepsWrong)

/- THE SECOND FORM. 'bulk': how many values and letters a reading holds, each counted each time it is reached (what is shared counts as often as it is met; a slice's spare places count too). A statement '..UptoSaid' is the law's where the arguments, and the package variables that the reading takes, are together of bulk at most 1048576: NARROWER than '..Said'. Prove '..Said' where nothing that the law and all that it calls make is longer than what came in: it says more and counts as full. Else prove '..UptoSaid'. A law counts once. -/
mutual
def uptoBulk {H : Type} : DataW H → Nat
  | .lit (.string bytes) => bytes.length + 1
  | .lit _ => 1
  | .nil => 1
  | .ptr d => uptoBulk d + 1
  | .slice elems spare => uptoBulkAll elems + uptoBulkAll spare + 1
  | .agg parts => uptoBulkAll parts + 1
  | .iface _ d => uptoBulk d + 1
  | .map entries => uptoBulkEntries entries + 1
  | .held _ => 1
def uptoBulkAll {H : Type} : List (DataW H) → Nat
  | [] => 0
  | d :: r => uptoBulk d + uptoBulkAll r
def uptoBulkEntries {H : Type} : List (Lit × DataW H) → Nat
  | [] => 0
  | x :: r => uptoBulkEntry x + uptoBulkEntries r
def uptoBulkEntry {H : Type} : Lit × DataW H → Nat
  | (.string bytes, d) => bytes.length + uptoBulk d + 1
  | (_, d) => uptoBulk d + 1
 end
def uptoSmall : (H : Type) → List (DataW H) → Bool := fun _ ds => decide (uptoBulkAll ds ≤ 1048576)
def OpenSpec.upto (s : _root_.Go.ChangeSpec) : _root_.Go.OpenSpec := { _root_.Go.OpenSpec.ofChange s with cond := some uptoSmall }

/-- 'dragnetlaw2.SumsCRC', WHERE WHAT IT READS IS OF BULK AT MOST 1048576: true; the input reads as it did. -/
def sumsCRCUptoRow : OpenClaim := { program := "ytnbcmobdenjjfaadoor", sum := "b618061c57280ba90bcb98ebc74636fe066ff7941ff3d89208319c1ebab904c1", func := "dragnet/dragnetlaw2.SumsCRC", spec := "sumsCRC", unfollowed := true, recurses := true, named := ["dragnet/sums.fourSteps"], apart := false, laid := [("dragnet/sums.fourSteps", laid_dragnet_sums_fourSteps)], narrowed := true }
def SumsCRCUptoSaid : Prop := sumsCRCUptoRow.holds Tryd.pinned (OpenSpec.upto sumsCRCSpec)

/-- 'dragnetlaw2.SumsJoins', WHERE WHAT IT READS IS OF BULK AT MOST 1048576: true; the input reads as it did. -/
def sumsJoinsUptoRow : OpenClaim := { program := "ytnbcmobdenjjfaadoor", sum := "b618061c57280ba90bcb98ebc74636fe066ff7941ff3d89208319c1ebab904c1", func := "dragnet/dragnetlaw2.SumsJoins", spec := "sumsJoins", unfollowed := true, recurses := true, named := ["dragnet/sums.fourSteps"], apart := false, laid := [("dragnet/sums.fourSteps", laid_dragnet_sums_fourSteps)], narrowed := true }
def SumsJoinsUptoSaid : Prop := sumsJoinsUptoRow.holds Tryd.pinned (OpenSpec.upto sumsJoinsSpec)

/-- 'dragnetlaw2.SumsQuick', WHERE WHAT IT READS IS OF BULK AT MOST 1048576: true; the input reads as it did. -/
def sumsQuickUptoRow : OpenClaim := { program := "ytnbcmobdenjjfaadoor", sum := "b618061c57280ba90bcb98ebc74636fe066ff7941ff3d89208319c1ebab904c1", func := "dragnet/dragnetlaw2.SumsQuick", spec := "sumsQuick", unfollowed := true, recurses := true, named := ["dragnet/sums.fourSteps"], apart := false, laid := [("dragnet/sums.fourSteps", laid_dragnet_sums_fourSteps)], narrowed := true }
def SumsQuickUptoSaid : Prop := sumsQuickUptoRow.holds Tryd.pinned (OpenSpec.upto sumsQuickSpec)

/-- 'dragnetlaw2.SumsHash', WHERE WHAT IT READS IS OF BULK AT MOST 1048576: true; the input reads as it did. -/
def sumsHashUptoRow : OpenClaim := { program := "ytnbcmobdenjjfaadoor", sum := "b618061c57280ba90bcb98ebc74636fe066ff7941ff3d89208319c1ebab904c1", func := "dragnet/dragnetlaw2.SumsHash", spec := "sumsHash", unfollowed := true, recurses := true, named := ["dragnet/sums.fourSteps"], apart := false, laid := [("dragnet/sums.fourSteps", laid_dragnet_sums_fourSteps)], narrowed := true }
def SumsHashUptoSaid : Prop := sumsHashUptoRow.holds Tryd.pinned (OpenSpec.upto sumsHashSpec)

/-- 'dragnetlaw2.SumsTogether', WHERE WHAT IT READS IS OF BULK AT MOST 1048576: true; the input reads as it did. -/
def sumsTogetherUptoRow : OpenClaim := { program := "ytnbcmobdenjjfaadoor", sum := "b618061c57280ba90bcb98ebc74636fe066ff7941ff3d89208319c1ebab904c1", func := "dragnet/dragnetlaw2.SumsTogether", spec := "sumsTogether", unfollowed := true, recurses := true, named := ["dragnet/sums.fourSteps"], apart := false, laid := [("dragnet/sums.fourSteps", laid_dragnet_sums_fourSteps)], narrowed := true }
def SumsTogetherUptoSaid : Prop := sumsTogetherUptoRow.holds Tryd.pinned (OpenSpec.upto sumsTogetherSpec)

/-- 'dragnetlaw2.SumsSteps', WHERE WHAT IT READS IS OF BULK AT MOST 1048576: true; the input reads as it did. -/
def sumsStepsUptoRow : OpenClaim := { program := "ytnbcmobdenjjfaadoor", sum := "b618061c57280ba90bcb98ebc74636fe066ff7941ff3d89208319c1ebab904c1", func := "dragnet/dragnetlaw2.SumsSteps", spec := "sumsSteps", unfollowed := true, recurses := true, named := ["dragnet/sums.fourSteps"], apart := false, laid := [("dragnet/sums.fourSteps", laid_dragnet_sums_fourSteps)], narrowed := true }
def SumsStepsUptoSaid : Prop := sumsStepsUptoRow.holds Tryd.pinned (OpenSpec.upto sumsStepsSpec)

end Rows
end Go.Proofs.YtnbcmobdenjjfaaDoor
