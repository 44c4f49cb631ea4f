/-
  NARROWER THAN 'FOR EVERY INPUT', by the rows' own cells (each row's printed sentence says how): SumsTold: laid · SumsOne: laid · SumsEach: laid · SumsPieces: laid.
  DERIVED. THE GIVEN ROWS OF THIS SEAT. 4 by the template 'for every input the law returns true; each argument reads behind the call as it read before'; 0 by the template 'total and deterministic' (their statements: YtnbcmobdenjjfabDoorTotals.lean).
  GIVEN WITH THE SEED: the statements are not yours to turn. If you find one false, say at which input.
  Laid BY PROGRAM, IN A SANDBOX (cutbox-rows.mjs): the forced cells as the released guide's own fill.sh prints them over the translation 6fd93199c134ae1d… (all of the seat's roots in one cut). By AI agents, Wed Nov 11 2026. No macro, syntax, notation, axiom, sorry.
-/
import Derived.Test.YtnbcmobdenjjfabDoorChecked
import GoSem.Claim
import GoSem.ClaimJoined
import GoSem.ClaimMapViews
import Derived.JoinedTies
import Derived.KernelRfl
namespace Go.Proofs.YtnbcmobdenjjfabDoor
/- THE CELL 'sum', in the pinned program and in every row, IS THE sha256 OF THE DUMP (.gsa) THAT YtnbcmobdenjjfabDoorProg.lean LOADS. Nothing in Lean hashes anything: it is a label: what it is worth is what the hold of that sum in a sandbox is worth. -/
noncomputable def Tryd.pinned : Pinned := { name := "ytnbcmobdenjjfabdoor", sum := "6fd93199c134ae1d0680b7d32212f3eec7b61daf4abd7faa1be57c3135c4f92d", checked := Tryd.checked }
namespace Rows
def none {H : Type} : Left H := { results := [], args := [] }

/- WHAT THE LISTED PACKAGE-LEVEL VARIABLES READ AS WHEN THE CALL BEGINS. Each datum BY PROGRAM (the guide's laid-datum.mjs) off the statement by which the dump's own 'gosem.cut.vars' lays the variable. In a bare row this is a premise. The card (YtnbcmobdenjjfabDoorCards.lean) ties it to the program's text. -/
def laid_dragnet_sums_fourSteps {H : Type} : DataW H := .agg [.lit (.int .u32 0), .lit (.int .u32 274646895), .lit (.int .u32 549293790), .lit (.int .u32 820201905), .lit (.int .u32 1098587580), .lit (.int .u32 1361435347), .lit (.int .u32 1640403810), .lit (.int .u32 1905808397), .lit (.int .u32 2197175160), .lit (.int .u32 2460548119), .lit (.int .u32 2722870694), .lit (.int .u32 2987750089), .lit (.int .u32 3280807620), .lit (.int .u32 3553878443), .lit (.int .u32 3811616794), .lit (.int .u32 4084100981)]

/-- 'dragnetlaw2.SumsTold': WHATEVER THE INPUT: true; the input reads as it did. -/
def sumsToldSpec : ChangeSpec := { name := "sumsTold", fn := fun _ => fun
  | [d1, d2, d3] => { results := [.lit (.bool true)], args := [d1, d2, d3] }
  | _ => none }
def sumsToldRow : OpenClaim := { program := "ytnbcmobdenjjfabdoor", sum := "6fd93199c134ae1d0680b7d32212f3eec7b61daf4abd7faa1be57c3135c4f92d", func := "dragnet/dragnetlaw2.SumsTold", spec := "sumsTold", unfollowed := true, recurses := true, named := ["dragnet/sums.fourSteps"], apart := false, laid := [("dragnet/sums.fourSteps", laid_dragnet_sums_fourSteps)] }
def SumsToldSaid : Prop := sumsToldRow.holds Tryd.pinned (OpenSpec.ofChange sumsToldSpec)

/-- ITS FALSE NEIGHBOUR: 'it returns false'. Refute it at one input. -/
def sumsToldWrong : ChangeSpec := { name := "sumsTold", fn := fun _ => fun
  | [d1, d2, d3] => { results := [.lit (.bool false)], args := [d1, d2, d3] }
  | _ => none }
def SumsToldWrongFalsely : Prop := sumsToldRow.holds Tryd.pinned (OpenSpec.ofChange sumsToldWrong)

/-- 'dragnetlaw2.SumsOne': WHATEVER THE INPUT: true; the input reads as it did. -/
def sumsOneSpec : ChangeSpec := { name := "sumsOne", fn := fun _ => fun
  | [d1, d2, d3, d4] => { results := [.lit (.bool true)], args := [d1, d2, d3, d4] }
  | _ => none }
def sumsOneRow : OpenClaim := { program := "ytnbcmobdenjjfabdoor", sum := "6fd93199c134ae1d0680b7d32212f3eec7b61daf4abd7faa1be57c3135c4f92d", func := "dragnet/dragnetlaw2.SumsOne", spec := "sumsOne", unfollowed := true, recurses := true, named := ["dragnet/sums.fourSteps"], apart := false, laid := [("dragnet/sums.fourSteps", laid_dragnet_sums_fourSteps)] }
def SumsOneSaid : Prop := sumsOneRow.holds Tryd.pinned (OpenSpec.ofChange sumsOneSpec)

/-- ITS FALSE NEIGHBOUR: 'it returns false'. Refute it at one input. -/
def sumsOneWrong : ChangeSpec := { name := "sumsOne", fn := fun _ => fun
  | [d1, d2, d3, d4] => { results := [.lit (.bool false)], args := [d1, d2, d3, d4] }
  | _ => none }
def SumsOneWrongFalsely : Prop := sumsOneRow.holds Tryd.pinned (OpenSpec.ofChange sumsOneWrong)

/-- 'dragnetlaw2.SumsEach': WHATEVER THE INPUT: true; the input reads as it did. -/
def sumsEachSpec : ChangeSpec := { name := "sumsEach", fn := fun _ => fun
  | [d1, d2, d3, d4, d5, d6] => { results := [.lit (.bool true)], args := [d1, d2, d3, d4, d5, d6] }
  | _ => none }
def sumsEachRow : OpenClaim := { program := "ytnbcmobdenjjfabdoor", sum := "6fd93199c134ae1d0680b7d32212f3eec7b61daf4abd7faa1be57c3135c4f92d", func := "dragnet/dragnetlaw2.SumsEach", spec := "sumsEach", unfollowed := true, recurses := true, named := ["dragnet/sums.fourSteps"], apart := false, laid := [("dragnet/sums.fourSteps", laid_dragnet_sums_fourSteps)] }
def SumsEachSaid : Prop := sumsEachRow.holds Tryd.pinned (OpenSpec.ofChange sumsEachSpec)

/-- ITS FALSE NEIGHBOUR: 'it returns false'. Refute it at one input. -/
def sumsEachWrong : ChangeSpec := { name := "sumsEach", fn := fun _ => fun
  | [d1, d2, d3, d4, d5, d6] => { results := [.lit (.bool false)], args := [d1, d2, d3, d4, d5, d6] }
  | _ => none }
def SumsEachWrongFalsely : Prop := sumsEachRow.holds Tryd.pinned (OpenSpec.ofChange sumsEachWrong)

/-- 'dragnetlaw2.SumsPieces': WHATEVER THE INPUT: true; the input reads as it did. -/
def sumsPiecesSpec : ChangeSpec := { name := "sumsPieces", fn := fun _ => fun
  | [d1, d2, d3, d4, d5] => { results := [.lit (.bool true)], args := [d1, d2, d3, d4, d5] }
  | _ => none }
def sumsPiecesRow : OpenClaim := { program := "ytnbcmobdenjjfabdoor", sum := "6fd93199c134ae1d0680b7d32212f3eec7b61daf4abd7faa1be57c3135c4f92d", func := "dragnet/dragnetlaw2.SumsPieces", spec := "sumsPieces", unfollowed := true, recurses := true, named := ["dragnet/sums.fourSteps"], apart := false, laid := [("dragnet/sums.fourSteps", laid_dragnet_sums_fourSteps)] }
def SumsPiecesSaid : Prop := sumsPiecesRow.holds Tryd.pinned (OpenSpec.ofChange sumsPiecesSpec)

/-- ITS FALSE NEIGHBOUR: 'it returns false'. Refute it at one input. -/
def sumsPiecesWrong : ChangeSpec := { name := "sumsPieces", fn := fun _ => fun
  | [d1, d2, d3, d4, d5] => { results := [.lit (.bool false)], args := [d1, d2, d3, d4, d5] }
  | _ => none }
def SumsPiecesWrongFalsely : Prop := sumsPiecesRow.holds Tryd.pinned (OpenSpec.ofChange sumsPiecesWrong)

/- THE SECOND FORM. 'bulk': how many values and letters a reading holds, each counted each time it is reached (what is shared counts as often as it is met; a slice's spare places count too). A statement '..UptoSaid' is the law's where the arguments, and the package variables that the reading takes, are together of bulk at most 1048576: NARROWER than '..Said'. Prove '..Said' where nothing that the law and all that it calls make is longer than what came in: it says more and counts as full. Else prove '..UptoSaid'. A law counts once. -/
mutual
def uptoBulk {H : Type} : DataW H → Nat
  | .lit (.string bytes) => bytes.length + 1
  | .lit _ => 1
  | .nil => 1
  | .ptr d => uptoBulk d + 1
  | .slice elems spare => uptoBulkAll elems + uptoBulkAll spare + 1
  | .agg parts => uptoBulkAll parts + 1
  | .iface _ d => uptoBulk d + 1
  | .map entries => uptoBulkEntries entries + 1
  | .held _ => 1
def uptoBulkAll {H : Type} : List (DataW H) → Nat
  | [] => 0
  | d :: r => uptoBulk d + uptoBulkAll r
def uptoBulkEntries {H : Type} : List (Lit × DataW H) → Nat
  | [] => 0
  | x :: r => uptoBulkEntry x + uptoBulkEntries r
def uptoBulkEntry {H : Type} : Lit × DataW H → Nat
  | (.string bytes, d) => bytes.length + uptoBulk d + 1
  | (_, d) => uptoBulk d + 1
 end
def uptoSmall : (H : Type) → List (DataW H) → Bool := fun _ ds => decide (uptoBulkAll ds ≤ 1048576)
def OpenSpec.upto (s : _root_.Go.ChangeSpec) : _root_.Go.OpenSpec := { _root_.Go.OpenSpec.ofChange s with cond := some uptoSmall }

/-- 'dragnetlaw2.SumsTold', WHERE WHAT IT READS IS OF BULK AT MOST 1048576: true; the input reads as it did. -/
def sumsToldUptoRow : OpenClaim := { program := "ytnbcmobdenjjfabdoor", sum := "6fd93199c134ae1d0680b7d32212f3eec7b61daf4abd7faa1be57c3135c4f92d", func := "dragnet/dragnetlaw2.SumsTold", spec := "sumsTold", unfollowed := true, recurses := true, named := ["dragnet/sums.fourSteps"], apart := false, laid := [("dragnet/sums.fourSteps", laid_dragnet_sums_fourSteps)], narrowed := true }
def SumsToldUptoSaid : Prop := sumsToldUptoRow.holds Tryd.pinned (OpenSpec.upto sumsToldSpec)

/-- 'dragnetlaw2.SumsOne', WHERE WHAT IT READS IS OF BULK AT MOST 1048576: true; the input reads as it did. -/
def sumsOneUptoRow : OpenClaim := { program := "ytnbcmobdenjjfabdoor", sum := "6fd93199c134ae1d0680b7d32212f3eec7b61daf4abd7faa1be57c3135c4f92d", func := "dragnet/dragnetlaw2.SumsOne", spec := "sumsOne", unfollowed := true, recurses := true, named := ["dragnet/sums.fourSteps"], apart := false, laid := [("dragnet/sums.fourSteps", laid_dragnet_sums_fourSteps)], narrowed := true }
def SumsOneUptoSaid : Prop := sumsOneUptoRow.holds Tryd.pinned (OpenSpec.upto sumsOneSpec)

/-- 'dragnetlaw2.SumsEach', WHERE WHAT IT READS IS OF BULK AT MOST 1048576: true; the input reads as it did. -/
def sumsEachUptoRow : OpenClaim := { program := "ytnbcmobdenjjfabdoor", sum := "6fd93199c134ae1d0680b7d32212f3eec7b61daf4abd7faa1be57c3135c4f92d", func := "dragnet/dragnetlaw2.SumsEach", spec := "sumsEach", unfollowed := true, recurses := true, named := ["dragnet/sums.fourSteps"], apart := false, laid := [("dragnet/sums.fourSteps", laid_dragnet_sums_fourSteps)], narrowed := true }
def SumsEachUptoSaid : Prop := sumsEachUptoRow.holds Tryd.pinned (OpenSpec.upto sumsEachSpec)

/-- 'dragnetlaw2.SumsPieces', WHERE WHAT IT READS IS OF BULK AT MOST 1048576: true; the input reads as it did. -/
def sumsPiecesUptoRow : OpenClaim := { program := "ytnbcmobdenjjfabdoor", sum := "6fd93199c134ae1d0680b7d32212f3eec7b61daf4abd7faa1be57c3135c4f92d", func := "dragnet/dragnetlaw2.SumsPieces", spec := "sumsPieces", unfollowed := true, recurses := true, named := ["dragnet/sums.fourSteps"], apart := false, laid := [("dragnet/sums.fourSteps", laid_dragnet_sums_fourSteps)], narrowed := true }
def SumsPiecesUptoSaid : Prop := sumsPiecesUptoRow.holds Tryd.pinned (OpenSpec.upto sumsPiecesSpec)

end Rows
end Go.Proofs.YtnbcmobdenjjfabDoor
