/-
  NARROWER THAN 'FOR EVERY INPUT', by the rows' own cells (each row's printed sentence says how): BlockSeals: laid · BlockOpens: laid · BlockBack: laid · BlockTurned: laid · BlockCut: laid · BlockAgain: laid.
  DERIVED. THE GIVEN ROWS OF THIS SEAT. 6 by the template 'for every input the law returns true; each argument reads behind the call as it read before'; 0 by the template 'total and deterministic' (their statements: YtlplbnlfajdcbaaGreatDoorTotals.lean).
  GIVEN WITH THE SEED: the statements are not yours to turn. If you find one false, say at which input.
  Laid BY PROGRAM, IN A SANDBOX (cutbox-rows.mjs): the forced cells as the released guide's own fill.sh prints them over the translation b29a70c2c6f8f272… (all of the seat's roots in one cut). By AI agents, Wed Nov 11 2026. No macro, syntax, notation, axiom, sorry.
-/
import Derived.Test.YtlplbnlfajdcbaaGreatDoorChecked
import GoSem.Claim
import GoSem.ClaimJoined
import GoSem.ClaimMapViews
import Derived.JoinedTies
import Derived.KernelRfl
namespace Go.Proofs.YtlplbnlfajdcbaaGreatDoor
/- THE CELL 'sum', in the pinned program and in every row, IS THE sha256 OF THE DUMP (.gsa) THAT YtlplbnlfajdcbaaGreatDoorProg.lean LOADS. Nothing in Lean hashes anything: it is a label: what it is worth is what the hold of that sum in a sandbox is worth. -/
noncomputable def Tryz.pinned : Pinned := { name := "ytlplbnlfajdcbaagreatdoor", sum := "b29a70c2c6f8f272b4bdfb2aeaeb4e0b5ff50eb2b4321c98535d27af53db688f", checked := Tryz.checked }
namespace Rows
def none {H : Type} : Left H := { results := [], args := [] }

/- WHAT THE LISTED PACKAGE-LEVEL VARIABLES READ AS WHEN THE CALL BEGINS. Each datum BY PROGRAM (the guide's laid-datum.mjs) off the statement by which the dump's own 'gosem.cut.vars' lays the variable. In a bare row this is a premise. The card (YtlplbnlfajdcbaaGreatDoorCards.lean) ties it to the program's text. -/
def laid_errors_errorType {H : Type} : DataW H := .iface "internal/reflectlite.rtype" (.agg [.ptr (.lit (.string [101, 114, 114, 111, 114]))])
def laid_dragnet_sums_fourSteps {H : Type} : DataW H := .agg [.lit (.int .u32 0), .lit (.int .u32 274646895), .lit (.int .u32 549293790), .lit (.int .u32 820201905), .lit (.int .u32 1098587580), .lit (.int .u32 1361435347), .lit (.int .u32 1640403810), .lit (.int .u32 1905808397), .lit (.int .u32 2197175160), .lit (.int .u32 2460548119), .lit (.int .u32 2722870694), .lit (.int .u32 2987750089), .lit (.int .u32 3280807620), .lit (.int .u32 3553878443), .lit (.int .u32 3811616794), .lit (.int .u32 4084100981)]

/-- 'dragnetlaw18.BlockSeals': WHATEVER THE INPUT: true; the input reads as it did. -/
def blockSealsSpec : ChangeSpec := { name := "blockSeals", fn := fun _ => fun
  | [d1, d2, d3] => { results := [.lit (.bool true)], args := [d1, d2, d3] }
  | _ => none }
def blockSealsRow : OpenClaim := { program := "ytlplbnlfajdcbaagreatdoor", sum := "b29a70c2c6f8f272b4bdfb2aeaeb4e0b5ff50eb2b4321c98535d27af53db688f", func := "dragnet/dragnetlaw18.BlockSeals", spec := "blockSeals", inPlace := ["internal/bytealg.IndexByteString", "internal/abi.NoEscape", "internal/bytealg.MakeNoZero", "internal/reflectlite.ValueOf", "(internal/reflectlite.Value).Type", "(internal/reflectlite.Value).IsNil", "internal/reflectlite.TypeOf", "(internal/reflectlite.Value).Elem", "(internal/reflectlite.Value).Set"], unfollowed := true, recurses := true, named := ["dragnet/sums.fourSteps", "errors.errorType"], apart := false, laid := [("errors.errorType", laid_errors_errorType), ("dragnet/sums.fourSteps", laid_dragnet_sums_fourSteps)] }
def BlockSealsSaid : Prop := blockSealsRow.holds Tryz.pinned (OpenSpec.ofChange blockSealsSpec)

/-- ITS FALSE NEIGHBOUR: 'it returns false'. Refute it at one input. -/
def blockSealsWrong : ChangeSpec := { name := "blockSeals", fn := fun _ => fun
  | [d1, d2, d3] => { results := [.lit (.bool false)], args := [d1, d2, d3] }
  | _ => none }
def BlockSealsWrongFalsely : Prop := blockSealsRow.holds Tryz.pinned (OpenSpec.ofChange blockSealsWrong)

/-- 'dragnetlaw18.BlockOpens': WHATEVER THE INPUT: true; the input reads as it did. -/
def blockOpensSpec : ChangeSpec := { name := "blockOpens", fn := fun _ => fun
  | [d] => { results := [.lit (.bool true)], args := [d] }
  | _ => none }
def blockOpensRow : OpenClaim := { program := "ytlplbnlfajdcbaagreatdoor", sum := "b29a70c2c6f8f272b4bdfb2aeaeb4e0b5ff50eb2b4321c98535d27af53db688f", func := "dragnet/dragnetlaw18.BlockOpens", spec := "blockOpens", inPlace := ["internal/bytealg.IndexByteString", "internal/abi.NoEscape", "internal/bytealg.MakeNoZero", "internal/reflectlite.ValueOf", "(internal/reflectlite.Value).Type", "(internal/reflectlite.Value).IsNil", "internal/reflectlite.TypeOf", "(internal/reflectlite.Value).Elem", "(internal/reflectlite.Value).Set"], unfollowed := true, recurses := true, named := ["dragnet/sums.fourSteps", "errors.errorType"], apart := false, laid := [("errors.errorType", laid_errors_errorType), ("dragnet/sums.fourSteps", laid_dragnet_sums_fourSteps)] }
def BlockOpensSaid : Prop := blockOpensRow.holds Tryz.pinned (OpenSpec.ofChange blockOpensSpec)

/-- ITS FALSE NEIGHBOUR: 'it returns false'. Refute it at one input. -/
def blockOpensWrong : ChangeSpec := { name := "blockOpens", fn := fun _ => fun
  | [d] => { results := [.lit (.bool false)], args := [d] }
  | _ => none }
def BlockOpensWrongFalsely : Prop := blockOpensRow.holds Tryz.pinned (OpenSpec.ofChange blockOpensWrong)

/-- 'dragnetlaw18.BlockBack': WHATEVER THE INPUT: true; the input reads as it did. -/
def blockBackSpec : ChangeSpec := { name := "blockBack", fn := fun _ => fun
  | [d1, d2] => { results := [.lit (.bool true)], args := [d1, d2] }
  | _ => none }
def blockBackRow : OpenClaim := { program := "ytlplbnlfajdcbaagreatdoor", sum := "b29a70c2c6f8f272b4bdfb2aeaeb4e0b5ff50eb2b4321c98535d27af53db688f", func := "dragnet/dragnetlaw18.BlockBack", spec := "blockBack", inPlace := ["internal/bytealg.IndexByteString", "internal/abi.NoEscape", "internal/bytealg.MakeNoZero", "internal/reflectlite.ValueOf", "(internal/reflectlite.Value).Type", "(internal/reflectlite.Value).IsNil", "internal/reflectlite.TypeOf", "(internal/reflectlite.Value).Elem", "(internal/reflectlite.Value).Set"], unfollowed := true, recurses := true, named := ["dragnet/sums.fourSteps", "errors.errorType"], apart := false, laid := [("errors.errorType", laid_errors_errorType), ("dragnet/sums.fourSteps", laid_dragnet_sums_fourSteps)] }
def BlockBackSaid : Prop := blockBackRow.holds Tryz.pinned (OpenSpec.ofChange blockBackSpec)

/-- ITS FALSE NEIGHBOUR: 'it returns false'. Refute it at one input. -/
def blockBackWrong : ChangeSpec := { name := "blockBack", fn := fun _ => fun
  | [d1, d2] => { results := [.lit (.bool false)], args := [d1, d2] }
  | _ => none }
def BlockBackWrongFalsely : Prop := blockBackRow.holds Tryz.pinned (OpenSpec.ofChange blockBackWrong)

/-- 'dragnetlaw18.BlockTurned': WHATEVER THE INPUT: true; the input reads as it did. -/
def blockTurnedSpec : ChangeSpec := { name := "blockTurned", fn := fun _ => fun
  | [d1, d2, d3, d4] => { results := [.lit (.bool true)], args := [d1, d2, d3, d4] }
  | _ => none }
def blockTurnedRow : OpenClaim := { program := "ytlplbnlfajdcbaagreatdoor", sum := "b29a70c2c6f8f272b4bdfb2aeaeb4e0b5ff50eb2b4321c98535d27af53db688f", func := "dragnet/dragnetlaw18.BlockTurned", spec := "blockTurned", inPlace := ["internal/bytealg.IndexByteString", "internal/abi.NoEscape", "internal/bytealg.MakeNoZero", "internal/reflectlite.ValueOf", "(internal/reflectlite.Value).Type", "(internal/reflectlite.Value).IsNil", "internal/reflectlite.TypeOf", "(internal/reflectlite.Value).Elem", "(internal/reflectlite.Value).Set"], unfollowed := true, recurses := true, named := ["dragnet/sums.fourSteps", "errors.errorType"], apart := false, laid := [("errors.errorType", laid_errors_errorType), ("dragnet/sums.fourSteps", laid_dragnet_sums_fourSteps)] }
def BlockTurnedSaid : Prop := blockTurnedRow.holds Tryz.pinned (OpenSpec.ofChange blockTurnedSpec)

/-- ITS FALSE NEIGHBOUR: 'it returns false'. Refute it at one input. -/
def blockTurnedWrong : ChangeSpec := { name := "blockTurned", fn := fun _ => fun
  | [d1, d2, d3, d4] => { results := [.lit (.bool false)], args := [d1, d2, d3, d4] }
  | _ => none }
def BlockTurnedWrongFalsely : Prop := blockTurnedRow.holds Tryz.pinned (OpenSpec.ofChange blockTurnedWrong)

/-- 'dragnetlaw18.BlockCut': WHATEVER THE INPUT: true; the input reads as it did. -/
def blockCutSpec : ChangeSpec := { name := "blockCut", fn := fun _ => fun
  | [d1, d2, d3, d4] => { results := [.lit (.bool true)], args := [d1, d2, d3, d4] }
  | _ => none }
def blockCutRow : OpenClaim := { program := "ytlplbnlfajdcbaagreatdoor", sum := "b29a70c2c6f8f272b4bdfb2aeaeb4e0b5ff50eb2b4321c98535d27af53db688f", func := "dragnet/dragnetlaw18.BlockCut", spec := "blockCut", inPlace := ["internal/bytealg.IndexByteString", "internal/abi.NoEscape", "internal/bytealg.MakeNoZero", "internal/reflectlite.ValueOf", "(internal/reflectlite.Value).Type", "(internal/reflectlite.Value).IsNil", "internal/reflectlite.TypeOf", "(internal/reflectlite.Value).Elem", "(internal/reflectlite.Value).Set"], unfollowed := true, recurses := true, named := ["dragnet/sums.fourSteps", "errors.errorType"], apart := false, laid := [("errors.errorType", laid_errors_errorType), ("dragnet/sums.fourSteps", laid_dragnet_sums_fourSteps)] }
def BlockCutSaid : Prop := blockCutRow.holds Tryz.pinned (OpenSpec.ofChange blockCutSpec)

/-- ITS FALSE NEIGHBOUR: 'it returns false'. Refute it at one input. -/
def blockCutWrong : ChangeSpec := { name := "blockCut", fn := fun _ => fun
  | [d1, d2, d3, d4] => { results := [.lit (.bool false)], args := [d1, d2, d3, d4] }
  | _ => none }
def BlockCutWrongFalsely : Prop := blockCutRow.holds Tryz.pinned (OpenSpec.ofChange blockCutWrong)

/-- 'dragnetlaw18.BlockAgain': WHATEVER THE INPUT: true; the input reads as it did. -/
def blockAgainSpec : ChangeSpec := { name := "blockAgain", fn := fun _ => fun
  | [d] => { results := [.lit (.bool true)], args := [d] }
  | _ => none }
def blockAgainRow : OpenClaim := { program := "ytlplbnlfajdcbaagreatdoor", sum := "b29a70c2c6f8f272b4bdfb2aeaeb4e0b5ff50eb2b4321c98535d27af53db688f", func := "dragnet/dragnetlaw18.BlockAgain", spec := "blockAgain", inPlace := ["internal/bytealg.IndexByteString", "internal/abi.NoEscape", "internal/bytealg.MakeNoZero", "internal/reflectlite.ValueOf", "(internal/reflectlite.Value).Type", "(internal/reflectlite.Value).IsNil", "internal/reflectlite.TypeOf", "(internal/reflectlite.Value).Elem", "(internal/reflectlite.Value).Set"], unfollowed := true, recurses := true, named := ["dragnet/sums.fourSteps", "errors.errorType"], apart := false, laid := [("errors.errorType", laid_errors_errorType), ("dragnet/sums.fourSteps", laid_dragnet_sums_fourSteps)] }
def BlockAgainSaid : Prop := blockAgainRow.holds Tryz.pinned (OpenSpec.ofChange blockAgainSpec)

/-- ITS FALSE NEIGHBOUR: 'it returns false'. Refute it at one input. -/
def blockAgainWrong : ChangeSpec := { name := "blockAgain", fn := fun _ => fun
  | [d] => { results := [.lit (.bool false)], args := [d] }
  | _ => none }
def BlockAgainWrongFalsely : Prop := blockAgainRow.holds Tryz.pinned (OpenSpec.ofChange blockAgainWrong)

/- THE SECOND FORM. 'bulk': how many values and letters a reading holds, each counted each time it is reached (what is shared counts as often as it is met; a slice's spare places count too). A statement '..UptoSaid' is the law's where the arguments, and the package variables that the reading takes, are together of bulk at most 1048576: NARROWER than '..Said'. Prove '..Said' where nothing that the law and all that it calls make is longer than what came in: it says more and counts as full. Else prove '..UptoSaid'. A law counts once. -/
mutual
def uptoBulk {H : Type} : DataW H → Nat
  | .lit (.string bytes) => bytes.length + 1
  | .lit _ => 1
  | .nil => 1
  | .ptr d => uptoBulk d + 1
  | .slice elems spare => uptoBulkAll elems + uptoBulkAll spare + 1
  | .agg parts => uptoBulkAll parts + 1
  | .iface _ d => uptoBulk d + 1
  | .map entries => uptoBulkEntries entries + 1
  | .held _ => 1
def uptoBulkAll {H : Type} : List (DataW H) → Nat
  | [] => 0
  | d :: r => uptoBulk d + uptoBulkAll r
def uptoBulkEntries {H : Type} : List (Lit × DataW H) → Nat
  | [] => 0
  | x :: r => uptoBulkEntry x + uptoBulkEntries r
def uptoBulkEntry {H : Type} : Lit × DataW H → Nat
  | (.string bytes, d) => bytes.length + uptoBulk d + 1
  | (_, d) => uptoBulk d + 1
 end
def uptoSmall : (H : Type) → List (DataW H) → Bool := fun _ ds => decide (uptoBulkAll ds ≤ 1048576)
def OpenSpec.upto (s : _root_.Go.ChangeSpec) : _root_.Go.OpenSpec := { _root_.Go.OpenSpec.ofChange s with cond := some uptoSmall }

/-- 'dragnetlaw18.BlockSeals', WHERE WHAT IT READS IS OF BULK AT MOST 1048576: true; the input reads as it did. -/
def blockSealsUptoRow : OpenClaim := { program := "ytlplbnlfajdcbaagreatdoor", sum := "b29a70c2c6f8f272b4bdfb2aeaeb4e0b5ff50eb2b4321c98535d27af53db688f", func := "dragnet/dragnetlaw18.BlockSeals", spec := "blockSeals", inPlace := ["internal/bytealg.IndexByteString", "internal/abi.NoEscape", "internal/bytealg.MakeNoZero", "internal/reflectlite.ValueOf", "(internal/reflectlite.Value).Type", "(internal/reflectlite.Value).IsNil", "internal/reflectlite.TypeOf", "(internal/reflectlite.Value).Elem", "(internal/reflectlite.Value).Set"], unfollowed := true, recurses := true, named := ["dragnet/sums.fourSteps", "errors.errorType"], apart := false, laid := [("errors.errorType", laid_errors_errorType), ("dragnet/sums.fourSteps", laid_dragnet_sums_fourSteps)], narrowed := true }
def BlockSealsUptoSaid : Prop := blockSealsUptoRow.holds Tryz.pinned (OpenSpec.upto blockSealsSpec)

/-- 'dragnetlaw18.BlockOpens', WHERE WHAT IT READS IS OF BULK AT MOST 1048576: true; the input reads as it did. -/
def blockOpensUptoRow : OpenClaim := { program := "ytlplbnlfajdcbaagreatdoor", sum := "b29a70c2c6f8f272b4bdfb2aeaeb4e0b5ff50eb2b4321c98535d27af53db688f", func := "dragnet/dragnetlaw18.BlockOpens", spec := "blockOpens", inPlace := ["internal/bytealg.IndexByteString", "internal/abi.NoEscape", "internal/bytealg.MakeNoZero", "internal/reflectlite.ValueOf", "(internal/reflectlite.Value).Type", "(internal/reflectlite.Value).IsNil", "internal/reflectlite.TypeOf", "(internal/reflectlite.Value).Elem", "(internal/reflectlite.Value).Set"], unfollowed := true, recurses := true, named := ["dragnet/sums.fourSteps", "errors.errorType"], apart := false, laid := [("errors.errorType", laid_errors_errorType), ("dragnet/sums.fourSteps", laid_dragnet_sums_fourSteps)], narrowed := true }
def BlockOpensUptoSaid : Prop := blockOpensUptoRow.holds Tryz.pinned (OpenSpec.upto blockOpensSpec)

/-- 'dragnetlaw18.BlockBack', WHERE WHAT IT READS IS OF BULK AT MOST 1048576: true; the input reads as it did. -/
def blockBackUptoRow : OpenClaim := { program := "ytlplbnlfajdcbaagreatdoor", sum := "b29a70c2c6f8f272b4bdfb2aeaeb4e0b5ff50eb2b4321c98535d27af53db688f", func := "dragnet/dragnetlaw18.BlockBack", spec := "blockBack", inPlace := ["internal/bytealg.IndexByteString", "internal/abi.NoEscape", "internal/bytealg.MakeNoZero", "internal/reflectlite.ValueOf", "(internal/reflectlite.Value).Type", "(internal/reflectlite.Value).IsNil", "internal/reflectlite.TypeOf", "(internal/reflectlite.Value).Elem", "(internal/reflectlite.Value).Set"], unfollowed := true, recurses := true, named := ["dragnet/sums.fourSteps", "errors.errorType"], apart := false, laid := [("errors.errorType", laid_errors_errorType), ("dragnet/sums.fourSteps", laid_dragnet_sums_fourSteps)], narrowed := true }
def BlockBackUptoSaid : Prop := blockBackUptoRow.holds Tryz.pinned (OpenSpec.upto blockBackSpec)

/-- 'dragnetlaw18.BlockTurned', WHERE WHAT IT READS IS OF BULK AT MOST 1048576: true; the input reads as it did. -/
def blockTurnedUptoRow : OpenClaim := { program := "ytlplbnlfajdcbaagreatdoor", sum := "b29a70c2c6f8f272b4bdfb2aeaeb4e0b5ff50eb2b4321c98535d27af53db688f", func := "dragnet/dragnetlaw18.BlockTurned", spec := "blockTurned", inPlace := ["internal/bytealg.IndexByteString", "internal/abi.NoEscape", "internal/bytealg.MakeNoZero", "internal/reflectlite.ValueOf", "(internal/reflectlite.Value).Type", "(internal/reflectlite.Value).IsNil", "internal/reflectlite.TypeOf", "(internal/reflectlite.Value).Elem", "(internal/reflectlite.Value).Set"], unfollowed := true, recurses := true, named := ["dragnet/sums.fourSteps", "errors.errorType"], apart := false, laid := [("errors.errorType", laid_errors_errorType), ("dragnet/sums.fourSteps", laid_dragnet_sums_fourSteps)], narrowed := true }
def BlockTurnedUptoSaid : Prop := blockTurnedUptoRow.holds Tryz.pinned (OpenSpec.upto blockTurnedSpec)

/-- 'dragnetlaw18.BlockCut', WHERE WHAT IT READS IS OF BULK AT MOST 1048576: true; the input reads as it did. -/
def blockCutUptoRow : OpenClaim := { program := "ytlplbnlfajdcbaagreatdoor", sum := "b29a70c2c6f8f272b4bdfb2aeaeb4e0b5ff50eb2b4321c98535d27af53db688f", func := "dragnet/dragnetlaw18.BlockCut", spec := "blockCut", inPlace := ["internal/bytealg.IndexByteString", "internal/abi.NoEscape", "internal/bytealg.MakeNoZero", "internal/reflectlite.ValueOf", "(internal/reflectlite.Value).Type", "(internal/reflectlite.Value).IsNil", "internal/reflectlite.TypeOf", "(internal/reflectlite.Value).Elem", "(internal/reflectlite.Value).Set"], unfollowed := true, recurses := true, named := ["dragnet/sums.fourSteps", "errors.errorType"], apart := false, laid := [("errors.errorType", laid_errors_errorType), ("dragnet/sums.fourSteps", laid_dragnet_sums_fourSteps)], narrowed := true }
def BlockCutUptoSaid : Prop := blockCutUptoRow.holds Tryz.pinned (OpenSpec.upto blockCutSpec)

/-- 'dragnetlaw18.BlockAgain', WHERE WHAT IT READS IS OF BULK AT MOST 1048576: true; the input reads as it did. -/
def blockAgainUptoRow : OpenClaim := { program := "ytlplbnlfajdcbaagreatdoor", sum := "b29a70c2c6f8f272b4bdfb2aeaeb4e0b5ff50eb2b4321c98535d27af53db688f", func := "dragnet/dragnetlaw18.BlockAgain", spec := "blockAgain", inPlace := ["internal/bytealg.IndexByteString", "internal/abi.NoEscape", "internal/bytealg.MakeNoZero", "internal/reflectlite.ValueOf", "(internal/reflectlite.Value).Type", "(internal/reflectlite.Value).IsNil", "internal/reflectlite.TypeOf", "(internal/reflectlite.Value).Elem", "(internal/reflectlite.Value).Set"], unfollowed := true, recurses := true, named := ["dragnet/sums.fourSteps", "errors.errorType"], apart := false, laid := [("errors.errorType", laid_errors_errorType), ("dragnet/sums.fourSteps", laid_dragnet_sums_fourSteps)], narrowed := true }
def BlockAgainUptoSaid : Prop := blockAgainUptoRow.holds Tryz.pinned (OpenSpec.upto blockAgainSpec)

end Rows
end Go.Proofs.YtlplbnlfajdcbaaGreatDoor
