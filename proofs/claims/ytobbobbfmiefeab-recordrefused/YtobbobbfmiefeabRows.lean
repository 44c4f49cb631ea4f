/-
  No cell of these rows narrows 'for every input' (looked for: loops, veiled, ifaces, maps, wideKeys, modest, calm, conditions, laid).
  DERIVED. THE GIVEN ROWS OF THIS SEAT. 3 by the template 'for every input the law returns true; each argument reads behind the call as it read before'; 0 by the template 'total and deterministic' (their statements: YtobbobbfmiefeabTotals.lean).
  GIVEN WITH THE SEED: the statements are not yours to turn. If you find one false, say at which input.
  Laid BY PROGRAM, IN A SANDBOX (cutbox-rows.mjs): the forced cells as the released guide's own fill.sh prints them over the translation ebe9e635320902a0… (all of the seat's roots in one cut). By AI agents, Wed Nov 11 2026. No macro, syntax, notation, axiom, sorry.
-/
import Derived.Test.YtobbobbfmiefeabChecked
import GoSem.Claim
import GoSem.ClaimJoined
import GoSem.ClaimMapViews
import Derived.JoinedTies
import Derived.KernelRfl
namespace Go.Proofs.Ytobbobbfmiefeab
/- THE CELL 'sum', in the pinned program and in every row, IS THE sha256 OF THE DUMP (.gsa) THAT YtobbobbfmiefeabProg.lean LOADS. Nothing in Lean hashes anything: it is a label: what it is worth is what the hold of that sum in a sandbox is worth. -/
noncomputable def Try.pinned : Pinned := { name := "ytobbobbfmiefeab", sum := "ebe9e635320902a0d19d4e2a1503ba4d2d41eee9264c9dc331458ccccf242923", checked := Try.checked }
namespace Rows
def none {H : Type} : Left H := { results := [], args := [] }

/-- 'dragnetlaw17.RecordColumns': WHATEVER THE INPUT: true; the input reads as it did. -/
def recordColumnsSpec : ChangeSpec := { name := "recordColumns", fn := fun _ => fun
  | [d] => { results := [.lit (.bool true)], args := [d] }
  | _ => none }
def recordColumnsRow : OpenClaim := { program := "ytobbobbfmiefeab", sum := "ebe9e635320902a0d19d4e2a1503ba4d2d41eee9264c9dc331458ccccf242923", func := "dragnet/dragnetlaw17.RecordColumns", spec := "recordColumns", inPlace := ["internal/bytealg.IndexByteString", "internal/abi.NoEscape", "internal/bytealg.MakeNoZero"], unfollowed := true, recurses := true, apart := false }
def RecordColumnsSaid : Prop := recordColumnsRow.holds Try.pinned (OpenSpec.ofChange recordColumnsSpec)

/-- ITS FALSE NEIGHBOUR: 'it returns false'. Refute it at one input. -/
def recordColumnsWrong : ChangeSpec := { name := "recordColumns", fn := fun _ => fun
  | [d] => { results := [.lit (.bool false)], args := [d] }
  | _ => none }
def RecordColumnsWrongFalsely : Prop := recordColumnsRow.holds Try.pinned (OpenSpec.ofChange recordColumnsWrong)

/-- 'dragnetlaw17.RecordCut': WHATEVER THE INPUT: true; the input reads as it did. -/
def recordCutSpec : ChangeSpec := { name := "recordCut", fn := fun _ => fun
  | [d1, d2, d3] => { results := [.lit (.bool true)], args := [d1, d2, d3] }
  | _ => none }
def recordCutRow : OpenClaim := { program := "ytobbobbfmiefeab", sum := "ebe9e635320902a0d19d4e2a1503ba4d2d41eee9264c9dc331458ccccf242923", func := "dragnet/dragnetlaw17.RecordCut", spec := "recordCut", inPlace := ["internal/bytealg.IndexByteString", "internal/abi.NoEscape", "internal/bytealg.MakeNoZero"], unfollowed := true, recurses := true, apart := false }
def RecordCutSaid : Prop := recordCutRow.holds Try.pinned (OpenSpec.ofChange recordCutSpec)

/-- ITS FALSE NEIGHBOUR: 'it returns false'. Refute it at one input. -/
def recordCutWrong : ChangeSpec := { name := "recordCut", fn := fun _ => fun
  | [d1, d2, d3] => { results := [.lit (.bool false)], args := [d1, d2, d3] }
  | _ => none }
def RecordCutWrongFalsely : Prop := recordCutRow.holds Try.pinned (OpenSpec.ofChange recordCutWrong)

/-- 'dragnetlaw17.RecordRefused': WHATEVER THE INPUT: true; the input reads as it did. -/
def recordRefusedSpec : ChangeSpec := { name := "recordRefused", fn := fun _ => fun
  | [d1, d2, d3, d4, d5] => { results := [.lit (.bool true)], args := [d1, d2, d3, d4, d5] }
  | _ => none }
def recordRefusedRow : OpenClaim := { program := "ytobbobbfmiefeab", sum := "ebe9e635320902a0d19d4e2a1503ba4d2d41eee9264c9dc331458ccccf242923", func := "dragnet/dragnetlaw17.RecordRefused", spec := "recordRefused", inPlace := ["internal/bytealg.IndexByteString", "internal/abi.NoEscape", "internal/bytealg.MakeNoZero"], unfollowed := true, recurses := true, apart := false }
def RecordRefusedSaid : Prop := recordRefusedRow.holds Try.pinned (OpenSpec.ofChange recordRefusedSpec)

/-- ITS FALSE NEIGHBOUR: 'it returns false'. Refute it at one input. -/
def recordRefusedWrong : ChangeSpec := { name := "recordRefused", fn := fun _ => fun
  | [d1, d2, d3, d4, d5] => { results := [.lit (.bool false)], args := [d1, d2, d3, d4, d5] }
  | _ => none }
def RecordRefusedWrongFalsely : Prop := recordRefusedRow.holds Try.pinned (OpenSpec.ofChange recordRefusedWrong)

/- THE SECOND FORM. 'bulk': how many values and letters a reading holds, each counted each time it is reached (what is shared counts as often as it is met; a slice's spare places count too). A statement '..UptoSaid' is the law's where the arguments, and the package variables that the reading takes, are together of bulk at most 1048576: NARROWER than '..Said'. Prove '..Said' where nothing that the law and all that it calls make is longer than what came in: it says more and counts as full. Else prove '..UptoSaid'. A law counts once. -/
mutual
def uptoBulk {H : Type} : DataW H → Nat
  | .lit (.string bytes) => bytes.length + 1
  | .lit _ => 1
  | .nil => 1
  | .ptr d => uptoBulk d + 1
  | .slice elems spare => uptoBulkAll elems + uptoBulkAll spare + 1
  | .agg parts => uptoBulkAll parts + 1
  | .iface _ d => uptoBulk d + 1
  | .map entries => uptoBulkEntries entries + 1
  | .held _ => 1
def uptoBulkAll {H : Type} : List (DataW H) → Nat
  | [] => 0
  | d :: r => uptoBulk d + uptoBulkAll r
def uptoBulkEntries {H : Type} : List (Lit × DataW H) → Nat
  | [] => 0
  | x :: r => uptoBulkEntry x + uptoBulkEntries r
def uptoBulkEntry {H : Type} : Lit × DataW H → Nat
  | (.string bytes, d) => bytes.length + uptoBulk d + 1
  | (_, d) => uptoBulk d + 1
 end
def uptoSmall : (H : Type) → List (DataW H) → Bool := fun _ ds => decide (uptoBulkAll ds ≤ 1048576)
def OpenSpec.upto (s : _root_.Go.ChangeSpec) : _root_.Go.OpenSpec := { _root_.Go.OpenSpec.ofChange s with cond := some uptoSmall }

/-- 'dragnetlaw17.RecordColumns', WHERE WHAT IT READS IS OF BULK AT MOST 1048576: true; the input reads as it did. -/
def recordColumnsUptoRow : OpenClaim := { program := "ytobbobbfmiefeab", sum := "ebe9e635320902a0d19d4e2a1503ba4d2d41eee9264c9dc331458ccccf242923", func := "dragnet/dragnetlaw17.RecordColumns", spec := "recordColumns", inPlace := ["internal/bytealg.IndexByteString", "internal/abi.NoEscape", "internal/bytealg.MakeNoZero"], unfollowed := true, recurses := true, apart := false, narrowed := true }
def RecordColumnsUptoSaid : Prop := recordColumnsUptoRow.holds Try.pinned (OpenSpec.upto recordColumnsSpec)

/-- 'dragnetlaw17.RecordCut', WHERE WHAT IT READS IS OF BULK AT MOST 1048576: true; the input reads as it did. -/
def recordCutUptoRow : OpenClaim := { program := "ytobbobbfmiefeab", sum := "ebe9e635320902a0d19d4e2a1503ba4d2d41eee9264c9dc331458ccccf242923", func := "dragnet/dragnetlaw17.RecordCut", spec := "recordCut", inPlace := ["internal/bytealg.IndexByteString", "internal/abi.NoEscape", "internal/bytealg.MakeNoZero"], unfollowed := true, recurses := true, apart := false, narrowed := true }
def RecordCutUptoSaid : Prop := recordCutUptoRow.holds Try.pinned (OpenSpec.upto recordCutSpec)

/-- 'dragnetlaw17.RecordRefused', WHERE WHAT IT READS IS OF BULK AT MOST 1048576: true; the input reads as it did. -/
def recordRefusedUptoRow : OpenClaim := { program := "ytobbobbfmiefeab", sum := "ebe9e635320902a0d19d4e2a1503ba4d2d41eee9264c9dc331458ccccf242923", func := "dragnet/dragnetlaw17.RecordRefused", spec := "recordRefused", inPlace := ["internal/bytealg.IndexByteString", "internal/abi.NoEscape", "internal/bytealg.MakeNoZero"], unfollowed := true, recurses := true, apart := false, narrowed := true }
def RecordRefusedUptoSaid : Prop := recordRefusedUptoRow.holds Try.pinned (OpenSpec.upto recordRefusedSpec)

end Rows
end Go.Proofs.Ytobbobbfmiefeab
