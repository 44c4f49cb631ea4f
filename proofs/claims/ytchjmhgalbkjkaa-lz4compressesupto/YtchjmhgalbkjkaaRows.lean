/-
  No cell of these rows narrows 'for every input' (looked for: loops, veiled, ifaces, maps, wideKeys, modest, calm, conditions, laid).
  DERIVED. THE GIVEN ROWS OF THIS SEAT. 6 by the template 'for every input the law returns true; each argument reads behind the call as it read before'; 0 by the template 'total and deterministic' (their statements: YtchjmhgalbkjkaaTotals.lean).
  GIVEN WITH THE SEED: the statements are not yours to turn. If you find one false, say at which input.
  Laid BY PROGRAM, IN A SANDBOX (cutbox-rows.mjs): the forced cells as the released guide's own fill.sh prints them over the translation f144be56b942498f… (all of the seat's roots in one cut). By AI agents, Wed Nov 11 2026. No macro, syntax, notation, axiom, sorry.
-/
import Derived.Test.YtchjmhgalbkjkaaChecked
import GoSem.Claim
import GoSem.ClaimJoined
import GoSem.ClaimMapViews
import Derived.JoinedTies
import Derived.KernelRfl
namespace Go.Proofs.Ytchjmhgalbkjkaa
/- THE CELL 'sum', in the pinned program and in every row, IS THE sha256 OF THE DUMP (.gsa) THAT YtchjmhgalbkjkaaProg.lean LOADS. Nothing in Lean hashes anything: it is a label: what it is worth is what the hold of that sum in a sandbox is worth. -/
noncomputable def Try.pinned : Pinned := { name := "ytchjmhgalbkjkaa", sum := "f144be56b942498f6641003bc9bcee91442c97b65c541164f8da148a8f34b121", checked := Try.checked }
namespace Rows
def none {H : Type} : Left H := { results := [], args := [] }

/-- 'dragnetlaw4.Lz4Compresses': WHATEVER THE INPUT: true; the input reads as it did. -/
def lz4CompressesSpec : ChangeSpec := { name := "lz4Compresses", fn := fun _ => fun
  | [d1, d2, d3] => { results := [.lit (.bool true)], args := [d1, d2, d3] }
  | _ => none }
def lz4CompressesRow : OpenClaim := { program := "ytchjmhgalbkjkaa", sum := "f144be56b942498f6641003bc9bcee91442c97b65c541164f8da148a8f34b121", func := "dragnet/dragnetlaw4.Lz4Compresses", spec := "lz4Compresses", unfollowed := true, recurses := true, apart := false }
def Lz4CompressesSaid : Prop := lz4CompressesRow.holds Try.pinned (OpenSpec.ofChange lz4CompressesSpec)

/-- ITS FALSE NEIGHBOUR: 'it returns false'. Refute it at one input. -/
def lz4CompressesWrong : ChangeSpec := { name := "lz4Compresses", fn := fun _ => fun
  | [d1, d2, d3] => { results := [.lit (.bool false)], args := [d1, d2, d3] }
  | _ => none }
def Lz4CompressesWrongFalsely : Prop := lz4CompressesRow.holds Try.pinned (OpenSpec.ofChange lz4CompressesWrong)

/-- 'dragnetlaw4.Lz4Says': WHATEVER THE INPUT: true; the input reads as it did. -/
def lz4SaysSpec : ChangeSpec := { name := "lz4Says", fn := fun _ => fun
  | [d1, d2, d3, d4] => { results := [.lit (.bool true)], args := [d1, d2, d3, d4] }
  | _ => none }
def lz4SaysRow : OpenClaim := { program := "ytchjmhgalbkjkaa", sum := "f144be56b942498f6641003bc9bcee91442c97b65c541164f8da148a8f34b121", func := "dragnet/dragnetlaw4.Lz4Says", spec := "lz4Says", unfollowed := true, recurses := true, apart := false }
def Lz4SaysSaid : Prop := lz4SaysRow.holds Try.pinned (OpenSpec.ofChange lz4SaysSpec)

/-- ITS FALSE NEIGHBOUR: 'it returns false'. Refute it at one input. -/
def lz4SaysWrong : ChangeSpec := { name := "lz4Says", fn := fun _ => fun
  | [d1, d2, d3, d4] => { results := [.lit (.bool false)], args := [d1, d2, d3, d4] }
  | _ => none }
def Lz4SaysWrongFalsely : Prop := lz4SaysRow.holds Try.pinned (OpenSpec.ofChange lz4SaysWrong)

/-- 'dragnetlaw4.Lz4Joins': WHATEVER THE INPUT: true; the input reads as it did. -/
def lz4JoinsSpec : ChangeSpec := { name := "lz4Joins", fn := fun _ => fun
  | [d1, d2, d3, d4] => { results := [.lit (.bool true)], args := [d1, d2, d3, d4] }
  | _ => none }
def lz4JoinsRow : OpenClaim := { program := "ytchjmhgalbkjkaa", sum := "f144be56b942498f6641003bc9bcee91442c97b65c541164f8da148a8f34b121", func := "dragnet/dragnetlaw4.Lz4Joins", spec := "lz4Joins", unfollowed := true, recurses := true, apart := false }
def Lz4JoinsSaid : Prop := lz4JoinsRow.holds Try.pinned (OpenSpec.ofChange lz4JoinsSpec)

/-- ITS FALSE NEIGHBOUR: 'it returns false'. Refute it at one input. -/
def lz4JoinsWrong : ChangeSpec := { name := "lz4Joins", fn := fun _ => fun
  | [d1, d2, d3, d4] => { results := [.lit (.bool false)], args := [d1, d2, d3, d4] }
  | _ => none }
def Lz4JoinsWrongFalsely : Prop := lz4JoinsRow.holds Try.pinned (OpenSpec.ofChange lz4JoinsWrong)

/-- 'dragnetlaw4.Lz4Bytes': WHATEVER THE INPUT: true; the input reads as it did. -/
def lz4BytesSpec : ChangeSpec := { name := "lz4Bytes", fn := fun _ => fun
  | [d1, d2, d3] => { results := [.lit (.bool true)], args := [d1, d2, d3] }
  | _ => none }
def lz4BytesRow : OpenClaim := { program := "ytchjmhgalbkjkaa", sum := "f144be56b942498f6641003bc9bcee91442c97b65c541164f8da148a8f34b121", func := "dragnet/dragnetlaw4.Lz4Bytes", spec := "lz4Bytes", unfollowed := true, recurses := true, apart := false }
def Lz4BytesSaid : Prop := lz4BytesRow.holds Try.pinned (OpenSpec.ofChange lz4BytesSpec)

/-- ITS FALSE NEIGHBOUR: 'it returns false'. Refute it at one input. -/
def lz4BytesWrong : ChangeSpec := { name := "lz4Bytes", fn := fun _ => fun
  | [d1, d2, d3] => { results := [.lit (.bool false)], args := [d1, d2, d3] }
  | _ => none }
def Lz4BytesWrongFalsely : Prop := lz4BytesRow.holds Try.pinned (OpenSpec.ofChange lz4BytesWrong)

/-- 'dragnetlaw4.Lz4Back': WHATEVER THE INPUT: true; the input reads as it did. -/
def lz4BackSpec : ChangeSpec := { name := "lz4Back", fn := fun _ => fun
  | [d1, d2, d3] => { results := [.lit (.bool true)], args := [d1, d2, d3] }
  | _ => none }
def lz4BackRow : OpenClaim := { program := "ytchjmhgalbkjkaa", sum := "f144be56b942498f6641003bc9bcee91442c97b65c541164f8da148a8f34b121", func := "dragnet/dragnetlaw4.Lz4Back", spec := "lz4Back", unfollowed := true, recurses := true, apart := false }
def Lz4BackSaid : Prop := lz4BackRow.holds Try.pinned (OpenSpec.ofChange lz4BackSpec)

/-- ITS FALSE NEIGHBOUR: 'it returns false'. Refute it at one input. -/
def lz4BackWrong : ChangeSpec := { name := "lz4Back", fn := fun _ => fun
  | [d1, d2, d3] => { results := [.lit (.bool false)], args := [d1, d2, d3] }
  | _ => none }
def Lz4BackWrongFalsely : Prop := lz4BackRow.holds Try.pinned (OpenSpec.ofChange lz4BackWrong)

/-- 'dragnetlaw4.Lz4Greedy': WHATEVER THE INPUT: true; the input reads as it did. -/
def lz4GreedySpec : ChangeSpec := { name := "lz4Greedy", fn := fun _ => fun
  | [d1, d2] => { results := [.lit (.bool true)], args := [d1, d2] }
  | _ => none }
def lz4GreedyRow : OpenClaim := { program := "ytchjmhgalbkjkaa", sum := "f144be56b942498f6641003bc9bcee91442c97b65c541164f8da148a8f34b121", func := "dragnet/dragnetlaw4.Lz4Greedy", spec := "lz4Greedy", unfollowed := true, recurses := true, apart := false }
def Lz4GreedySaid : Prop := lz4GreedyRow.holds Try.pinned (OpenSpec.ofChange lz4GreedySpec)

/-- ITS FALSE NEIGHBOUR: 'it returns false'. Refute it at one input. -/
def lz4GreedyWrong : ChangeSpec := { name := "lz4Greedy", fn := fun _ => fun
  | [d1, d2] => { results := [.lit (.bool false)], args := [d1, d2] }
  | _ => none }
def Lz4GreedyWrongFalsely : Prop := lz4GreedyRow.holds Try.pinned (OpenSpec.ofChange lz4GreedyWrong)

/- THE SECOND FORM. 'bulk': how many values and letters a reading holds, each counted each time it is reached (what is shared counts as often as it is met; a slice's spare places count too). A statement '..UptoSaid' is the law's where the arguments, and the package variables that the reading takes, are together of bulk at most 1048576: NARROWER than '..Said'. Prove '..Said' where nothing that the law and all that it calls make is longer than what came in: it says more and counts as full. Else prove '..UptoSaid'. A law counts once. -/
mutual
def uptoBulk {H : Type} : DataW H → Nat
  | .lit (.string bytes) => bytes.length + 1
  | .lit _ => 1
  | .nil => 1
  | .ptr d => uptoBulk d + 1
  | .slice elems spare => uptoBulkAll elems + uptoBulkAll spare + 1
  | .agg parts => uptoBulkAll parts + 1
  | .iface _ d => uptoBulk d + 1
  | .map entries => uptoBulkEntries entries + 1
  | .held _ => 1
def uptoBulkAll {H : Type} : List (DataW H) → Nat
  | [] => 0
  | d :: r => uptoBulk d + uptoBulkAll r
def uptoBulkEntries {H : Type} : List (Lit × DataW H) → Nat
  | [] => 0
  | x :: r => uptoBulkEntry x + uptoBulkEntries r
def uptoBulkEntry {H : Type} : Lit × DataW H → Nat
  | (.string bytes, d) => bytes.length + uptoBulk d + 1
  | (_, d) => uptoBulk d + 1
 end
def uptoSmall : (H : Type) → List (DataW H) → Bool := fun _ ds => decide (uptoBulkAll ds ≤ 1048576)
def OpenSpec.upto (s : _root_.Go.ChangeSpec) : _root_.Go.OpenSpec := { _root_.Go.OpenSpec.ofChange s with cond := some uptoSmall }

/-- 'dragnetlaw4.Lz4Compresses', WHERE WHAT IT READS IS OF BULK AT MOST 1048576: true; the input reads as it did. -/
def lz4CompressesUptoRow : OpenClaim := { program := "ytchjmhgalbkjkaa", sum := "f144be56b942498f6641003bc9bcee91442c97b65c541164f8da148a8f34b121", func := "dragnet/dragnetlaw4.Lz4Compresses", spec := "lz4Compresses", unfollowed := true, recurses := true, apart := false, narrowed := true }
def Lz4CompressesUptoSaid : Prop := lz4CompressesUptoRow.holds Try.pinned (OpenSpec.upto lz4CompressesSpec)

/-- 'dragnetlaw4.Lz4Says', WHERE WHAT IT READS IS OF BULK AT MOST 1048576: true; the input reads as it did. -/
def lz4SaysUptoRow : OpenClaim := { program := "ytchjmhgalbkjkaa", sum := "f144be56b942498f6641003bc9bcee91442c97b65c541164f8da148a8f34b121", func := "dragnet/dragnetlaw4.Lz4Says", spec := "lz4Says", unfollowed := true, recurses := true, apart := false, narrowed := true }
def Lz4SaysUptoSaid : Prop := lz4SaysUptoRow.holds Try.pinned (OpenSpec.upto lz4SaysSpec)

/-- 'dragnetlaw4.Lz4Joins', WHERE WHAT IT READS IS OF BULK AT MOST 1048576: true; the input reads as it did. -/
def lz4JoinsUptoRow : OpenClaim := { program := "ytchjmhgalbkjkaa", sum := "f144be56b942498f6641003bc9bcee91442c97b65c541164f8da148a8f34b121", func := "dragnet/dragnetlaw4.Lz4Joins", spec := "lz4Joins", unfollowed := true, recurses := true, apart := false, narrowed := true }
def Lz4JoinsUptoSaid : Prop := lz4JoinsUptoRow.holds Try.pinned (OpenSpec.upto lz4JoinsSpec)

/-- 'dragnetlaw4.Lz4Bytes', WHERE WHAT IT READS IS OF BULK AT MOST 1048576: true; the input reads as it did. -/
def lz4BytesUptoRow : OpenClaim := { program := "ytchjmhgalbkjkaa", sum := "f144be56b942498f6641003bc9bcee91442c97b65c541164f8da148a8f34b121", func := "dragnet/dragnetlaw4.Lz4Bytes", spec := "lz4Bytes", unfollowed := true, recurses := true, apart := false, narrowed := true }
def Lz4BytesUptoSaid : Prop := lz4BytesUptoRow.holds Try.pinned (OpenSpec.upto lz4BytesSpec)

/-- 'dragnetlaw4.Lz4Back', WHERE WHAT IT READS IS OF BULK AT MOST 1048576: true; the input reads as it did. -/
def lz4BackUptoRow : OpenClaim := { program := "ytchjmhgalbkjkaa", sum := "f144be56b942498f6641003bc9bcee91442c97b65c541164f8da148a8f34b121", func := "dragnet/dragnetlaw4.Lz4Back", spec := "lz4Back", unfollowed := true, recurses := true, apart := false, narrowed := true }
def Lz4BackUptoSaid : Prop := lz4BackUptoRow.holds Try.pinned (OpenSpec.upto lz4BackSpec)

/-- 'dragnetlaw4.Lz4Greedy', WHERE WHAT IT READS IS OF BULK AT MOST 1048576: true; the input reads as it did. -/
def lz4GreedyUptoRow : OpenClaim := { program := "ytchjmhgalbkjkaa", sum := "f144be56b942498f6641003bc9bcee91442c97b65c541164f8da148a8f34b121", func := "dragnet/dragnetlaw4.Lz4Greedy", spec := "lz4Greedy", unfollowed := true, recurses := true, apart := false, narrowed := true }
def Lz4GreedyUptoSaid : Prop := lz4GreedyUptoRow.holds Try.pinned (OpenSpec.upto lz4GreedySpec)

end Rows
end Go.Proofs.Ytchjmhgalbkjkaa
