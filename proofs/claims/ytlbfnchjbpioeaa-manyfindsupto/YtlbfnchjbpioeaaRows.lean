/-
  No cell of these rows narrows 'for every input' (looked for: loops, veiled, ifaces, maps, wideKeys, modest, calm, conditions, laid).
  DERIVED. THE GIVEN ROWS OF THIS SEAT. 4 by the template 'for every input the law returns true; each argument reads behind the call as it read before'; 0 by the template 'total and deterministic' (their statements: YtlbfnchjbpioeaaTotals.lean).
  GIVEN WITH THE SEED: the statements are not yours to turn. If you find one false, say at which input.
  Laid BY PROGRAM, IN A SANDBOX (cutbox-rows.mjs): the forced cells as the released guide's own fill.sh prints them over the translation 4725b04f7ee0eedf… (all of the seat's roots in one cut). By AI agents, Wed Nov 11 2026. No macro, syntax, notation, axiom, sorry.
-/
import Derived.Test.YtlbfnchjbpioeaaChecked
import GoSem.Claim
import GoSem.ClaimJoined
import GoSem.ClaimMapViews
import Derived.JoinedTies
import Derived.KernelRfl
namespace Go.Proofs.Ytlbfnchjbpioeaa
/- THE CELL 'sum', in the pinned program and in every row, IS THE sha256 OF THE DUMP (.gsa) THAT YtlbfnchjbpioeaaProg.lean LOADS. Nothing in Lean hashes anything: it is a label: what it is worth is what the hold of that sum in a sandbox is worth. -/
noncomputable def Try.pinned : Pinned := { name := "ytlbfnchjbpioeaa", sum := "4725b04f7ee0eedf1e63e3d890caa49d55b6abba3070bf9707daf0483a804d33", checked := Try.checked }
namespace Rows
def none {H : Type} : Left H := { results := [], args := [] }

/-- 'dragnetlaw7.ManyMakes': WHATEVER THE INPUT: true; the input reads as it did. -/
def manyMakesSpec : ChangeSpec := { name := "manyMakes", fn := fun _ => fun
  | [d1, d2, d3, d4] => { results := [.lit (.bool true)], args := [d1, d2, d3, d4] }
  | _ => none }
def manyMakesRow : OpenClaim := { program := "ytlbfnchjbpioeaa", sum := "4725b04f7ee0eedf1e63e3d890caa49d55b6abba3070bf9707daf0483a804d33", func := "dragnet/dragnetlaw7.ManyMakes", spec := "manyMakes", inPlace := ["internal/abi.NoEscape", "internal/bytealg.MakeNoZero"], unfollowed := true, recurses := true, apart := false }
def ManyMakesSaid : Prop := manyMakesRow.holds Try.pinned (OpenSpec.ofChange manyMakesSpec)

/-- ITS FALSE NEIGHBOUR: 'it returns false'. Refute it at one input. -/
def manyMakesWrong : ChangeSpec := { name := "manyMakes", fn := fun _ => fun
  | [d1, d2, d3, d4] => { results := [.lit (.bool false)], args := [d1, d2, d3, d4] }
  | _ => none }
def ManyMakesWrongFalsely : Prop := manyMakesRow.holds Try.pinned (OpenSpec.ofChange manyMakesWrong)

/-- 'dragnetlaw7.ManyFinds': WHATEVER THE INPUT: true; the input reads as it did. -/
def manyFindsSpec : ChangeSpec := { name := "manyFinds", fn := fun _ => fun
  | [d1, d2, d3, d4, d5] => { results := [.lit (.bool true)], args := [d1, d2, d3, d4, d5] }
  | _ => none }
def manyFindsRow : OpenClaim := { program := "ytlbfnchjbpioeaa", sum := "4725b04f7ee0eedf1e63e3d890caa49d55b6abba3070bf9707daf0483a804d33", func := "dragnet/dragnetlaw7.ManyFinds", spec := "manyFinds", inPlace := ["internal/abi.NoEscape", "internal/bytealg.MakeNoZero"], unfollowed := true, recurses := true, apart := false }
def ManyFindsSaid : Prop := manyFindsRow.holds Try.pinned (OpenSpec.ofChange manyFindsSpec)

/-- ITS FALSE NEIGHBOUR: 'it returns false'. Refute it at one input. -/
def manyFindsWrong : ChangeSpec := { name := "manyFinds", fn := fun _ => fun
  | [d1, d2, d3, d4, d5] => { results := [.lit (.bool false)], args := [d1, d2, d3, d4, d5] }
  | _ => none }
def ManyFindsWrongFalsely : Prop := manyFindsRow.holds Try.pinned (OpenSpec.ofChange manyFindsWrong)

/-- 'dragnetlaw7.ManyFirst': WHATEVER THE INPUT: true; the input reads as it did. -/
def manyFirstSpec : ChangeSpec := { name := "manyFirst", fn := fun _ => fun
  | [d1, d2, d3, d4] => { results := [.lit (.bool true)], args := [d1, d2, d3, d4] }
  | _ => none }
def manyFirstRow : OpenClaim := { program := "ytlbfnchjbpioeaa", sum := "4725b04f7ee0eedf1e63e3d890caa49d55b6abba3070bf9707daf0483a804d33", func := "dragnet/dragnetlaw7.ManyFirst", spec := "manyFirst", inPlace := ["internal/abi.NoEscape", "internal/bytealg.MakeNoZero"], unfollowed := true, recurses := true, apart := false }
def ManyFirstSaid : Prop := manyFirstRow.holds Try.pinned (OpenSpec.ofChange manyFirstSpec)

/-- ITS FALSE NEIGHBOUR: 'it returns false'. Refute it at one input. -/
def manyFirstWrong : ChangeSpec := { name := "manyFirst", fn := fun _ => fun
  | [d1, d2, d3, d4] => { results := [.lit (.bool false)], args := [d1, d2, d3, d4] }
  | _ => none }
def ManyFirstWrongFalsely : Prop := manyFirstRow.holds Try.pinned (OpenSpec.ofChange manyFirstWrong)

/-- 'dragnetlaw7.ManyTurned': WHATEVER THE INPUT: true; the input reads as it did. -/
def manyTurnedSpec : ChangeSpec := { name := "manyTurned", fn := fun _ => fun
  | [d1, d2, d3, d4] => { results := [.lit (.bool true)], args := [d1, d2, d3, d4] }
  | _ => none }
def manyTurnedRow : OpenClaim := { program := "ytlbfnchjbpioeaa", sum := "4725b04f7ee0eedf1e63e3d890caa49d55b6abba3070bf9707daf0483a804d33", func := "dragnet/dragnetlaw7.ManyTurned", spec := "manyTurned", inPlace := ["internal/abi.NoEscape", "internal/bytealg.MakeNoZero"], unfollowed := true, recurses := true, apart := false }
def ManyTurnedSaid : Prop := manyTurnedRow.holds Try.pinned (OpenSpec.ofChange manyTurnedSpec)

/-- ITS FALSE NEIGHBOUR: 'it returns false'. Refute it at one input. -/
def manyTurnedWrong : ChangeSpec := { name := "manyTurned", fn := fun _ => fun
  | [d1, d2, d3, d4] => { results := [.lit (.bool false)], args := [d1, d2, d3, d4] }
  | _ => none }
def ManyTurnedWrongFalsely : Prop := manyTurnedRow.holds Try.pinned (OpenSpec.ofChange manyTurnedWrong)

/- THE SECOND FORM. 'bulk': how many values and letters a reading holds, each counted each time it is reached (what is shared counts as often as it is met; a slice's spare places count too). A statement '..UptoSaid' is the law's where the arguments, and the package variables that the reading takes, are together of bulk at most 1048576: NARROWER than '..Said'. Prove '..Said' where nothing that the law and all that it calls make is longer than what came in: it says more and counts as full. Else prove '..UptoSaid'. A law counts once. -/
mutual
def uptoBulk {H : Type} : DataW H → Nat
  | .lit (.string bytes) => bytes.length + 1
  | .lit _ => 1
  | .nil => 1
  | .ptr d => uptoBulk d + 1
  | .slice elems spare => uptoBulkAll elems + uptoBulkAll spare + 1
  | .agg parts => uptoBulkAll parts + 1
  | .iface _ d => uptoBulk d + 1
  | .map entries => uptoBulkEntries entries + 1
  | .held _ => 1
def uptoBulkAll {H : Type} : List (DataW H) → Nat
  | [] => 0
  | d :: r => uptoBulk d + uptoBulkAll r
def uptoBulkEntries {H : Type} : List (Lit × DataW H) → Nat
  | [] => 0
  | x :: r => uptoBulkEntry x + uptoBulkEntries r
def uptoBulkEntry {H : Type} : Lit × DataW H → Nat
  | (.string bytes, d) => bytes.length + uptoBulk d + 1
  | (_, d) => uptoBulk d + 1
 end
def uptoSmall : (H : Type) → List (DataW H) → Bool := fun _ ds => decide (uptoBulkAll ds ≤ 1048576)
def OpenSpec.upto (s : _root_.Go.ChangeSpec) : _root_.Go.OpenSpec := { _root_.Go.OpenSpec.ofChange s with cond := some uptoSmall }

/-- 'dragnetlaw7.ManyMakes', WHERE WHAT IT READS IS OF BULK AT MOST 1048576: true; the input reads as it did. -/
def manyMakesUptoRow : OpenClaim := { program := "ytlbfnchjbpioeaa", sum := "4725b04f7ee0eedf1e63e3d890caa49d55b6abba3070bf9707daf0483a804d33", func := "dragnet/dragnetlaw7.ManyMakes", spec := "manyMakes", inPlace := ["internal/abi.NoEscape", "internal/bytealg.MakeNoZero"], unfollowed := true, recurses := true, apart := false, narrowed := true }
def ManyMakesUptoSaid : Prop := manyMakesUptoRow.holds Try.pinned (OpenSpec.upto manyMakesSpec)

/-- 'dragnetlaw7.ManyFinds', WHERE WHAT IT READS IS OF BULK AT MOST 1048576: true; the input reads as it did. -/
def manyFindsUptoRow : OpenClaim := { program := "ytlbfnchjbpioeaa", sum := "4725b04f7ee0eedf1e63e3d890caa49d55b6abba3070bf9707daf0483a804d33", func := "dragnet/dragnetlaw7.ManyFinds", spec := "manyFinds", inPlace := ["internal/abi.NoEscape", "internal/bytealg.MakeNoZero"], unfollowed := true, recurses := true, apart := false, narrowed := true }
def ManyFindsUptoSaid : Prop := manyFindsUptoRow.holds Try.pinned (OpenSpec.upto manyFindsSpec)

/-- 'dragnetlaw7.ManyFirst', WHERE WHAT IT READS IS OF BULK AT MOST 1048576: true; the input reads as it did. -/
def manyFirstUptoRow : OpenClaim := { program := "ytlbfnchjbpioeaa", sum := "4725b04f7ee0eedf1e63e3d890caa49d55b6abba3070bf9707daf0483a804d33", func := "dragnet/dragnetlaw7.ManyFirst", spec := "manyFirst", inPlace := ["internal/abi.NoEscape", "internal/bytealg.MakeNoZero"], unfollowed := true, recurses := true, apart := false, narrowed := true }
def ManyFirstUptoSaid : Prop := manyFirstUptoRow.holds Try.pinned (OpenSpec.upto manyFirstSpec)

/-- 'dragnetlaw7.ManyTurned', WHERE WHAT IT READS IS OF BULK AT MOST 1048576: true; the input reads as it did. -/
def manyTurnedUptoRow : OpenClaim := { program := "ytlbfnchjbpioeaa", sum := "4725b04f7ee0eedf1e63e3d890caa49d55b6abba3070bf9707daf0483a804d33", func := "dragnet/dragnetlaw7.ManyTurned", spec := "manyTurned", inPlace := ["internal/abi.NoEscape", "internal/bytealg.MakeNoZero"], unfollowed := true, recurses := true, apart := false, narrowed := true }
def ManyTurnedUptoSaid : Prop := manyTurnedUptoRow.holds Try.pinned (OpenSpec.upto manyTurnedSpec)

end Rows
end Go.Proofs.Ytlbfnchjbpioeaa
