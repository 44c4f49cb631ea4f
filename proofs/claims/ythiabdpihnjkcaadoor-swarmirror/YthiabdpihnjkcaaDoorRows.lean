/-
  NARROWER THAN 'FOR EVERY INPUT', by the rows' own cells (each row's printed sentence says how): SwarWords: laid · SwarFinds: laid · SwarPairs: laid · SwarMarks: laid · SwarReach: laid · SwarMirror: laid.
  DERIVED. THE GIVEN ROWS OF THIS SEAT. 6 by the template 'for every input the law returns true; each argument reads behind the call as it read before'; 0 by the template 'total and deterministic' (their statements: YthiabdpihnjkcaaDoorTotals.lean).
  GIVEN WITH THE SEED: the statements are not yours to turn. If you find one false, say at which input.
  Laid BY PROGRAM, IN A SANDBOX (cutbox-rows.mjs): the forced cells as the released guide's own fill.sh prints them over the translation 805f226f967ed6d5… (all of the seat's roots in one cut). By AI agents, Wed Nov 11 2026. No macro, syntax, notation, axiom, sorry.
-/
import Derived.Test.YthiabdpihnjkcaaDoorChecked
import GoSem.Claim
import GoSem.ClaimJoined
import GoSem.ClaimMapViews
import Derived.JoinedTies
import Derived.KernelRfl
namespace Go.Proofs.YthiabdpihnjkcaaDoor
/- THE CELL 'sum', in the pinned program and in every row, IS THE sha256 OF THE DUMP (.gsa) THAT YthiabdpihnjkcaaDoorProg.lean LOADS. Nothing in Lean hashes anything: it is a label: what it is worth is what the hold of that sum in a sandbox is worth. -/
noncomputable def Tryd.pinned : Pinned := { name := "ythiabdpihnjkcaadoor", sum := "805f226f967ed6d54f20f66ee73f822c56c2e22d20ab4f9979f555a6e1164ec7", checked := Tryd.checked }
namespace Rows
def none {H : Type} : Left H := { results := [], args := [] }

/- WHAT THE LISTED PACKAGE-LEVEL VARIABLES READ AS WHEN THE CALL BEGINS. Each datum BY PROGRAM (the guide's laid-datum.mjs) off the statement by which the dump's own 'gosem.cut.vars' lays the variable. In a bare row this is a premise. The card (YthiabdpihnjkcaaDoorCards.lean) ties it to the program's text. -/
def laid_math_bits_deBruijn64tab {H : Type} : DataW H := .agg [.lit (.int .u8 0), .lit (.int .u8 1), .lit (.int .u8 56), .lit (.int .u8 2), .lit (.int .u8 57), .lit (.int .u8 49), .lit (.int .u8 28), .lit (.int .u8 3), .lit (.int .u8 61), .lit (.int .u8 58), .lit (.int .u8 42), .lit (.int .u8 50), .lit (.int .u8 38), .lit (.int .u8 29), .lit (.int .u8 17), .lit (.int .u8 4), .lit (.int .u8 62), .lit (.int .u8 47), .lit (.int .u8 59), .lit (.int .u8 36), .lit (.int .u8 45), .lit (.int .u8 43), .lit (.int .u8 51), .lit (.int .u8 22), .lit (.int .u8 53), .lit (.int .u8 39), .lit (.int .u8 33), .lit (.int .u8 30), .lit (.int .u8 24), .lit (.int .u8 18), .lit (.int .u8 12), .lit (.int .u8 5), .lit (.int .u8 63), .lit (.int .u8 55), .lit (.int .u8 48), .lit (.int .u8 27), .lit (.int .u8 60), .lit (.int .u8 41), .lit (.int .u8 37), .lit (.int .u8 16), .lit (.int .u8 46), .lit (.int .u8 35), .lit (.int .u8 44), .lit (.int .u8 21), .lit (.int .u8 52), .lit (.int .u8 32), .lit (.int .u8 23), .lit (.int .u8 11), .lit (.int .u8 54), .lit (.int .u8 26), .lit (.int .u8 40), .lit (.int .u8 15), .lit (.int .u8 34), .lit (.int .u8 20), .lit (.int .u8 31), .lit (.int .u8 10), .lit (.int .u8 25), .lit (.int .u8 14), .lit (.int .u8 19), .lit (.int .u8 9), .lit (.int .u8 13), .lit (.int .u8 8), .lit (.int .u8 7), .lit (.int .u8 6)]

/-- 'dragnetlaw1.SwarWords': WHATEVER THE INPUT: true; the input reads as it did. -/
def swarWordsSpec : ChangeSpec := { name := "swarWords", fn := fun _ => fun
  | [d1, d2, d3] => { results := [.lit (.bool true)], args := [d1, d2, d3] }
  | _ => none }
def swarWordsRow : OpenClaim := { program := "ythiabdpihnjkcaadoor", sum := "805f226f967ed6d54f20f66ee73f822c56c2e22d20ab4f9979f555a6e1164ec7", func := "dragnet/dragnetlaw1.SwarWords", spec := "swarWords", named := ["math/bits.deBruijn64tab"], apart := false, laid := [("math/bits.deBruijn64tab", laid_math_bits_deBruijn64tab)] }
def SwarWordsSaid : Prop := swarWordsRow.holds Tryd.pinned (OpenSpec.ofChange swarWordsSpec)

/-- ITS FALSE NEIGHBOUR: 'it returns false'. Refute it at one input. -/
def swarWordsWrong : ChangeSpec := { name := "swarWords", fn := fun _ => fun
  | [d1, d2, d3] => { results := [.lit (.bool false)], args := [d1, d2, d3] }
  | _ => none }
def SwarWordsWrongFalsely : Prop := swarWordsRow.holds Tryd.pinned (OpenSpec.ofChange swarWordsWrong)

/-- 'dragnetlaw1.SwarFinds': WHATEVER THE INPUT: true; the input reads as it did. -/
def swarFindsSpec : ChangeSpec := { name := "swarFinds", fn := fun _ => fun
  | [d1, d2, d3, d4, d5, d6] => { results := [.lit (.bool true)], args := [d1, d2, d3, d4, d5, d6] }
  | _ => none }
def swarFindsRow : OpenClaim := { program := "ythiabdpihnjkcaadoor", sum := "805f226f967ed6d54f20f66ee73f822c56c2e22d20ab4f9979f555a6e1164ec7", func := "dragnet/dragnetlaw1.SwarFinds", spec := "swarFinds", recurses := true, named := ["math/bits.deBruijn64tab"], apart := false, laid := [("math/bits.deBruijn64tab", laid_math_bits_deBruijn64tab)] }
def SwarFindsSaid : Prop := swarFindsRow.holds Tryd.pinned (OpenSpec.ofChange swarFindsSpec)

/-- ITS FALSE NEIGHBOUR: 'it returns false'. Refute it at one input. -/
def swarFindsWrong : ChangeSpec := { name := "swarFinds", fn := fun _ => fun
  | [d1, d2, d3, d4, d5, d6] => { results := [.lit (.bool false)], args := [d1, d2, d3, d4, d5, d6] }
  | _ => none }
def SwarFindsWrongFalsely : Prop := swarFindsRow.holds Tryd.pinned (OpenSpec.ofChange swarFindsWrong)

/-- 'dragnetlaw1.SwarPairs': WHATEVER THE INPUT: true; the input reads as it did. -/
def swarPairsSpec : ChangeSpec := { name := "swarPairs", fn := fun _ => fun
  | [d1, d2, d3, d4, d5, d6] => { results := [.lit (.bool true)], args := [d1, d2, d3, d4, d5, d6] }
  | _ => none }
def swarPairsRow : OpenClaim := { program := "ythiabdpihnjkcaadoor", sum := "805f226f967ed6d54f20f66ee73f822c56c2e22d20ab4f9979f555a6e1164ec7", func := "dragnet/dragnetlaw1.SwarPairs", spec := "swarPairs", recurses := true, named := ["math/bits.deBruijn64tab"], apart := false, laid := [("math/bits.deBruijn64tab", laid_math_bits_deBruijn64tab)] }
def SwarPairsSaid : Prop := swarPairsRow.holds Tryd.pinned (OpenSpec.ofChange swarPairsSpec)

/-- ITS FALSE NEIGHBOUR: 'it returns false'. Refute it at one input. -/
def swarPairsWrong : ChangeSpec := { name := "swarPairs", fn := fun _ => fun
  | [d1, d2, d3, d4, d5, d6] => { results := [.lit (.bool false)], args := [d1, d2, d3, d4, d5, d6] }
  | _ => none }
def SwarPairsWrongFalsely : Prop := swarPairsRow.holds Tryd.pinned (OpenSpec.ofChange swarPairsWrong)

/-- 'dragnetlaw1.SwarMarks': WHATEVER THE INPUT: true; the input reads as it did. -/
def swarMarksSpec : ChangeSpec := { name := "swarMarks", fn := fun _ => fun
  | [d1, d2, d3, d4, d5] => { results := [.lit (.bool true)], args := [d1, d2, d3, d4, d5] }
  | _ => none }
def swarMarksRow : OpenClaim := { program := "ythiabdpihnjkcaadoor", sum := "805f226f967ed6d54f20f66ee73f822c56c2e22d20ab4f9979f555a6e1164ec7", func := "dragnet/dragnetlaw1.SwarMarks", spec := "swarMarks", named := ["math/bits.deBruijn64tab"], apart := false, laid := [("math/bits.deBruijn64tab", laid_math_bits_deBruijn64tab)] }
def SwarMarksSaid : Prop := swarMarksRow.holds Tryd.pinned (OpenSpec.ofChange swarMarksSpec)

/-- ITS FALSE NEIGHBOUR: 'it returns false'. Refute it at one input. -/
def swarMarksWrong : ChangeSpec := { name := "swarMarks", fn := fun _ => fun
  | [d1, d2, d3, d4, d5] => { results := [.lit (.bool false)], args := [d1, d2, d3, d4, d5] }
  | _ => none }
def SwarMarksWrongFalsely : Prop := swarMarksRow.holds Tryd.pinned (OpenSpec.ofChange swarMarksWrong)

/-- 'dragnetlaw1.SwarReach': WHATEVER THE INPUT: true; the input reads as it did. -/
def swarReachSpec : ChangeSpec := { name := "swarReach", fn := fun _ => fun
  | [d1, d2, d3] => { results := [.lit (.bool true)], args := [d1, d2, d3] }
  | _ => none }
def swarReachRow : OpenClaim := { program := "ythiabdpihnjkcaadoor", sum := "805f226f967ed6d54f20f66ee73f822c56c2e22d20ab4f9979f555a6e1164ec7", func := "dragnet/dragnetlaw1.SwarReach", spec := "swarReach", recurses := true, named := ["math/bits.deBruijn64tab"], apart := false, laid := [("math/bits.deBruijn64tab", laid_math_bits_deBruijn64tab)] }
def SwarReachSaid : Prop := swarReachRow.holds Tryd.pinned (OpenSpec.ofChange swarReachSpec)

/-- ITS FALSE NEIGHBOUR: 'it returns false'. Refute it at one input. -/
def swarReachWrong : ChangeSpec := { name := "swarReach", fn := fun _ => fun
  | [d1, d2, d3] => { results := [.lit (.bool false)], args := [d1, d2, d3] }
  | _ => none }
def SwarReachWrongFalsely : Prop := swarReachRow.holds Tryd.pinned (OpenSpec.ofChange swarReachWrong)

/-- 'dragnetlaw1.SwarMirror': WHATEVER THE INPUT: true; the input reads as it did. -/
def swarMirrorSpec : ChangeSpec := { name := "swarMirror", fn := fun _ => fun
  | [d1, d2, d3, d4] => { results := [.lit (.bool true)], args := [d1, d2, d3, d4] }
  | _ => none }
def swarMirrorRow : OpenClaim := { program := "ythiabdpihnjkcaadoor", sum := "805f226f967ed6d54f20f66ee73f822c56c2e22d20ab4f9979f555a6e1164ec7", func := "dragnet/dragnetlaw1.SwarMirror", spec := "swarMirror", recurses := true, named := ["math/bits.deBruijn64tab"], apart := false, laid := [("math/bits.deBruijn64tab", laid_math_bits_deBruijn64tab)] }
def SwarMirrorSaid : Prop := swarMirrorRow.holds Tryd.pinned (OpenSpec.ofChange swarMirrorSpec)

/-- ITS FALSE NEIGHBOUR: 'it returns false'. Refute it at one input. -/
def swarMirrorWrong : ChangeSpec := { name := "swarMirror", fn := fun _ => fun
  | [d1, d2, d3, d4] => { results := [.lit (.bool false)], args := [d1, d2, d3, d4] }
  | _ => none }
def SwarMirrorWrongFalsely : Prop := swarMirrorRow.holds Tryd.pinned (OpenSpec.ofChange swarMirrorWrong)

/- THE SECOND FORM. 'bulk': how many values and letters a reading holds, each counted each time it is reached (what is shared counts as often as it is met; a slice's spare places count too). A statement '..UptoSaid' is the law's where the arguments, and the package variables that the reading takes, are together of bulk at most 1048576: NARROWER than '..Said'. Prove '..Said' where nothing that the law and all that it calls make is longer than what came in: it says more and counts as full. Else prove '..UptoSaid'. A law counts once. -/
mutual
def uptoBulk {H : Type} : DataW H → Nat
  | .lit (.string bytes) => bytes.length + 1
  | .lit _ => 1
  | .nil => 1
  | .ptr d => uptoBulk d + 1
  | .slice elems spare => uptoBulkAll elems + uptoBulkAll spare + 1
  | .agg parts => uptoBulkAll parts + 1
  | .iface _ d => uptoBulk d + 1
  | .map entries => uptoBulkEntries entries + 1
  | .held _ => 1
def uptoBulkAll {H : Type} : List (DataW H) → Nat
  | [] => 0
  | d :: r => uptoBulk d + uptoBulkAll r
def uptoBulkEntries {H : Type} : List (Lit × DataW H) → Nat
  | [] => 0
  | x :: r => uptoBulkEntry x + uptoBulkEntries r
def uptoBulkEntry {H : Type} : Lit × DataW H → Nat
  | (.string bytes, d) => bytes.length + uptoBulk d + 1
  | (_, d) => uptoBulk d + 1
 end
def uptoSmall : (H : Type) → List (DataW H) → Bool := fun _ ds => decide (uptoBulkAll ds ≤ 1048576)
def OpenSpec.upto (s : _root_.Go.ChangeSpec) : _root_.Go.OpenSpec := { _root_.Go.OpenSpec.ofChange s with cond := some uptoSmall }

/-- 'dragnetlaw1.SwarWords', WHERE WHAT IT READS IS OF BULK AT MOST 1048576: true; the input reads as it did. -/
def swarWordsUptoRow : OpenClaim := { program := "ythiabdpihnjkcaadoor", sum := "805f226f967ed6d54f20f66ee73f822c56c2e22d20ab4f9979f555a6e1164ec7", func := "dragnet/dragnetlaw1.SwarWords", spec := "swarWords", named := ["math/bits.deBruijn64tab"], apart := false, laid := [("math/bits.deBruijn64tab", laid_math_bits_deBruijn64tab)], narrowed := true }
def SwarWordsUptoSaid : Prop := swarWordsUptoRow.holds Tryd.pinned (OpenSpec.upto swarWordsSpec)

/-- 'dragnetlaw1.SwarFinds', WHERE WHAT IT READS IS OF BULK AT MOST 1048576: true; the input reads as it did. -/
def swarFindsUptoRow : OpenClaim := { program := "ythiabdpihnjkcaadoor", sum := "805f226f967ed6d54f20f66ee73f822c56c2e22d20ab4f9979f555a6e1164ec7", func := "dragnet/dragnetlaw1.SwarFinds", spec := "swarFinds", recurses := true, named := ["math/bits.deBruijn64tab"], apart := false, laid := [("math/bits.deBruijn64tab", laid_math_bits_deBruijn64tab)], narrowed := true }
def SwarFindsUptoSaid : Prop := swarFindsUptoRow.holds Tryd.pinned (OpenSpec.upto swarFindsSpec)

/-- 'dragnetlaw1.SwarPairs', WHERE WHAT IT READS IS OF BULK AT MOST 1048576: true; the input reads as it did. -/
def swarPairsUptoRow : OpenClaim := { program := "ythiabdpihnjkcaadoor", sum := "805f226f967ed6d54f20f66ee73f822c56c2e22d20ab4f9979f555a6e1164ec7", func := "dragnet/dragnetlaw1.SwarPairs", spec := "swarPairs", recurses := true, named := ["math/bits.deBruijn64tab"], apart := false, laid := [("math/bits.deBruijn64tab", laid_math_bits_deBruijn64tab)], narrowed := true }
def SwarPairsUptoSaid : Prop := swarPairsUptoRow.holds Tryd.pinned (OpenSpec.upto swarPairsSpec)

/-- 'dragnetlaw1.SwarMarks', WHERE WHAT IT READS IS OF BULK AT MOST 1048576: true; the input reads as it did. -/
def swarMarksUptoRow : OpenClaim := { program := "ythiabdpihnjkcaadoor", sum := "805f226f967ed6d54f20f66ee73f822c56c2e22d20ab4f9979f555a6e1164ec7", func := "dragnet/dragnetlaw1.SwarMarks", spec := "swarMarks", named := ["math/bits.deBruijn64tab"], apart := false, laid := [("math/bits.deBruijn64tab", laid_math_bits_deBruijn64tab)], narrowed := true }
def SwarMarksUptoSaid : Prop := swarMarksUptoRow.holds Tryd.pinned (OpenSpec.upto swarMarksSpec)

/-- 'dragnetlaw1.SwarReach', WHERE WHAT IT READS IS OF BULK AT MOST 1048576: true; the input reads as it did. -/
def swarReachUptoRow : OpenClaim := { program := "ythiabdpihnjkcaadoor", sum := "805f226f967ed6d54f20f66ee73f822c56c2e22d20ab4f9979f555a6e1164ec7", func := "dragnet/dragnetlaw1.SwarReach", spec := "swarReach", recurses := true, named := ["math/bits.deBruijn64tab"], apart := false, laid := [("math/bits.deBruijn64tab", laid_math_bits_deBruijn64tab)], narrowed := true }
def SwarReachUptoSaid : Prop := swarReachUptoRow.holds Tryd.pinned (OpenSpec.upto swarReachSpec)

/-- 'dragnetlaw1.SwarMirror', WHERE WHAT IT READS IS OF BULK AT MOST 1048576: true; the input reads as it did. -/
def swarMirrorUptoRow : OpenClaim := { program := "ythiabdpihnjkcaadoor", sum := "805f226f967ed6d54f20f66ee73f822c56c2e22d20ab4f9979f555a6e1164ec7", func := "dragnet/dragnetlaw1.SwarMirror", spec := "swarMirror", recurses := true, named := ["math/bits.deBruijn64tab"], apart := false, laid := [("math/bits.deBruijn64tab", laid_math_bits_deBruijn64tab)], narrowed := true }
def SwarMirrorUptoSaid : Prop := swarMirrorUptoRow.holds Tryd.pinned (OpenSpec.upto swarMirrorSpec)

end Rows
end Go.Proofs.YthiabdpihnjkcaaDoor
