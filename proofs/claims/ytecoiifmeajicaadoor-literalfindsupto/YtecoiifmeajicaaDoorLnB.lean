/-
  swar.Lines: a function that hands each line over, up to the last one or as long as it is told to. Conditions: the text is no longer than any text that is read can be; the table of package math/bits lies as its text lays it, and goes on so.
-/
import Derived.Test.YtecoiifmeajicaaDoorIndex
import Derived.Test.YtecoiifmeajicaaDoorPlainZ
import Derived.Test.YtecoiifmeajicaaDoorBas
import Derived.RangeFuncNested
import Derived.RangeFuncBound
import Derived.RangeFuncCalls
import Derived.RangeFuncLeaves
import Derived.Shelf.Abstract
import Derived.OwnWalkIn
import Derived.TacticsInMore
import Derived.LoopNIn
import Derived.LoopIn
namespace Go.Proofs.YtecoiifmeajicaaDoor
open Go.RowKit Go.Shelf
set_option linter.unusedVariables false
attribute [local go_sem] Oper.semAt_some
abbrev Ln := { x : Nat × ByteArray // x.1 + x.2.size + 1 ≤ 140737488355328 }
def toLn (x : Nat × ByteArray) : Ln := if h : x.1 + x.2.size + 1 ≤ 140737488355328 then ⟨x, h⟩ else ⟨(0, ⟨#[]⟩), by decide⟩
theorem toLn_val (x : Nat × ByteArray) (h : x.1 + x.2.size + 1 ≤ 140737488355328) : (toLn x).1 = x := by unfold toLn; rw [dif_pos h]
def lnL (s : ByteArray) : List Ln := (Swar.linesF s (s.size + 1) 0).map toLn
def encL (x : Ln) : Array Value := #[.int .i64 (x.1.1 : Int), .string x.1.2]
/-- what a round that goes on keeps: whatever lay below n₀, and the block that holds the text -/
def KpL (n₀ Bs : Nat) (W W' : World) : Prop := Below n₀ W W' ∧ W'.heap[Bs]? = W.heap[Bs]?
theorem KpL.t {n₀ Bs : Nat} {A B C : World} (h : KpL n₀ Bs A B) (k : KpL n₀ Bs B C) : KpL n₀ Bs A C := ⟨h.1.trans k.1, k.2.trans h.2⟩
theorem KpL.b {n₀ Bs : Nat} {w : World} (hn : n₀ ≤ w.heap.size) (hb : Bs < w.heap.size) (W : World) (l : Nat) (o o' : Obj) (hl : w.heap.size ≤ l) (h : W.heap[l]? = some o) (h1 : o.isCells = false) (h2 : o.isWalk = false) : KpL n₀ Bs W (W.putObj l o') :=
  ⟨belowK_b hn W l o o' hl h h1 h2, (grownBy_putObj' W l o').block Bs (by have := (Array.getElem?_eq_some_iff.1 h).1; omega) (by simp; omega)⟩
end Go.Proofs.YtecoiifmeajicaaDoor
