/-
  What swar.Index does: it returns where the byte stands first, from the place on, or -1. Conditions: the text is no longer than any text that is read can be, the place is an int, the byte a byte, the table of package math/bits lies as its text lays it.
-/
import Derived.Test.YtlbfnchjbpioeaaKern
import Derived.Test.YtlbfnchjbpioeaaWordsD
import Derived.Lib.MinMax
namespace Go.Proofs.Ytlbfnchjbpioeaa
open Go.RowKit
set_option linter.unusedVariables false
theorem cell_later' {w w' : World} (h : Below w.heap.size w w') {a : Addr} {v : Value} (hc : w.cell? a = some v) : w'.cell? a = some v := by
  by_cases hb : a.block < w.heap.size
  · rw [h.cell hb]; exact hc
  · exfalso
    unfold World.cell? at hc
    simp [show w.heap[a.block]? = none by simp; omega] at hc
theorem Tab.below {w w' : World} (h : Below w.heap.size w w') (t : Tab w) : Tab w' := fun i hi => cell_later' h (t i hi)
theorem Tab.drewN {w : World} (t : Tab w) (n : Nat) : Tab (w.drewN n) := fun i hi => t i hi
theorem max_zero (f : Int) : max f 0 = ((f.toNat : Nat) : Int) := by omega
end Go.Proofs.Ytlbfnchjbpioeaa
