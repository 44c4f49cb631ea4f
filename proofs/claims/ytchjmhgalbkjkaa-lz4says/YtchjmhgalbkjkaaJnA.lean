/-
  Steps as an argument hands them over; the boxes of made texts. Conditions: as each says.
-/
import Derived.Test.YtchjmhgalbkjkaaMadE
namespace Go.Proofs.Ytchjmhgalbkjkaa
open Go.RowKit Go.Shelf
set_option linter.unusedVariables false
def stL (K : Nat → ByteArray) (B M : Nat → Int) (len : Nat) : List St := (List.range len).map fun i => ⟨K i, B i, M i⟩
theorem stL_length (K : Nat → ByteArray) (B M : Nat → Int) (len : Nat) : (stL K B M len).length = len := by simp [stL]
theorem cell_lt {W : World} {g o : Nat} {v : Value} (h : W.cell? ⟨g, o, none⟩ = some v) : g < W.heap.size := by
  apply Nat.lt_of_not_le
  intro hh
  have : W.heap[g]? = none := Array.getElem?_eq_none hh
  simp [World.cell?, this] at h
theorem stL_steps (w : World) (p : Option Addr) (len : Nat) (K : Nat → ByteArray) (B M : Nat → Int) (hz : ∀ i, i < len → (K i).size ≤ 140737488351232 ∧ (-9223372036854775808 ≤ B i ∧ B i ≤ 9223372036854775807) ∧ (-9223372036854775808 ≤ M i ∧ M i ≤ 9223372036854775807))
    (hc : ∀ i, i < len → ∃ g off, p = some ⟨g, off, none⟩ ∧ w.cell? ⟨g, off + i * 3, none⟩ = some (.string (K i)) ∧ w.cell? ⟨g, off + i * 3 + 1, none⟩ = some (.int .i64 (B i)) ∧ w.cell? ⟨g, off + i * 3 + 2, none⟩ = some (.int .i64 (M i))) : Steps w p (stL K B M len) := by
  intro i x hx
  unfold stL at hx
  rw [List.getElem?_map] at hx
  by_cases hi : i < len
  · rw [List.getElem?_range hi] at hx
    simp only [Option.map_some, Option.some.injEq] at hx
    subst hx
    obtain ⟨g, off, h1, h2, h3, h4⟩ := hc i hi
    obtain ⟨z1, z2, z3⟩ := hz i hi
    exact ⟨g, off, h1, cell_lt h2, h2, h3, h4, by show (K i).size ≤ _; omega, z2, z3⟩
  · rw [List.getElem?_eq_none (by simp; omega)] at hx
    cases hx
end Go.Proofs.Ytchjmhgalbkjkaa
