/-
  One byte or two, laid as a small row, behind a row of bytes. Conditions: as each says.
-/
import Derived.Test.YtchjmhgalbkjkaaLay
namespace Go.Proofs.Ytchjmhgalbkjkaa
open Go.RowKit
set_option linter.unusedVariables false
theorem n1_news (w : World) (c : Int) (t : TypeId) : ∀ (j : Nat) (u : Value), [Value.int .u8 c][j]? = some u → (w.alloc (.cells #[.int .u8 c] t)).cell? ((⟨w.heap.size, 0, none⟩ : Addr).add j) = some u := by
  intro j u hu
  have hj : j < 1 := (List.getElem?_eq_some_iff.1 hu).1
  obtain rfl : j = 0 := by omega
  rw [Addr.add_lit]
  simp at hu
  subst hu
  have := heap_alloc_new w (.cells #[.int .u8 c] t)
  simp only [World.cell?]
  rw [this]
  rfl
theorem n2_news (w : World) (c d : Int) (t : TypeId) : ∀ (j : Nat) (u : Value), [Value.int .u8 c, Value.int .u8 d][j]? = some u → (w.alloc (.cells #[.int .u8 c, .int .u8 d] t)).cell? ((⟨w.heap.size, 0, none⟩ : Addr).add j) = some u := by
  intro j u hu
  have hj : j < 2 := (List.getElem?_eq_some_iff.1 hu).1
  have := heap_alloc_new w (.cells #[.int .u8 c, .int .u8 d] t)
  rcases (show j = 0 ∨ j = 1 by omega) with rfl | rfl <;> rw [Addr.add_lit] <;> simp only [World.cell?] <;> rw [this] <;> exact hu
theorem byv_cons (c : Nat) (l : List Nat) : byv (c :: l) = .int .u8 (c : Int) :: byv l := rfl
theorem byv_nil : byv [] = [] := rfl
theorem own_alloc {w : World} {base n : Nat} {e : TypeId} {v : Value} {xs : List Value} {size : Nat} (h : w.ownsRow base e size v n xs) (o : Obj) : (w.alloc o).ownsRow base e size v n xs := by
  refine ⟨h.1, ?_⟩
  rcases h.2 with h0 | ⟨g, cap, cur, rfl, h1, h2, h3⟩
  · exact .inl h0
  · exact .inr ⟨g, cap, cur, rfl, h1, by rw [Below.heap_alloc w o g (Array.getElem?_eq_some_iff.1 h2).1]; exact h2, h3⟩
/-- what a small row behind a row of bytes leaves -/
theorem ap_add {base n : Nat} {a w w' : World} {o : Obj} {v : Value} {xs : List Value} (x : Ap base a w) (hown : w.ownsRow base 5 1 v n xs) (hb : base ≤ w.heap.size) (hg : (w.alloc o).grownBy w' v.ownBlock) : Ap base a w' ∧ base ≤ w'.heap.size :=
  ⟨(x.alloc hb o).grown (own_alloc hown o) (by simp; omega) hg, Nat.le_trans hb (Nat.le_trans (by simp) hg.size)⟩
end Go.Proofs.Ytchjmhgalbkjkaa
