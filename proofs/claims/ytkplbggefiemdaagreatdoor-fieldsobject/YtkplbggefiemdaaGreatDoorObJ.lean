/-
  object: rows of values that a call makes: the last one is written over. Conditions: as each says.
-/
import Derived.Test.YtkplbggefiemdaaGreatDoorObH
import Derived.Test.YtkplbggefiemdaaGreatDoorObI
namespace Go.Proofs.YtkplbggefiemdaaGreatDoor
open Go.RowKit
set_option linter.unusedVariables false
def zr4 : Array Value := #[.int .i64 0, .string ByteArray.empty, .slice none 0 0, .slice none 0 0]
/-- four cells of a block are written -/
def put4 (w : World) (g o : Nat) (a b c d : Value) : World := (((w.setCell ⟨g, o, none⟩ a).setCell ⟨g, o + 1, none⟩ b).setCell ⟨g, o + 2, none⟩ c).setCell ⟨g, o + 3, none⟩ d
structure Put4 (w w' : World) (g : Nat) (cur : Array Value) (e : TypeId) : Prop where
  os : w'.os = w.os
  tape : w'.tape = w.tape
  output : w'.output = w.output
  size : w'.heap.size = w.heap.size
  row : w'.heap[g]? = some (.cells cur e (0, 0))
  block : ∀ k, k ≠ g → w'.heap[k]? = w.heap[k]?
theorem put1_row {w : World} {g : Nat} {cur : Array Value} {e : TypeId} (h : w.heap[g]? = some (.cells cur e (0, 0))) (o : Nat) (u : Value) : Put4 w (w.setCell ⟨g, o, none⟩ u) g (cur.setIfInBounds o u) e := by
  have q := setCell_eq_setRow w g o cur e (0, 0) u h
  rw [q]
  refine ⟨rfl, rfl, rfl, by simp [World.setRow], ?_, fun k hk => ?_⟩
  · exact setRow_heap w g _ (cur.setIfInBounds o u) e (0, 0) h
  · simp only [World.setRow, Array.getElem?_modify]
    rw [if_neg (by omega)]
theorem Put4.trans {a b c : World} {g : Nat} {x y : Array Value} {e : TypeId} (h : Put4 a b g x e) (k : Put4 b c g y e) : Put4 a c g y e :=
  ⟨k.os.trans h.os, k.tape.trans h.tape, k.output.trans h.output, k.size.trans h.size, k.row, fun i hi => (k.block i hi).trans (h.block i hi)⟩
theorem put4_row {w : World} {g : Nat} {cur : Array Value} {e : TypeId} (h : w.heap[g]? = some (.cells cur e (0, 0))) (o : Nat) (a b c d : Value) : Put4 w (put4 w g o a b c d) g ((((cur.setIfInBounds o a).setIfInBounds (o + 1) b).setIfInBounds (o + 2) c).setIfInBounds (o + 3) d) e := by
  have h1 := put1_row h o a
  have h2 := put1_row h1.row (o + 1) b
  have h3 := put1_row h2.row (o + 2) c
  have h4 := put1_row h3.row (o + 3) d
  exact ((h1.trans h2).trans h3).trans h4
theorem own4_open {w : World} {B e n : Nat} {v : Value} {xs : List Value} (h : w.ownsRow B e 4 v (n + 1) xs) : ∃ g cap, v = .slice (some ⟨g, 0, none⟩) (n + 1) cap ∧ B ≤ g ∧ g < w.heap.size ∧ n + 1 ≤ cap ∧ (∀ j u, xs[j]? = some u → w.cell? ⟨g, j, none⟩ = some u) ∧ ∀ o, o < (n + 1) * 4 → w.frozen? ⟨g, o, none⟩ = false := by
  obtain ⟨hl, h | ⟨g, cap, cur, rfl, h1, h2, h3, h4, h5, h6⟩⟩ := h
  · exact absurd h.2 (by omega)
  · refine ⟨g, cap, rfl, h1, (Array.getElem?_eq_some_iff.1 h2).1, h3, fun j u hj => ?_, fun o ho => ?_⟩
    · rw [← h6] at hj
      have hj2 : cur[j]? = some u := by
        have hlt := (List.getElem?_eq_some_iff.1 hj).1
        rw [List.getElem?_take_of_lt (by simp at hlt; omega)] at hj
        simpa using hj
      simp [World.cell?, h2, hj2]
    · simp [World.frozen?, h2]
theorem own4_put {w : World} {B e n g cap : Nat} {xs : List Value} {z1 z2 z3 z4 : Value} (a b c d : Value) (hx : xs.length = n * 4) (h : w.ownsRow B e 4 (.slice (some ⟨g, 0, none⟩) (n + 1) cap) (n + 1) (xs ++ [z1, z2, z3, z4])) :
    (put4 w g (n * 4) a b c d).ownsRow B e 4 (.slice (some ⟨g, 0, none⟩) (n + 1) cap) (n + 1) (xs ++ [a, b, c, d]) ∧ ∃ cur, Put4 w (put4 w g (n * 4) a b c d) g cur e := by
  obtain ⟨hl, h | ⟨g', cap', cur, he, h1, h2, h3, h4, h5, h6⟩⟩ := h
  · exact absurd h.2 (by omega)
  · have e1 : g' = g ∧ cap' = cap := by simp at he; omega
    obtain ⟨rfl, rfl⟩ := e1
    have hp := put4_row h2 (n * 4) a b c d
    refine ⟨⟨by simp at hl ⊢; omega, .inr ⟨g', cap', _, rfl, h1, hp.row, h3, h4, by simpa using h5, ?_⟩⟩, _, hp⟩
    simp only [Array.toList_setIfInBounds, List.take_set, h6]
    rw [← hx]
    simp
theorem VlAt.trim {F : Nat → Prop} {X : World} {v : Vl} {cs : Array Value} {P : Nat → Prop} (h : VlAt F X v cs) (hP : ∀ k, F k → P k) : VlAt P X v cs := VlAt.keep hP (fun _ _ _ => rfl) (Nat.le_refl _) v cs h
/-- a row of texts that a call makes -/
theorem strs_own {w : World} {B e : Nat} {v : Value} {ns : List ByteArray} (F : Nat → Prop) (h : w.ownsRow B e 1 v ns.length (ns.map Value.string)) (hF : ∀ k, v.ownBlock = some k → F k) : StrsAt F w ns v := by
  obtain ⟨hl, ⟨rfl, h⟩ | ⟨g, cap, cur, rfl, h1, h2, h3, h4, h5, h6⟩⟩ := h
  · exact .inl ⟨List.eq_nil_of_length_eq_zero h, _, _, rfl⟩
  · refine .inr ⟨g, 0, cap, rfl, hF g rfl, (Array.getElem?_eq_some_iff.1 h2).1, fun i t hi => ?_⟩
    have hlt := (List.getElem?_eq_some_iff.1 hi).1
    have hj : (ns.map Value.string)[i]? = some (.string t) := by simp [hi]
    rw [← h6, List.getElem?_take_of_lt (by omega)] at hj
    have hj2 : cur[i]? = some (.string t) := by simpa using hj
    simp [World.cell?, h2, hj2]
/-- a row of values that a call makes -/
theorem kids_own {w : World} {B e : Nat} {v : Value} {ks : List Vl} {xs : List Value} (F : Nat → Prop) (h : w.ownsRow B e 4 v ks.length xs) (hk : KidsL F w ks xs) (hF : ∀ k, v.ownBlock = some k → F k) : (ks = [] ∧ ∃ p c, v = .slice p 0 c) ∨ ∃ g off c, v = .slice (some ⟨g, off, none⟩) ks.length c ∧ F g ∧ g < w.heap.size ∧ KidsAt F w ks g off := by
  obtain ⟨hl, ⟨rfl, h⟩ | ⟨g, cap, cur, rfl, h1, h2, h3, h4, h5, h6⟩⟩ := h
  · exact .inl ⟨List.eq_nil_of_length_eq_zero h, _, _, rfl⟩
  · refine .inr ⟨g, 0, cap, rfl, hF g rfl, (Array.getElem?_eq_some_iff.1 h2).1, KidsL.at ks xs 0 hk fun j u hj => ?_⟩
    have hlt := (List.getElem?_eq_some_iff.1 hj).1
    rw [← h6, List.getElem?_take_of_lt (by omega)] at hj
    have hj2 : cur[j]? = some u := by simpa using hj
    simp [World.cell?, h2, hj2]
end Go.Proofs.YtkplbggefiemdaaGreatDoor
