/-
  A range over a function, of whose loop variables one lies in a box. Conditions: as each says.
-/
import Derived.Test.YtchhdkmflppjhaaGoB
namespace Go.Proofs.Ytchhdkmflppjhaa
open Go.RowKit
set_option linter.unusedVariables false
section
variable {F : Fence} {n : Nat} {P : Program}
theorem wpIn_rangeB {α : Type} {g : Operand} {ps : Array Tmp} {assign body : Code} {Q : Exit → Act → World → Prop} {a : Act} {w : World}
    (hro : F.round = none) (h1 : 1 ≤ n) {gf : Nat} {lb : Array Value} (hg : a.eval g = .func (.func gf) #[] lb) (hFg : F.fn gf) (eg : ∀ args w, (callFunc gf args).run P w = .ok (.enter gf args) w)
    {encs : α → Array Value} {Wr : Obj → Prop} {Kp : World → World → Prop} {S Sp : List α → Prop} {w0 : World} (hseq : SeqN F (n - 1) P gf lb encs Wr Kp S Sp w0) (hWr : ∀ o, Wr o → o.isCells = true)
    (hKt : ∀ {X Y Z : World}, Kp X Y → Kp Y Z → Kp X Z) (hKb : ∀ (W : World) (k : Nat) (o o' : Obj), w.heap.size ≤ k → W.heap[k]? = some o → o.isCells = false → Kp W (W.putObj k o')) (hb0 : Below w0.heap.size w0 w) (hps : ∀ x, (encs x).size = ps.size)
    (I : List α → World → Prop) (Ix : Code → List α → World → Prop) (hI : AbW w.heap.size (fun o => o.isCells = false ∨ Wr o) I) (hIx : ∀ c, AbW w.heap.size (fun o => o.isCells = false ∨ Wr o) (Ix c)) (h0 : I [] w) (hIs : ∀ pre W, I pre W → w.heap.size ≤ W.heap.size) (hKr : ∀ W o, Kp W (W.alloc o)) (sl : α → Nat → List (Nat × Value)) (bx : α → Obj) (hbx : ∀ x, (bx x).isCells = true) (hWb : ∀ x, ¬ Wr (bx x))
    (hassign : ∀ (l : Nat) (pre : List α) (x : α) (W : World) (K : Act → World → Prop), K { tmps := (sl x W.heap.size).foldl (fun t p => t.setIfInBounds p.1 p.2) ((ps.zip (encs x)).foldl (fun t (p, v) => t.setIfInBounds p v) a.tmps), defers := [] } (W.alloc (bx x)) →
      assign.wpIn (F.inRound l) (n - 1 - 1) P (Exit.then K (fun _ _ _ => False)) { tmps := (ps.zip (encs x)).foldl (fun t (p, v) => t.setIfInBounds p v) a.tmps, defers := [] } W)
    (hbody : ∀ (l : Nat) (pre : List α) (x : α) (bl : Nat) (W : World), w.heap.size ≤ l → (∃ r, W.heap[l]? = some (.loop r)) → I pre W → w.heap.size ≤ bl → W.heap[bl]? = some (bx x) → Sp (pre ++ [x]) → body.wpIn (F.inRound l) (n - 1 - 1) P (leftW w.heap.size Wr Kp I Ix (pre ++ [x]) W) { tmps := (sl x bl).foldl (fun t p => t.setIfInBounds p.1 p.2) ((ps.zip (encs x)).foldl (fun t (p, v) => t.setIfInBounds p v) a.tmps), defers := [] } W)
    (hdone : ∀ (D : Nat) (xs : List α) (W : World), w.heap.size ≤ D → S xs → I xs W → W.heap[D]? = some (.deferred (some [])) → Q .normal { a with defers := { target := .collected D, args := #[] } :: a.defers } W)
    (hstop : ∀ (D : Nat) (c : Code) (pre : List α) (W : World), w.heap.size ≤ D → Sp pre → Ix c pre W → W.heap[D]? = some (.deferred (some [])) → c.wpIn F n P Q { a with defers := { target := .collected D, args := #[] } :: a.defers } W) :
    (Code.rangeFunc g ps assign body).wpIn F n P Q a w := by
  refine wpIn_rangeN hro h1 hg hFg eg hseq hWr hKt hKb hb0 hps I Ix hI hIx h0 (fun x a' W => ∃ bl, w.heap.size ≤ bl ∧ W.heap[bl]? = some (bx x) ∧ a' = { tmps := (sl x bl).foldl (fun t p => t.setIfInBounds p.1 p.2) ((ps.zip (encs x)).foldl (fun t (p, v) => t.setIfInBounds p v) a.tmps), defers := [] }) (fun x a' _ X Y row hX hg hr => ?_) ?_ ?_ hdone hstop
  · obtain ⟨bl, h1, h2, h3⟩ := hX
    refine ⟨bl, h1, ?_, h3⟩
    rw [hg.block bl (Array.getElem?_eq_some_iff.1 h2).1 (fun e => ?_)]
    · exact h2
    · obtain ⟨_, o, h4, h5⟩ := hr bl e.symm
      rw [h2] at h4
      cases h4
      rcases h5 with h5 | h5
      · rw [hbx x] at h5
        cases h5
      · exact hWb x h5
  · intro l pre x W K hi hK
    refine hassign l pre x W K (hK _ _ ⟨by simp, fun k o _ h _ => (Below.heap_alloc _ _ _ (Array.getElem?_eq_some_iff.1 h).1).trans h⟩ (hKr W _) (hI.new _ hi) ⟨_, hIs pre W hi, World.alloc_heap_new W _, rfl⟩)
  · rintro l pre x a' W hl hr hi ⟨bl, h1, h2, rfl⟩ hp
    exact hbody l pre x bl W hl hr hi h1 h2 hp
theorem wpIn_rangeB_in {α : Type} {g : Operand} {ps : Array Tmp} {assign body : Code} {Q : Exit → Act → World → Prop} {a : Act} {w : World}
    {l₀ : Nat} {r₀ : Loop} (hro : F.round = some l₀) (hl₀ : w.heap[l₀]? = some (.loop r₀)) (h1 : 1 ≤ n) {gf : Nat} {lb : Array Value} (hg : a.eval g = .func (.func gf) #[] lb) (hFg : F.fn gf) (eg : ∀ args w, (callFunc gf args).run P w = .ok (.enter gf args) w)
    {encs : α → Array Value} {Wr : Obj → Prop} {Kp : World → World → Prop} {S Sp : List α → Prop} {w0 : World} (hseq : SeqN F (n - 1) P gf lb encs Wr Kp S Sp w0) (hWr : ∀ o, Wr o → o.isCells = true)
    (hKt : ∀ {X Y Z : World}, Kp X Y → Kp Y Z → Kp X Z) (hKb : ∀ (W : World) (k : Nat) (o o' : Obj), w.heap.size ≤ k → W.heap[k]? = some o → o.isCells = false → Kp W (W.putObj k o')) (hb0 : Below w0.heap.size w0 w) (hps : ∀ x, (encs x).size = ps.size)
    (I : List α → World → Prop) (Ix : Code → List α → World → Prop) (hI : AbW w.heap.size (fun o => o.isCells = false ∨ Wr o) I) (hIx : ∀ c, AbW w.heap.size (fun o => o.isCells = false ∨ Wr o) (Ix c)) (h0 : I [] w) (hIs : ∀ pre W, I pre W → w.heap.size ≤ W.heap.size) (hKr : ∀ W o, Kp W (W.alloc o)) (sl : α → Nat → List (Nat × Value)) (bx : α → Obj) (hbx : ∀ x, (bx x).isCells = true) (hWb : ∀ x, ¬ Wr (bx x))
    (hassign : ∀ (l : Nat) (pre : List α) (x : α) (W : World) (K : Act → World → Prop), K { tmps := (sl x W.heap.size).foldl (fun t p => t.setIfInBounds p.1 p.2) ((ps.zip (encs x)).foldl (fun t (p, v) => t.setIfInBounds p v) a.tmps), defers := [] } (W.alloc (bx x)) →
      assign.wpIn (F.inRound l) (n - 1 - 1) P (Exit.then K (fun _ _ _ => False)) { tmps := (ps.zip (encs x)).foldl (fun t (p, v) => t.setIfInBounds p v) a.tmps, defers := [] } W)
    (hbody : ∀ (l : Nat) (pre : List α) (x : α) (bl : Nat) (W : World), w.heap.size ≤ l → (∃ r, W.heap[l]? = some (.loop r)) → I pre W → w.heap.size ≤ bl → W.heap[bl]? = some (bx x) → Sp (pre ++ [x]) → body.wpIn (F.inRound l) (n - 1 - 1) P (leftW w.heap.size Wr Kp I Ix (pre ++ [x]) W) { tmps := (sl x bl).foldl (fun t p => t.setIfInBounds p.1 p.2) ((ps.zip (encs x)).foldl (fun t (p, v) => t.setIfInBounds p v) a.tmps), defers := [] } W)
    (hdone : ∀ (xs : List α) (W : World), S xs → I xs W → Q .normal a W)
    (hstop : ∀ (c : Code) (pre : List α) (W : World), Sp pre → Ix c pre W → c.wpIn F n P Q a W) :
    (Code.rangeFunc g ps assign body).wpIn F n P Q a w := by
  refine wpIn_rangeN_in hro hl₀ h1 hg hFg eg hseq hWr hKt hKb hb0 hps I Ix hI hIx h0 (fun x a' W => ∃ bl, w.heap.size ≤ bl ∧ W.heap[bl]? = some (bx x) ∧ a' = { tmps := (sl x bl).foldl (fun t p => t.setIfInBounds p.1 p.2) ((ps.zip (encs x)).foldl (fun t (p, v) => t.setIfInBounds p v) a.tmps), defers := [] }) (fun x a' _ X Y row hX hg hr => ?_) ?_ ?_ hdone hstop
  · obtain ⟨bl, h1, h2, h3⟩ := hX
    refine ⟨bl, h1, ?_, h3⟩
    rw [hg.block bl (Array.getElem?_eq_some_iff.1 h2).1 (fun e => ?_)]
    · exact h2
    · obtain ⟨_, o, h4, h5⟩ := hr bl e.symm
      rw [h2] at h4
      cases h4
      rcases h5 with h5 | h5
      · rw [hbx x] at h5
        cases h5
      · exact hWb x h5
  · intro l pre x W K hi hK
    refine hassign l pre x W K (hK _ _ ⟨by simp, fun k o _ h _ => (Below.heap_alloc _ _ _ (Array.getElem?_eq_some_iff.1 h).1).trans h⟩ (hKr W _) (hI.new _ hi) ⟨_, hIs pre W hi, World.alloc_heap_new W _, rfl⟩)
  · rintro l pre x a' W hl hr hi ⟨bl, h1, h2, rfl⟩ hp
    exact hbody l pre x bl W hl hr hi h1 h2 hp
end
end Go.Proofs.Ytchhdkmflppjhaa
