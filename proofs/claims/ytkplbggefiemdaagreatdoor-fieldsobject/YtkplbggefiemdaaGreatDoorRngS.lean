/-
  A range over a function whose loop variables are but assigned: the frame of a round, by the slots. Conditions: as it says.
-/
import Derived.Test.YtkplbggefiemdaaGreatDoorRngN
namespace Go.Proofs.YtkplbggefiemdaaGreatDoor
open Go.RowKit
set_option linter.unusedVariables false
section
variable {F : Fence} {n : Nat} {P : Program}
theorem wpIn_rangeS {α : Type} {g : Operand} {ps : Array Tmp} {assign body : Code} {Q : Exit → Act → World → Prop} {a : Act} {w : World}
    (hro : F.round = none) (h1 : 1 ≤ n) {gf : Nat} {lb : Array Value} (hg : a.eval g = .func (.func gf) #[] lb) (hFg : F.fn gf) (eg : ∀ args w, (callFunc gf args).run P w = .ok (.enter gf args) w)
    {encs : α → Array Value} {Wr : Obj → Prop} {Kp : World → World → Prop} {S Sp : List α → Prop} {w0 : World} (hseq : SeqN F (n - 1) P gf lb encs Wr Kp S Sp w0) (hWr : ∀ o, Wr o → o.isCells = true)
    (hKt : ∀ {X Y Z : World}, Kp X Y → Kp Y Z → Kp X Z) (hKb : ∀ (W : World) (k : Nat) (o o' : Obj), w.heap.size ≤ k → W.heap[k]? = some o → o.isCells = false → Kp W (W.putObj k o')) (hb0 : Below w0.heap.size w0 w) (hps : ∀ x, (encs x).size = ps.size)
    (I : List α → World → Prop) (Ix : Code → List α → World → Prop) (hI : AbW w.heap.size (fun o => o.isCells = false ∨ Wr o) I) (hIx : ∀ c, AbW w.heap.size (fun o => o.isCells = false ∨ Wr o) (Ix c)) (h0 : I [] w) (hKr : ∀ W, Kp W W) (sl : α → List (Nat × Value))
    (hassign : ∀ (l : Nat) (pre : List α) (x : α) (W : World) (K : Act → World → Prop), K { tmps := (sl x).foldl (fun t p => t.setIfInBounds p.1 p.2) ((ps.zip (encs x)).foldl (fun t (p, v) => t.setIfInBounds p v) a.tmps), defers := [] } W →
      assign.wpIn (F.inRound l) (n - 1 - 1) P (Exit.then K (fun _ _ _ => False)) { tmps := (ps.zip (encs x)).foldl (fun t (p, v) => t.setIfInBounds p v) a.tmps, defers := [] } W)
    (hbody : ∀ (l : Nat) (pre : List α) (x : α) (W : World), w.heap.size ≤ l → (∃ r, W.heap[l]? = some (.loop r)) → I pre W → Sp (pre ++ [x]) → body.wpIn (F.inRound l) (n - 1 - 1) P (leftW w.heap.size Wr Kp I Ix (pre ++ [x]) W) { tmps := (sl x).foldl (fun t p => t.setIfInBounds p.1 p.2) ((ps.zip (encs x)).foldl (fun t (p, v) => t.setIfInBounds p v) a.tmps), defers := [] } W)
    (hdone : ∀ (D : Nat) (xs : List α) (W : World), w.heap.size ≤ D → S xs → I xs W → W.heap[D]? = some (.deferred (some [])) → Q .normal { a with defers := { target := .collected D, args := #[] } :: a.defers } W)
    (hstop : ∀ (D : Nat) (c : Code) (pre : List α) (W : World), w.heap.size ≤ D → Sp pre → Ix c pre W → W.heap[D]? = some (.deferred (some [])) → c.wpIn F n P Q { a with defers := { target := .collected D, args := #[] } :: a.defers } W) :
    (Code.rangeFunc g ps assign body).wpIn F n P Q a w := by
  refine wpIn_rangeN hro h1 hg hFg eg hseq hWr hKt hKb hb0 hps I Ix hI hIx h0 (fun x a' _ => a' = { tmps := (sl x).foldl (fun t p => t.setIfInBounds p.1 p.2) ((ps.zip (encs x)).foldl (fun t (p, v) => t.setIfInBounds p v) a.tmps), defers := [] }) (fun x a' _ X Y row hX hg hr => hX) ?_ ?_ hdone hstop
  · intro l pre x W K hi hK
    exact hassign l pre x W K (hK _ _ (KeptW.refl _ _ _) (hKr W) hi rfl)
  · rintro l pre x a' W hl hr hi rfl hp
    exact hbody l pre x W hl hr hi hp
end
end Go.Proofs.YtkplbggefiemdaaGreatDoor
