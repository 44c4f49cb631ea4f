/-
  A range over a function within a round of another one. Conditions: as it says.
-/
import Derived.Test.YtchhdkmflppjhaaRngN
namespace Go.Proofs.Ytchhdkmflppjhaa
open Go.RowKit
set_option linter.unusedVariables false
section
variable {F : Fence} {n : Nat} {P : Program}
/-- the loop itself, within a round of another one -/
theorem wpIn_rangeN_in {α : Type} {g : Operand} {ps : Array Tmp} {assign body : Code} {Q : Exit → Act → World → Prop} {a : Act} {w : World}
    {l₀ : Nat} {r₀ : Loop} (hro : F.round = some l₀) (hl₀ : w.heap[l₀]? = some (.loop r₀)) (h1 : 1 ≤ n) {gf : Nat} {lb : Array Value} (hg : a.eval g = .func (.func gf) #[] lb) (hFg : F.fn gf) (eg : ∀ args w, (callFunc gf args).run P w = .ok (.enter gf args) w)
    {encs : α → Array Value} {Wr : Obj → Prop} {Kp : World → World → Prop} {S Sp : List α → Prop} {w0 : World} (hseq : SeqN F (n - 1) P gf lb encs Wr Kp S Sp w0) (hWr : ∀ o, Wr o → o.isCells = true)
    (hKt : ∀ {X Y Z : World}, Kp X Y → Kp Y Z → Kp X Z) (hKb : ∀ (W : World) (k : Nat) (o o' : Obj), w.heap.size ≤ k → W.heap[k]? = some o → o.isCells = false → Kp W (W.putObj k o')) (hb0 : Below w0.heap.size w0 w) (hps : ∀ x, (encs x).size = ps.size)
    (I : List α → World → Prop) (Ix : Code → List α → World → Prop) (hI : AbW w.heap.size (fun o => o.isCells = false ∨ Wr o) I) (hIx : ∀ c, AbW w.heap.size (fun o => o.isCells = false ∨ Wr o) (Ix c)) (h0 : I [] w) (Ax : α → Act → World → Prop) (hAx : ∀ x a', AbW w.heap.size (fun o => o.isCells = false ∨ Wr o) (fun (_ : Unit) W => Ax x a' W))
    (hassign : ∀ (l : Nat) (pre : List α) (x : α) (W : World) (K : Act → World → Prop), I pre W → (∀ a' W', KeptW w.heap.size Wr W W' → Kp W W' → I pre W' → Ax x a' W' → K a' W') →
      assign.wpIn (F.inRound l) (n - 1 - 1) P (Exit.then K (fun _ _ _ => False)) { tmps := (ps.zip (encs x)).foldl (fun t (p, v) => t.setIfInBounds p v) a.tmps, defers := [] } W)
    (hbody : ∀ (l : Nat) (pre : List α) (x : α) (a' : Act) (W : World), w.heap.size ≤ l → (∃ r, W.heap[l]? = some (.loop r)) → I pre W → Ax x a' W → Sp (pre ++ [x]) → body.wpIn (F.inRound l) (n - 1 - 1) P (leftW w.heap.size Wr Kp I Ix (pre ++ [x]) W) a' W)
    (hdone : ∀ (xs : List α) (W : World), S xs → I xs W → Q .normal a W)
    (hstop : ∀ (c : Code) (pre : List α) (W : World), Sp pre → Ix c pre W → c.wpIn F n P Q a W) :
    (Code.rangeFunc g ps assign body).wpIn F n P Q a w := by
  refine wpIn_rangeFunc fun fn hfn => ?_
  rw [hro]
  obtain ⟨W1, hW1⟩ : ∃ W1, W1 = w.alloc (.loop (recW fn a.tmps ps assign body r₀.defers .ready none)) := ⟨_, rfl⟩
  have hs1 : W1.heap.size = w.heap.size + 1 := by rw [hW1]; simp
  have hl1 : W1.heap[w.heap.size]? = some (.loop (recW fn a.tmps ps assign body r₀.defers .ready none)) := by
    rw [hW1]
    exact World.alloc_heap_new w _
  have hi1 : I [] W1 := by rw [hW1]; exact hI.new _ h0
  have hb1 : Below w0.heap.size w0 W1 := by
    rw [hW1]
    exact hb0.alloc hb0.size _
  refine ⟨w.heap.size, [], W1, { target := .fn (.func gf) lb, args := #[.func (.yield w.heap.size) #[] #[]] }, W1, gf, #[.func (.yield w.heap.size) #[] #[]] ++ lb, W1, ?_, ?_, ?_, ?_, fun _ => h1, ?_⟩
  · rw [hW1]
    exact run_enterLoop_inner hl₀ _ _ _ _ _
  · simp only [resolve, hg]
    simp [go_sem]
  · intro f' hf'
    simp [Target.leads] at hf'
    subst hf'
    exact hFg
  · simp [invoke, go_sem, eg]
  · have keep : ∀ {X Y : World} {row : Option Nat} {k : Nat} {o : Obj}, X.grownBy Y row → (∀ r, row = some r → W1.heap.size ≤ r ∧ ∃ o : Obj, X.heap[r]? = some o ∧ Wr o) → X.heap[k]? = some o → o.isCells = false → Y.heap[k]? = some o := by
      intro X Y row k o hgr hr hk ho
      rw [hgr.block k (Array.getElem?_eq_some_iff.1 hk).1 ?_]
      · exact hk
      · intro e
        obtain ⟨_, o2, h2, h3⟩ := hr k e.symm
        rw [hk] at h2
        cases h2
        rw [hWr o h3] at ho
        cases ho
    have wide : ∀ {X : World} {row : Option Nat}, (∀ r, row = some r → W1.heap.size ≤ r ∧ ∃ o : Obj, X.heap[r]? = some o ∧ Wr o) → ∀ r, row = some r → w.heap.size ≤ r ∧ ∃ o : Obj, X.heap[r]? = some o ∧ (o.isCells = false ∨ Wr o) := by
      intro X row hr r e
      obtain ⟨h, o, h2, h3⟩ := hr r e
      exact ⟨by omega, o, h2, .inr h3⟩
    refine (hseq w.heap.size
      (fun pre W => I pre W ∧ W.heap[w.heap.size]? = some (.loop (recW fn a.tmps ps assign body r₀.defers .ready none)))
      (fun pre W => ∃ c, Ix c pre W ∧ W.heap[w.heap.size]? = some (.loop (recW fn a.tmps ps assign body r₀.defers .done (some c))))
      W1 hb1 (fun s X Y row h hgr hr => ⟨hI s X Y row h.1 hgr (wide hr), keep hgr hr h.2 rfl⟩)
      (fun s X Y row h hgr hr => by
        obtain ⟨c, h1, h2⟩ := h
        exact ⟨c, hIx c s X Y row h1 hgr (wide hr), keep hgr hr h2 rfl⟩)
      ?_ ⟨hi1, hl1⟩).mono ?_
    · rintro pre x W ⟨hi, hl⟩ hlen
      have := roundW (B := w.heap.size) (D := r₀.defers) (Wr := Wr) (Kp := Kp) (F := F) hfn (Nat.le_refl _) hWr (fun h k => hKt h k) hKb hps I Ix hI hIx Ax hAx (fun W => True)
        (fun X Y hk h => trivial) (fun X o' h => trivial) pre x W
        (fun K hK => hassign _ pre x W K hi hK) (fun a' W' hr hi' hax _ => hbody _ pre x a' W' (Nat.le_refl _) ⟨hr.choose, hr.choose_spec.1⟩ hi' hax hlen) hi hl trivial
      obtain ⟨f1, f2, f3, f4, f5, f6⟩ := this
      refine ⟨f1, f2, f3, f4, f5, f6.mono ?_⟩
      rintro e W' (⟨h1, ⟨h2, h3, _⟩, h4⟩ | ⟨h1, c, h2, h3, _⟩)
      · exact .inl ⟨h1, ⟨h2, h3⟩, h4⟩
      · exact .inr ⟨h1, c, h2, h3⟩
    · rintro e W2 ⟨⟨v, rfl⟩, (⟨xs, hS, hi, hl⟩ | ⟨pre, hSp, c, hi, hl⟩)⟩
      · exact ⟨none, _, run_endLoop (P := P) hl (by simp [recW]), hdone xs _ hS (hI.put _ hi (Nat.le_refl _) hl (.inl rfl))⟩
      · exact ⟨some c, _, run_endLoop (P := P) hl (by simp [recW]), hstop c pre _ hSp ((hIx c).put _ hi (Nat.le_refl _) hl (.inl rfl))⟩
end
end Go.Proofs.Ytchhdkmflppjhaa
