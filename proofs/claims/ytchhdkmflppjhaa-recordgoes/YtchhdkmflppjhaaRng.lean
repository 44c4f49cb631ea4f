/-
  A range over a function that turns blocks of its own between two rounds. Conditions: as each says.
-/
import Derived.Test.YtchhdkmflppjhaaBas
import Derived.RangeFuncNested
import Derived.RangeFuncBound
import Derived.RangeFuncCalls
import Derived.RangeFuncLeaves
namespace Go.Proofs.Ytchhdkmflppjhaa
open Go.RowKit
set_option linter.unusedVariables false
/-- J abides the turn of blocks from B on that hold such objects, and new blocks -/
def AbW {β : Type} (B : Nat) (Wr : Obj → Prop) (J : β → World → Prop) : Prop :=
  ∀ s W W' row, J s W → W.grownBy W' row → (∀ r, row = some r → B ≤ r ∧ ∃ o : Obj, W.heap[r]? = some o ∧ Wr o) → J s W'
theorem AbW.put {β : Type} {B : Nat} {Wr : Obj → Prop} {J : β → World → Prop} (h : AbW B Wr J) {s : β} {W : World} {l : Nat} {o : Obj} (o' : Obj) (hs : J s W) (hB : B ≤ l) (hl : W.heap[l]? = some o) (ho : Wr o) : J s (W.putObj l o') :=
  h s W _ (some l) hs (grownBy_putObj' W l o') fun r e => by cases e; exact ⟨hB, o, hl, ho⟩
theorem AbW.new {β : Type} {B : Nat} {Wr : Obj → Prop} {J : β → World → Prop} (h : AbW B Wr J) {s : β} {W : World} (o : Obj) (hs : J s W) : J s (W.alloc o) :=
  h s W _ none hs (World.grownBy_alloc W o none) fun r e => by cases e
/-- no object that is not a row of cells, nor one of the iterator's, turns -/
structure KeptW (B : Nat) (Wr : Obj → Prop) (W W' : World) : Prop where
  size : W.heap.size ≤ W'.heap.size
  same : ∀ (k : Nat) (o : Obj), B ≤ k → W.heap[k]? = some o → (o.isCells = false ∨ Wr o) → W'.heap[k]? = some o
theorem KeptW.refl (B : Nat) (Wr : Obj → Prop) (W : World) : KeptW B Wr W W := ⟨Nat.le_refl _, fun _ _ _ h _ => h⟩
theorem KeptW.trans {B : Nat} {Wr : Obj → Prop} {X Y Z : World} (h : KeptW B Wr X Y) (k : KeptW B Wr Y Z) : KeptW B Wr X Z :=
  ⟨Nat.le_trans h.size k.size, fun i o hB hi ho => k.same i o hB (h.same i o hB hi ho) ho⟩
/-- what an iterator does: it hands things over, one by one, until it has no more or is told to stop -/
def SeqW {α : Type} (F : Fence) (n : Nat) (P : Program) (g : Nat) (lb : Array Value) (encs : α → Array Value) (Wr : Obj → Prop) (Kp : World → World → Prop) (S Sp : List α → Prop) (N : Nat) (w : World) : Prop :=
  ∀ (l : Nat) (J Jx : List α → World → Prop) (W : World), Below w.heap.size w W → AbW W.heap.size Wr J → AbW W.heap.size Wr Jx →
    (∀ pre x W1, J pre W1 → pre.length < N → YieldAt F (n - 1) P l (encs x) W1 fun e W' =>
      (e = .returned (.bool true) ∧ J (pre ++ [x]) W' ∧ Kp W1 W') ∨ (e = .returned (.bool false) ∧ Jx (pre ++ [x]) W')) →
    J [] W →
    CallsIn F n P g (#[.func (.yield l) #[] #[]] ++ lb) W fun e W' => (∃ v, e = .returned v) ∧ ((∃ xs, S xs ∧ J xs W') ∨ (∃ pre, Sp pre ∧ Jx pre W'))
/-- how the body of a round may be left -/
def leftW {α : Type} (B : Nat) (Wr : Obj → Prop) (Kp : World → World → Prop) (I : List α → World → Prop) (Ix : Code → List α → World → Prop) (xs : List α) (W : World) : Exit → Act → World → Prop
  | .normal, _, W' => KeptW B Wr W W' ∧ Kp W W' ∧ I xs W'
  | .ret, _, W' => KeptW B Wr W W' ∧ Ix .ret xs W'
  | .exit id, _, W' => KeptW B Wr W W' ∧ Ix (.exit id) xs W'
  | .goto t, _, W' => KeptW B Wr W W' ∧ Ix (.goto t) xs W'
  | .panic _, _, _ => False
  | .outgrown, _, _ => False
section
variable {F : Fence} {n : Nat} {P : Program}
/-- a record of a loop over a function -/
def recW (fn : FuncId) (tmps : Array Value) (ps : Array Tmp) (assign body : Code) (D : Nat) (st : LoopState) (pe : Option Code) : Loop := { state := st, pending := pe, fn, tmps, params := ps, assign, body, defers := D }
/-- one round, out of the walks of its assignments and its body: L is what holds of the book-keeping -/
theorem roundW {α : Type} {fn : FuncId} {tmps : Array Value} {ps : Array Tmp} {assign body : Code} {D l B : Nat} (hfn : F.fn fn) (hBl : B ≤ l)
    {encs : α → Array Value} {Wr : Obj → Prop} {Kp : World → World → Prop} (hWr : ∀ o, Wr o → o.isCells = true) (hKt : ∀ {X Y Z : World}, Kp X Y → Kp Y Z → Kp X Z) (hKb : ∀ (W : World) (k : Nat) (o o' : Obj), B ≤ k → W.heap[k]? = some o → o.isCells = false → Kp W (W.putObj k o')) (hps : ∀ x, (encs x).size = ps.size)
    (I : List α → World → Prop) (Ix : Code → List α → World → Prop) (hI : AbW B (fun o => o.isCells = false ∨ Wr o) I) (hIx : ∀ c, AbW B (fun o => o.isCells = false ∨ Wr o) (Ix c)) (Ax : α → Act → World → Prop) (hAx : ∀ x a', AbW B (fun o => o.isCells = false ∨ Wr o) (fun (_ : Unit) W => Ax x a' W))
    (Sd : World → Prop) (hSd : ∀ W W', KeptW B Wr W W' → Sd W → Sd W') (hSp : ∀ W o', Sd W → Sd (W.putObj l o')) {m : Nat}
    (pre : List α) (x : α) (W : World)
    (hassign : ∀ (K : Act → World → Prop), (∀ a' W', KeptW B Wr W W' → Kp W W' → I pre W' → Ax x a' W' → K a' W') →
      assign.wpIn (F.inRound l) m P (Exit.then K (fun _ _ _ => False)) { tmps := (ps.zip (encs x)).foldl (fun t (p, v) => t.setIfInBounds p v) tmps, defers := [] } W)
    (hbody : ∀ (a' : Act) (W' : World), (∃ r, W'.heap[l]? = some (.loop r) ∧ r.defers = D) → I pre W' → Ax x a' W' → Sd W' → body.wpIn (F.inRound l) m P (leftW B Wr Kp I Ix (pre ++ [x]) W') a' W')
    (hi : I pre W) (hl : W.heap[l]? = some (.loop (recW fn tmps ps assign body D .ready none))) (hs : Sd W) :
    YieldAt F m P l (encs x) W fun e W' =>
      (e = .returned (.bool true) ∧ (I (pre ++ [x]) W' ∧ W'.heap[l]? = some (.loop (recW fn tmps ps assign body D .ready none)) ∧ Sd W') ∧ Kp W W') ∨ (e = .returned (.bool false) ∧ ∃ c, Ix c (pre ++ [x]) W' ∧ W'.heap[l]? = some (.loop (recW fn tmps ps assign body D .done (some c))) ∧ Sd W') := by
  have hy := run_yield (P := P) (args := encs x) hl (hps x)
  refine ⟨fn, _, assign, body, hy, roundIn_of_wpIn hfn (hassign _ ?_)⟩
  intro a' Wa hka hkp hia hax
  have hla := hka.same l _ hBl hl (.inl rfl)
  have hsa := hSd _ _ hka hs
  have hlt : l < Wa.heap.size := (Array.getElem?_eq_some_iff.1 hla).1
  refine ⟨_, run_beginRound hla rfl, ?_⟩
  obtain ⟨Wb, hWb⟩ : ∃ Wb, Wb = Wa.putObj l (.loop { recW fn tmps ps assign body D .ready none with state := .busy }) := ⟨_, rfl⟩
  rw [← hWb]
  have hlb : Wb.heap[l]? = some (.loop { recW fn tmps ps assign body D .ready none with state := .busy }) := by rw [hWb]; exact World.putObj_heap_same hlt
  have hkb : Kp Wa Wb := by rw [hWb]; exact hKb _ _ _ _ hBl hla rfl
  have hib : I pre Wb := by rw [hWb]; exact hI.put _ hia hBl hla (.inl rfl)
  have hab : Ax x a' Wb := by rw [hWb]; exact (hAx x a').put (s := ()) _ hax hBl hla (.inl rfl)
  have hsb : Sd Wb := by rw [hWb]; exact hSp _ _ hsa
  have ender : ∀ (jump : Option Code) (Wc : World), KeptW B Wr Wb Wc → Wc.heap[l]? = some (.loop { recW fn tmps ps assign body D .ready none with state := .busy }) ∧ l < Wc.heap.size ∧ Sd Wc ∧
      (Instr.endRound l jump).run P Wc = .ok (.bool jump.isNone) (Wc.putObj l (.loop (recW fn tmps ps assign body D (if jump.isNone then .ready else .done) jump))) := fun jump Wc hk => by
    have h1 := hk.same l _ hBl hlb (.inl rfl)
    exact ⟨h1, (Array.getElem?_eq_some_iff.1 h1).1, hSd _ _ hk hsb, run_endRound (P := P) jump h1⟩
  refine wpIn_mono (hbody a' Wb ⟨_, hlb, rfl⟩ hib hab hsb) ?_
  intro e a3 Wc hp
  have away : ∀ (c : Code), KeptW B Wr Wb Wc → Ix c (pre ++ [x]) Wc → ∃ v W', (Instr.endRound l (some c)).run P Wc = .ok v W' ∧ ((Ending.returned v = .returned (.bool true) ∧ (I (pre ++ [x]) W' ∧ W'.heap[l]? = some (.loop (recW fn tmps ps assign body D .ready none)) ∧ Sd W') ∧ Kp W W') ∨ (Ending.returned v = .returned (.bool false) ∧ ∃ c, Ix c (pre ++ [x]) W' ∧ W'.heap[l]? = some (.loop (recW fn tmps ps assign body D .done (some c))) ∧ Sd W')) := fun c hk hx => by
    obtain ⟨h1, h2, h3, h4⟩ := ender (some c) Wc hk
    exact ⟨_, _, h4, .inr ⟨rfl, c, (hIx c).put _ hx hBl h1 (.inl rfl), World.putObj_heap_same h2, hSp _ _ h3⟩⟩
  cases e with
  | normal =>
    obtain ⟨hk, hkp3, hi3⟩ := hp
    obtain ⟨h1, h2, h3, h4⟩ := ender none Wc hk
    exact ⟨_, _, h4, .inl ⟨rfl, ⟨hI.put _ hi3 hBl h1 (.inl rfl), World.putObj_heap_same h2, hSp _ _ h3⟩, hKt hkp (hKt hkb (hKt hkp3 (hKb _ _ _ _ hBl h1 rfl)))⟩⟩
  | ret => exact away .ret hp.1 hp.2
  | exit id => exact away (.exit id) hp.1 hp.2
  | goto t => exact away (.goto t) hp.1 hp.2
  | panic ch => exact hp.elim
  | outgrown => exact hp.elim
/-- the loop itself, where no other loop over a function is about it -/
theorem wpIn_rangeW {α : Type} {g : Operand} {ps : Array Tmp} {assign body : Code} {Q : Exit → Act → World → Prop} {a : Act} {w : World}
    (hro : F.round = none) (h1 : 1 ≤ n) {gf : Nat} {lb : Array Value} (hg : a.eval g = .func (.func gf) #[] lb) (hFg : F.fn gf) (eg : ∀ args w, (callFunc gf args).run P w = .ok (.enter gf args) w)
    {encs : α → Array Value} {Wr : Obj → Prop} {Kp : World → World → Prop} {S Sp : List α → Prop} {N : Nat} {w0 : World} (hseq : SeqW F (n - 1) P gf lb encs Wr Kp S Sp N w0) (hWr : ∀ o, Wr o → o.isCells = true)
    (hKt : ∀ {X Y Z : World}, Kp X Y → Kp Y Z → Kp X Z) (hKb : ∀ (W : World) (k : Nat) (o o' : Obj), w.heap.size ≤ k → W.heap[k]? = some o → o.isCells = false → Kp W (W.putObj k o')) (hb0 : Below w0.heap.size w0 w) (hps : ∀ x, (encs x).size = ps.size)
    (I : List α → World → Prop) (Ix : Code → List α → World → Prop) (hI : AbW w.heap.size (fun o => o.isCells = false ∨ Wr o) I) (hIx : ∀ c, AbW w.heap.size (fun o => o.isCells = false ∨ Wr o) (Ix c)) (h0 : I [] w) (Ax : α → Act → World → Prop) (hAx : ∀ x a', AbW w.heap.size (fun o => o.isCells = false ∨ Wr o) (fun (_ : Unit) W => Ax x a' W))
    (hassign : ∀ (l : Nat) (pre : List α) (x : α) (W : World) (K : Act → World → Prop), I pre W → (∀ a' W', KeptW w.heap.size Wr W W' → Kp W W' → I pre W' → Ax x a' W' → K a' W') →
      assign.wpIn (F.inRound l) (n - 1 - 1) P (Exit.then K (fun _ _ _ => False)) { tmps := (ps.zip (encs x)).foldl (fun t (p, v) => t.setIfInBounds p v) a.tmps, defers := [] } W)
    (hbody : ∀ (l : Nat) (pre : List α) (x : α) (a' : Act) (W : World), w.heap.size ≤ l → (∃ r, W.heap[l]? = some (.loop r)) → I pre W → Ax x a' W → pre.length < N → body.wpIn (F.inRound l) (n - 1 - 1) P (leftW w.heap.size Wr Kp I Ix (pre ++ [x]) W) a' W)
    (hdone : ∀ (D : Nat) (xs : List α) (W : World), w.heap.size ≤ D → S xs → I xs W → W.heap[D]? = some (.deferred (some [])) → Q .normal { a with defers := { target := .collected D, args := #[] } :: a.defers } W)
    (hstop : ∀ (D : Nat) (c : Code) (pre : List α) (W : World), w.heap.size ≤ D → Sp pre → Ix c pre W → W.heap[D]? = some (.deferred (some [])) → c.wpIn F n P Q { a with defers := { target := .collected D, args := #[] } :: a.defers } W) :
    (Code.rangeFunc g ps assign body).wpIn F n P Q a w := by
  refine wpIn_rangeFunc fun fn hfn => ?_
  rw [hro]
  obtain ⟨W1, hW1⟩ : ∃ W1, W1 = (w.alloc (.deferred (some []))).alloc (.loop (recW fn a.tmps ps assign body w.heap.size .ready none)) := ⟨_, rfl⟩
  have hs1 : W1.heap.size = w.heap.size + 2 := by rw [hW1]; simp
  have hl1 : W1.heap[w.heap.size + 1]? = some (.loop (recW fn a.tmps ps assign body w.heap.size .ready none)) := by
    have := World.alloc_heap_new (w.alloc (.deferred (some []))) (.loop (recW fn a.tmps ps assign body w.heap.size .ready none))
    rw [hW1]
    simpa using this
  have hd1 : W1.heap[w.heap.size]? = some (.deferred (some [])) := by
    rw [hW1, Below.heap_alloc _ _ _ (by simp)]
    exact World.alloc_heap_new w _
  have hi1 : I [] W1 := by rw [hW1]; exact hI.new _ (hI.new _ h0)
  have hb1 : Below w0.heap.size w0 W1 := by
    have hz := hb0.size
    rw [hW1]
    exact (hb0.alloc hz _).alloc (by simp; omega) _
  refine ⟨w.heap.size + 1, [{ target := .collected w.heap.size, args := #[] }], W1, { target := .fn (.func gf) lb, args := #[.func (.yield (w.heap.size + 1)) #[] #[]] }, W1, gf, #[.func (.yield (w.heap.size + 1)) #[] #[]] ++ lb, W1, ?_, ?_, ?_, ?_, fun _ => h1, ?_⟩
  · rw [hW1]
    exact run_enterLoop_outer _ _ _ _ _
  · simp only [resolve, hg]
    simp [go_sem]
  · intro f' hf'
    simp [Target.leads] at hf'
    subst hf'
    exact hFg
  · simp [invoke, go_sem, eg]
  · have keep : ∀ {X Y : World} {row : Option Nat} {k : Nat} {o : Obj}, X.grownBy Y row → (∀ r, row = some r → W1.heap.size ≤ r ∧ ∃ o : Obj, X.heap[r]? = some o ∧ Wr o) → X.heap[k]? = some o → o.isCells = false → Y.heap[k]? = some o := by
      intro X Y row k o hgr hr hk ho
      rw [hgr.block k (Array.getElem?_eq_some_iff.1 hk).1 ?_]
      · exact hk
      · intro e
        obtain ⟨_, o2, h2, h3⟩ := hr k e.symm
        rw [hk] at h2
        cases h2
        rw [hWr o h3] at ho
        cases ho
    have wide : ∀ {X : World} {row : Option Nat}, (∀ r, row = some r → W1.heap.size ≤ r ∧ ∃ o : Obj, X.heap[r]? = some o ∧ Wr o) → ∀ r, row = some r → w.heap.size ≤ r ∧ ∃ o : Obj, X.heap[r]? = some o ∧ (o.isCells = false ∨ Wr o) := by
      intro X row hr r e
      obtain ⟨h, o, h2, h3⟩ := hr r e
      exact ⟨by omega, o, h2, .inr h3⟩
    refine (hseq (w.heap.size + 1)
      (fun pre W => I pre W ∧ W.heap[w.heap.size + 1]? = some (.loop (recW fn a.tmps ps assign body w.heap.size .ready none)) ∧ W.heap[w.heap.size]? = some (.deferred (some [])))
      (fun pre W => ∃ c, Ix c pre W ∧ W.heap[w.heap.size + 1]? = some (.loop (recW fn a.tmps ps assign body w.heap.size .done (some c))) ∧ W.heap[w.heap.size]? = some (.deferred (some [])))
      W1 hb1 (fun s X Y row h hgr hr => ⟨hI s X Y row h.1 hgr (wide hr), keep hgr hr h.2.1 rfl, keep hgr hr h.2.2 rfl⟩)
      (fun s X Y row h hgr hr => by
        obtain ⟨c, h1, h2, h3⟩ := h
        exact ⟨c, hIx c s X Y row h1 hgr (wide hr), keep hgr hr h2 rfl, keep hgr hr h3 rfl⟩)
      ?_ ⟨hi1, hl1, hd1⟩).mono ?_
    · rintro pre x W ⟨hi, hl, hd⟩ hlen
      exact roundW (B := w.heap.size) (D := w.heap.size) (Wr := Wr) (Kp := Kp) hfn (by omega) hWr (fun h k => hKt h k) hKb hps I Ix hI hIx Ax hAx (fun W => W.heap[w.heap.size]? = some (.deferred (some [])))
        (fun X Y hk h => hk.same _ _ (Nat.le_refl _) h (.inl rfl)) (fun X o' h => (World.putObj_heap_other (by omega)).trans h) pre x W
        (fun K hK => hassign _ pre x W K hi hK) (fun a' W' hr hi' hax _ => hbody _ pre x a' W' (by omega) ⟨hr.choose, hr.choose_spec.1⟩ hi' hax hlen) hi hl hd
    · rintro e W2 ⟨⟨v, rfl⟩, (⟨xs, hS, hi, hl, hd⟩ | ⟨pre, hSp, c, hi, hl, hd⟩)⟩
      · exact ⟨none, _, run_endLoop (P := P) hl (by simp [recW]), hdone _ xs _ (Nat.le_refl _) hS (hI.put _ hi (by omega) hl (.inl rfl)) ((World.putObj_heap_other (by omega)).trans hd)⟩
      · exact ⟨some c, _, run_endLoop (P := P) hl (by simp [recW]), hstop _ c pre _ (Nat.le_refl _) hSp ((hIx c).put _ hi (by omega) hl (.inl rfl)) ((World.putObj_heap_other (by omega)).trans hd)⟩
/-- the loop itself, within a round of another one -/
theorem wpIn_rangeW_in {α : Type} {g : Operand} {ps : Array Tmp} {assign body : Code} {Q : Exit → Act → World → Prop} {a : Act} {w : World}
    {l₀ : Nat} {r₀ : Loop} (hro : F.round = some l₀) (hl₀ : w.heap[l₀]? = some (.loop r₀)) (h1 : 1 ≤ n) {gf : Nat} {lb : Array Value} (hg : a.eval g = .func (.func gf) #[] lb) (hFg : F.fn gf) (eg : ∀ args w, (callFunc gf args).run P w = .ok (.enter gf args) w)
    {encs : α → Array Value} {Wr : Obj → Prop} {Kp : World → World → Prop} {S Sp : List α → Prop} {N : Nat} {w0 : World} (hseq : SeqW F (n - 1) P gf lb encs Wr Kp S Sp N w0) (hWr : ∀ o, Wr o → o.isCells = true)
    (hKt : ∀ {X Y Z : World}, Kp X Y → Kp Y Z → Kp X Z) (hKb : ∀ (W : World) (k : Nat) (o o' : Obj), w.heap.size ≤ k → W.heap[k]? = some o → o.isCells = false → Kp W (W.putObj k o')) (hb0 : Below w0.heap.size w0 w) (hps : ∀ x, (encs x).size = ps.size)
    (I : List α → World → Prop) (Ix : Code → List α → World → Prop) (hI : AbW w.heap.size (fun o => o.isCells = false ∨ Wr o) I) (hIx : ∀ c, AbW w.heap.size (fun o => o.isCells = false ∨ Wr o) (Ix c)) (h0 : I [] w) (Ax : α → Act → World → Prop) (hAx : ∀ x a', AbW w.heap.size (fun o => o.isCells = false ∨ Wr o) (fun (_ : Unit) W => Ax x a' W))
    (hassign : ∀ (l : Nat) (pre : List α) (x : α) (W : World) (K : Act → World → Prop), I pre W → (∀ a' W', KeptW w.heap.size Wr W W' → Kp W W' → I pre W' → Ax x a' W' → K a' W') →
      assign.wpIn (F.inRound l) (n - 1 - 1) P (Exit.then K (fun _ _ _ => False)) { tmps := (ps.zip (encs x)).foldl (fun t (p, v) => t.setIfInBounds p v) a.tmps, defers := [] } W)
    (hbody : ∀ (l : Nat) (pre : List α) (x : α) (a' : Act) (W : World), w.heap.size ≤ l → (∃ r, W.heap[l]? = some (.loop r)) → I pre W → Ax x a' W → pre.length < N → body.wpIn (F.inRound l) (n - 1 - 1) P (leftW w.heap.size Wr Kp I Ix (pre ++ [x]) W) a' W)
    (hdone : ∀ (xs : List α) (W : World), S xs → I xs W → Q .normal a W)
    (hstop : ∀ (c : Code) (pre : List α) (W : World), Sp pre → Ix c pre W → c.wpIn F n P Q a W) :
    (Code.rangeFunc g ps assign body).wpIn F n P Q a w := by
  refine wpIn_rangeFunc fun fn hfn => ?_
  rw [hro]
  obtain ⟨W1, hW1⟩ : ∃ W1, W1 = w.alloc (.loop (recW fn a.tmps ps assign body r₀.defers .ready none)) := ⟨_, rfl⟩
  have hs1 : W1.heap.size = w.heap.size + 1 := by rw [hW1]; simp
  have hl1 : W1.heap[w.heap.size]? = some (.loop (recW fn a.tmps ps assign body r₀.defers .ready none)) := by
    rw [hW1]
    exact World.alloc_heap_new w _
  have hi1 : I [] W1 := by rw [hW1]; exact hI.new _ h0
  have hb1 : Below w0.heap.size w0 W1 := by
    rw [hW1]
    exact hb0.alloc hb0.size _
  refine ⟨w.heap.size, [], W1, { target := .fn (.func gf) lb, args := #[.func (.yield w.heap.size) #[] #[]] }, W1, gf, #[.func (.yield w.heap.size) #[] #[]] ++ lb, W1, ?_, ?_, ?_, ?_, fun _ => h1, ?_⟩
  · rw [hW1]
    exact run_enterLoop_inner hl₀ _ _ _ _ _
  · simp only [resolve, hg]
    simp [go_sem]
  · intro f' hf'
    simp [Target.leads] at hf'
    subst hf'
    exact hFg
  · simp [invoke, go_sem, eg]
  · have keep : ∀ {X Y : World} {row : Option Nat} {k : Nat} {o : Obj}, X.grownBy Y row → (∀ r, row = some r → W1.heap.size ≤ r ∧ ∃ o : Obj, X.heap[r]? = some o ∧ Wr o) → X.heap[k]? = some o → o.isCells = false → Y.heap[k]? = some o := by
      intro X Y row k o hgr hr hk ho
      rw [hgr.block k (Array.getElem?_eq_some_iff.1 hk).1 ?_]
      · exact hk
      · intro e
        obtain ⟨_, o2, h2, h3⟩ := hr k e.symm
        rw [hk] at h2
        cases h2
        rw [hWr o h3] at ho
        cases ho
    have wide : ∀ {X : World} {row : Option Nat}, (∀ r, row = some r → W1.heap.size ≤ r ∧ ∃ o : Obj, X.heap[r]? = some o ∧ Wr o) → ∀ r, row = some r → w.heap.size ≤ r ∧ ∃ o : Obj, X.heap[r]? = some o ∧ (o.isCells = false ∨ Wr o) := by
      intro X row hr r e
      obtain ⟨h, o, h2, h3⟩ := hr r e
      exact ⟨by omega, o, h2, .inr h3⟩
    refine (hseq w.heap.size
      (fun pre W => I pre W ∧ W.heap[w.heap.size]? = some (.loop (recW fn a.tmps ps assign body r₀.defers .ready none)))
      (fun pre W => ∃ c, Ix c pre W ∧ W.heap[w.heap.size]? = some (.loop (recW fn a.tmps ps assign body r₀.defers .done (some c))))
      W1 hb1 (fun s X Y row h hgr hr => ⟨hI s X Y row h.1 hgr (wide hr), keep hgr hr h.2 rfl⟩)
      (fun s X Y row h hgr hr => by
        obtain ⟨c, h1, h2⟩ := h
        exact ⟨c, hIx c s X Y row h1 hgr (wide hr), keep hgr hr h2 rfl⟩)
      ?_ ⟨hi1, hl1⟩).mono ?_
    · rintro pre x W ⟨hi, hl⟩ hlen
      have := roundW (B := w.heap.size) (D := r₀.defers) (Wr := Wr) (Kp := Kp) (F := F) hfn (Nat.le_refl _) hWr (fun h k => hKt h k) hKb hps I Ix hI hIx Ax hAx (fun W => True)
        (fun X Y hk h => trivial) (fun X o' h => trivial) pre x W
        (fun K hK => hassign _ pre x W K hi hK) (fun a' W' hr hi' hax _ => hbody _ pre x a' W' (Nat.le_refl _) ⟨hr.choose, hr.choose_spec.1⟩ hi' hax hlen) hi hl trivial
      obtain ⟨f1, f2, f3, f4, f5, f6⟩ := this
      refine ⟨f1, f2, f3, f4, f5, f6.mono ?_⟩
      rintro e W' (⟨h1, ⟨h2, h3, _⟩, h4⟩ | ⟨h1, c, h2, h3, _⟩)
      · exact .inl ⟨h1, ⟨h2, h3⟩, h4⟩
      · exact .inr ⟨h1, c, h2, h3⟩
    · rintro e W2 ⟨⟨v, rfl⟩, (⟨xs, hS, hi, hl⟩ | ⟨pre, hSp, c, hi, hl⟩)⟩
      · exact ⟨none, _, run_endLoop (P := P) hl (by simp [recW]), hdone xs _ hS (hI.put _ hi (Nat.le_refl _) hl (.inl rfl))⟩
      · exact ⟨some c, _, run_endLoop (P := P) hl (by simp [recW]), hstop c pre _ hSp ((hIx c).put _ hi (Nat.le_refl _) hl (.inl rfl))⟩
end
end Go.Proofs.Ytchhdkmflppjhaa
