/-
  Boxes in a row and two rows that grow behind them; a region that draws its order and writes. Conditions: as each says.
-/
import Derived.Test.YtchjmhgalbkjkabCopA
import Derived.Test.YtchjmhgalbkjkabBytC
namespace Go.Proofs.Ytchjmhgalbkjkab
open Go.RowKit Go.Shelf
set_option linter.unusedVariables false
/-- boxes side by side: each one's type and value -/
def Bxs (W : World) (b : Nat) (l : List (TypeId × Value)) : Prop := ∀ (k : Nat) (t : TypeId) (v : Value), l[k]? = some (t, v) → Boxed W (b + k) t v
structure Cq (b d : Nat) (w0 : World) (l : List (TypeId × Value)) (av : Value) (na : Nat) (xa : List Value) (ov : Value) (no : Nat) (xo : List Value) (W : World) : Prop where
  bx : Bxs W b l
  ra : W.ownsRow d 3 1 av na xa
  ro : W.ownsRow d 32 3 ov no xo
  bel : Below b w0 W
  siz : d ≤ W.heap.size
  hd : b + l.length ≤ d
section
variable {b d : Nat} {w0 W W' : World} {l : List (TypeId × Value)} {av : Value} {na : Nat} {xa : List Value} {ov : Value} {no : Nat} {xo : List Value}
theorem Cq.cell (h : Cq b d w0 l av na xa ov no xo W) (k : Nat) (t : TypeId) (v : Value) (hk : l[k]? = some (t, v)) : W.cell? ⟨b + k, 0, none⟩ = some v ∧ W.frozen? ⟨b + k, 0, none⟩ = false := ⟨(h.bx k t v hk).cell, (h.bx k t v hk).frozen⟩
theorem row_ge {w : World} {base n size : Nat} {e : TypeId} {v : Value} {xs : List Value} (h : w.ownsRow base e size v n xs) : ∀ k, v.ownBlock = some k → base ≤ k := by
  intro k hk
  rcases h.2 with ⟨rfl, _⟩ | ⟨g, cap, cur, rfl, h1, _⟩
  · simp [Value.ownBlock] at hk
  · simp only [Value.ownBlock, Option.some.injEq] at hk
    omega
/-- a box is turned -/
theorem Cq.set (h : Cq b d w0 l av na xa ov no xo W) (k : Nat) (t : TypeId) (v u : Value) (hk : l[k]? = some (t, v)) : Cq b d w0 (l.set k (t, u)) av na xa ov no xo (W.setCell ⟨b + k, 0, none⟩ u) := by
  have hlt : k < l.length := (List.getElem?_eq_some_iff.1 hk).1
  have hg := grown_set W (b + k) u
  have hd := h.hd
  refine ⟨fun j t' v' hj => ?_, h.ra.kept hg (ne_of fun i hi e => ?_), h.ro.kept hg (ne_of fun i hi e => ?_), h.bel.setCell (p := ⟨b + k, 0, none⟩) (by show b ≤ b + k; omega) _, Nat.le_trans h.siz hg.size, by rw [List.length_set]; exact h.hd⟩
  · rw [List.getElem?_set] at hj
    by_cases e : k = j
    · subst e
      rw [if_pos rfl, if_pos hlt] at hj
      cases hj
      exact (h.bx k t v hk).set u
    · rw [if_neg e] at hj
      exact (h.bx j t' v' hj).other (by omega) u
  · have := row_ge h.ra i hi
    simp only [Option.some.injEq] at e
    omega
  · have := row_ge h.ro i hi
    simp only [Option.some.injEq] at e
    omega
/-- whatever turns no block of these -/
theorem Cq.kept (h : Cq b d w0 l av na xa ov no xo W) (hos : W'.os = W.os) (htp : W'.tape = W.tape) (hou : W'.output = W.output) (hs : W.heap.size ≤ W'.heap.size) (hb : ∀ k, k < W.heap.size → W'.heap[k]? = W.heap[k]?) : Cq b d w0 l av na xa ov no xo W' := by
  have hg : W.grownBy W' none := ⟨hos, htp, hou, hs, fun k hk _ => hb k hk⟩
  have hd := h.hd
  have hsz := h.siz
  refine ⟨fun j t v hj => (hb _ (h.bx j t v hj).lt).trans (h.bx j t v hj), h.ra.kept hg (ne_of fun k hk e => by cases e), h.ro.kept hg (ne_of fun k hk e => by cases e), h.bel.trans ⟨hos, htp, hou, hs, fun k hk => hb k (by omega)⟩, by omega, h.hd⟩
theorem Cq.new (h : Cq b d w0 l av na xa ov no xo W) (o : Obj) : Cq b d w0 l av na xa ov no xo (W.alloc o) :=
  h.kept rfl rfl rfl (by simp) (fun k hk => Below.heap_alloc _ _ _ hk)
theorem Cq.below (h : Cq b d w0 l av na xa ov no xo W) (hb : Below W.heap.size W W') : Cq b d w0 l av na xa ov no xo W' :=
  h.kept hb.os hb.tape hb.output hb.size hb.block
theorem Cq.drew (h : Cq b d w0 l av na xa ov no xo W) : Cq b d w0 l av na xa ov no xo { W with drawn := W.drawn + 1 } :=
  h.kept rfl rfl rfl (Nat.le_refl _) (fun k hk => rfl)
/-- what the iterator turns of its own -/
theorem Cq.ab (h : Cq b d w0 l av na xa ov no xo W) {row : Option Nat} (hg : W.grownBy W' row) (hr : Turn d W row) : Cq b d w0 l av na xa ov no xo W' := by
  have hd := h.hd
  have hsz := h.siz
  refine ⟨fun j t v hj => ?_, h.ra.kept hg (ne_of fun k hk e => ?_), h.ro.kept hg (ne_of fun k hk e => ?_), h.bel.trans ⟨hg.os, hg.tape, hg.output, hg.size, fun k hk => hg.block k (by omega) (fun e => ?_)⟩, Nat.le_trans h.siz hg.size, h.hd⟩
  · have hb := h.bx j t v hj
    have hlt := (List.getElem?_eq_some_iff.1 hj).1
    exact (hg.block _ hb.lt (fun e => by have := (hr _ e.symm).1; omega)).trans hb
  · obtain ⟨c1, z1, h1⟩ := row_type h.ra k hk
    exact no_turn h1 hr (by decide) e.symm
  · obtain ⟨c1, z1, h1⟩ := row_type h.ro k hk
    exact no_turn h1 hr (by decide) e.symm
  · have := (hr _ e.symm).1
    omega
/-- the places grow -/
theorem Cq.growA (h : Cq b d w0 l av na xa ov no xo W) {av' : Value} {na' : Nat} {xa' : List Value} (hg : W.grownBy W' av.ownBlock) (ho : W'.ownsRow d 3 1 av' na' xa') : Cq b d w0 l av' na' xa' ov no xo W' := by
  have hd := h.hd
  have hsz := h.siz
  refine ⟨fun j t v hj => ?_, ho, h.ro.kept hg (ne_of fun k hk e => ?_), h.bel.grown hg (by omega) (fun k hk => by have := row_ge h.ra k hk; omega), Nat.le_trans h.siz hg.size, h.hd⟩
  · have hb := h.bx j t v hj
    have hlt := (List.getElem?_eq_some_iff.1 hj).1
    exact (hg.block _ hb.lt (fun e => by have := row_ge h.ra _ e.symm; omega)).trans hb
  · obtain ⟨c1, z1, h1⟩ := row_type h.ro k hk
    exact own_ty h.ra h1 (by decide) e
/-- the sequences grow -/
theorem Cq.growO (h : Cq b d w0 l av na xa ov no xo W) {ov' : Value} {no' : Nat} {xo' : List Value} (hg : W.grownBy W' ov.ownBlock) (ho : W'.ownsRow d 32 3 ov' no' xo') : Cq b d w0 l av na xa ov' no' xo' W' := by
  have hd := h.hd
  have hsz := h.siz
  refine ⟨fun j t v hj => ?_, h.ra.kept hg (ne_of fun k hk e => ?_), ho, h.bel.grown hg (by omega) (fun k hk => by have := row_ge h.ro k hk; omega), Nat.le_trans h.siz hg.size, h.hd⟩
  · have hb := h.bx j t v hj
    have hlt := (List.getElem?_eq_some_iff.1 hj).1
    exact (hg.block _ hb.lt (fun e => by have := row_ge h.ro _ e.symm; omega)).trans hb
  · obtain ⟨c1, z1, h1⟩ := row_type h.ra k hk
    exact own_ty h.ro h1 (by decide) e
end
theorem kept_own {W W' : World} {base n size : Nat} {e : TypeId} {v : Value} {xs : List Value} (B : Nat) (h : W.ownsRow base e size v n xs) (hg : W.grownBy W' v.ownBlock) (he : e ≠ 67) : KeptW B WrP W W' :=
  ⟨hg.size, fun i o _ hi ho => by
    rw [hg.block i (Array.getElem?_eq_some_iff.1 hi).1 (fun e1 => ?_)]
    · exact hi
    · obtain ⟨c1, z1, h1⟩ := row_type h i e1.symm
      rw [h1] at hi
      cases hi
      rcases ho with ho | ⟨cs, ho⟩
      · cases ho
      · cases ho
        exact he rfl⟩
theorem kp_own {W W' : World} {base n size : Nat} {e : TypeId} {v : Value} {xs : List Value} (h : W.ownsRow base e size v n xs) (hg : W.grownBy W' v.ownBlock) (he : e ≠ 67 ∧ e ≠ 63) : KpP W W' :=
  ⟨hg.size, fun i o hi ho => by
    rw [hg.block i (Array.getElem?_eq_some_iff.1 hi).1 (fun e1 => ?_)]
    · exact hi
    · obtain ⟨c1, z1, h1⟩ := row_type h i e1.symm
      rw [h1] at hi
      cases hi
      rcases ho with ⟨cs, ho⟩ | ⟨cs, ho⟩
      · cases ho
        exact he.1 rfl
      · cases ho
        exact he.2 rfl⟩
section
variable {F : Fence} {n : Nat} {P : Program} {ops : Array Oper} {Q : Exit → Act → World → Prop}
/-- as region_kept, where what is known of the world hangs on what is done -/
theorem region_done {id : Nat} (hm : P.follows .mixedOrders = true) (vals : Nat → Value) (fr : (Nat → Value) → Act) (f0 : Nat → Value) (w : World) (G : (Nat → Bool) → World → Prop) (hG : ∀ L : Nat → Bool, (∀ k, L k = false) → G L { w with drawn := w.drawn + 1 })
    (hd : ∀ (i : Nat) (o : Oper), ops[i]? = some o → ∀ e, e ∈ o.after → Region.binds .any e = true → e.on < i)
    (hc : ∀ f g : Nat → Value, (∀ k, k < ops.size → f k = g k) → fr f = fr g)
    (step : ∀ (L : Nat → Bool) X, G L X → ∀ i, i < ops.size → L i = false → ∀ o : Oper, ops[i]? = some o → (∀ e, e ∈ o.after → Region.binds .any e = true → L e.on = true) → ∀ f : Nat → Value, (∀ e, e ∈ o.after → Region.binds .any e = true → f e.on = vals e.on) → ∀ K : Act → World → Prop, (∀ Y, (∀ L' : Nat → Bool, (∀ k, L' k = if k = i then true else L k) → G L' Y) → K (fr (upd f i (vals i))) Y) → wpOpIn F n P ops Q i K (fr f) X)
    (fin : ∀ (L : Nat → Bool) X, (∀ k, k < ops.size → L k = true) → G L X → Q .normal (fr vals) X) :
    (Code.region id ops true).wpIn F n P Q (fr f0) w := by
  refine wpIn_region_any hm ?_
  refine any_inv (fun L a X => L.size = ops.size ∧ (∀ M : Nat → Bool, (∀ k, M k = L.getD k false) → G M X) ∧ ∃ f, a = fr f ∧ ∀ k, k < ops.size → L.getD k false = true → f k = vals k) (fun L a X h => h.1) ?_ ?_ _ _ _ _ ?_ (by simp)
  · rintro L a X ⟨hs, hX, f, rfl, hf⟩ i hi h0 hr
    have ho : ops[i]? = some ops[i] := Array.getElem?_eq_getElem hi
    have hr2 := (List.mem_filter.1 hr).2
    rw [ho] at hr2
    simp only [Option.map_some, Option.getD_some, Bool.and_eq_true, Array.all_eq_true'] at hr2
    have hdep : ∀ e, e ∈ ops[i].after → Region.binds .any e = true → L.getD e.on false = true := by
      intro e he hb
      have h1 := hr2.2 e he
      rw [hb] at h1
      simpa using h1
    have h0f : L.getD i false = false := by
      simp only [Array.getD, dif_pos (show i < L.size by omega)] at h0 ⊢
      exact h0
    refine step (fun k => L.getD k false) X (hX _ (fun _ => rfl)) i hi h0f _ ho hdep f ?_ _ ?_
    · intro e he hb
      have hlt := hd i _ ho e he hb
      exact hf e.on (by omega) (hdep e he hb)
    · intro Y hY
      refine ⟨by simpa using hs, fun M hM => hY M (fun k => ?_), _, rfl, fun k hk hl => ?_⟩
      · rw [hM k, set_getD L i k false (by omega)]
      · rw [set_getD L i k false (by omega)] at hl
        unfold upd
        by_cases e : k = i
        · subst e
          rw [if_pos rfl]
        · rw [if_neg e]
          rw [if_neg e] at hl
          exact hf k hk hl
  · rintro L a X ⟨hs, hX, f, rfl, hf⟩ hr
    have hall := ready_least' L hs hd hr
    rw [hc f vals (fun k hk => hf k hk (hall k hk))]
    exact fin (fun k => L.getD k false) X hall (hX _ (fun _ => rfl))
  · refine ⟨by simp, fun M hM => hG M (fun k => ?_), f0, rfl, fun k hk hl => ?_⟩
    · rw [hM k]
      simp only [Array.getD]
      split <;> simp
    · exfalso
      simp only [Array.getD] at hl
      split at hl <;> simp at hl
end
end Go.Proofs.Ytchjmhgalbkjkab
