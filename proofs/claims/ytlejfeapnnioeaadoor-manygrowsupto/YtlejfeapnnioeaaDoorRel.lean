/-
  A region that draws its order, by a relation between what is done, what was answered and the world; the region of dragnetlaw7.ManyGrows that lays a word behind the others. Conditions: as each says.
-/
import Derived.Test.YtlejfeapnnioeaaDoorGw1
import Derived.Maps.AppendAt
namespace Go.Proofs.YtlejfeapnnioeaaDoor
open Go.RowKit Go.Shelf
set_option linter.unusedVariables false
section
variable {F : Fence} {n : Nat} {P : Program} {ops : Array Oper} {Q : Exit → Act → World → Prop}
theorem region_rel {id : Nat} (hm : P.follows .mixedOrders = true) (fr : (Nat → Value) → Act) (f0 : Nat → Value) (w : World) (I : (Nat → Bool) → (Nat → Value) → World → Prop) (h0 : ∀ L : Nat → Bool, (∀ k, L k = false) → I L f0 { w with drawn := w.drawn + 1 })
    (hd : ∀ (i : Nat) (o : Oper), ops[i]? = some o → ∀ e, e ∈ o.after → Region.binds .any e = true → e.on < i)
    (step : ∀ (L : Nat → Bool) (f : Nat → Value) X, I L f X → ∀ i, i < ops.size → L i = false → ∀ o : Oper, ops[i]? = some o → (∀ e, e ∈ o.after → Region.binds .any e = true → L e.on = true) → ∀ K : Act → World → Prop, (∀ v Y, (∀ L' : Nat → Bool, (∀ k, L' k = if k = i then true else L k) → I L' (upd f i v) Y) → K (fr (upd f i v)) Y) → wpOpIn F n P ops Q i K (fr f) X)
    (fin : ∀ (L : Nat → Bool) (f : Nat → Value) X, (∀ k, k < ops.size → L k = true) → I L f X → Q .normal (fr f) X) :
    (Code.region id ops true).wpIn F n P Q (fr f0) w := by
  refine wpIn_region_any hm ?_
  refine any_inv (fun L a X => L.size = ops.size ∧ ∃ f, a = fr f ∧ ∀ M : Nat → Bool, (∀ k, M k = L.getD k false) → I M f X) (fun L a X h => h.1) ?_ ?_ _ _ _ _ ?_ (by simp)
  · rintro L a X ⟨hs, f, rfl, hX⟩ i hi h0 hr
    have ho : ops[i]? = some ops[i] := Array.getElem?_eq_getElem hi
    have hr2 := (List.mem_filter.1 hr).2
    rw [ho] at hr2
    simp only [Option.map_some, Option.getD_some, Bool.and_eq_true, Array.all_eq_true'] at hr2
    have hdep : ∀ e, e ∈ ops[i].after → Region.binds .any e = true → L.getD e.on false = true := by
      intro e he hb
      have h1 := hr2.2 e he
      rw [hb] at h1
      simpa using h1
    have h0f : L.getD i false = false := by
      simp only [Array.getD, dif_pos (show i < L.size by omega)] at h0 ⊢
      exact h0
    refine step (fun k => L.getD k false) f X (hX _ (fun _ => rfl)) i hi h0f _ ho hdep _ ?_
    intro v Y hY
    refine ⟨by simpa using hs, _, rfl, fun M hM => hY M (fun k => ?_)⟩
    rw [hM k, set_getD L i k false (by omega)]
  · rintro L a X ⟨hs, f, rfl, hX⟩ hr
    have hall := ready_least' L hs hd hr
    exact fin (fun k => L.getD k false) f X hall (hX _ (fun _ => rfl))
  · refine ⟨by simp, f0, rfl, fun M hM => h0 M (fun k => ?_)⟩
    rw [hM k]
    simp only [Array.getD]
    split <;> simp
end
/-- what the operations answer -/
def P30 (B gw m c : Nat) (x0 : ByteArray) (fold : Bool) (M : List ByteArray) (L : Nat → Bool) (X : World) (j : Nat) (v : Value) : Prop :=
  match j with
  | 0 => ∃ g, v = .slice (some ⟨g, 0, none⟩) 0 0 ∧ (L 2 = false → B ≤ g ∧ X.heap[g]? = some (.cells #[] 9 (0, 0)))
  | 1 => v = .slice (some ⟨gw, 0, none⟩) m c
  | 2 => ∃ g d, v = .slice (some ⟨g, 0, none⟩) m d ∧ (L 7 = false → X.ownsRow B 9 1 (.slice (some ⟨g, 0, none⟩) m d) m (strL M))
  | 3 => v = .slice (some ⟨gw, 0, none⟩) m c
  | 4 => v = .pointer (some ⟨gw, 0, none⟩)
  | 5 => v = .string x0
  | 6 => ∃ g, v = .slice (some ⟨g, 0, none⟩) 1 1 ∧ (L 7 = false → X.heap[g]? = some (.cells #[.string x0] 9 (0, 0)))
  | 7 => ∃ g d, v = .slice (some ⟨g, 0, none⟩) (m + 1) d ∧ m + 1 ≤ d ∧ d ≤ 9223372036854775807 ∧ (L 9 = false → StrAt X (some ⟨g, 0, none⟩) (M ++ [x0]))
  | 8 => v = .bool fold
  | 9 => v = .tuple #[.pointer none, .int .i64 70, .int .i64 (m : Int)]
  | 10 => v = .tuple #[.pointer none, .int .i64 70, .int .i64 (m : Int)]
  | 11 => v = .pointer none
  | 12 => v = .int .i64 70
  | 13 => v = .int .i64 (m : Int)
  | 14 => v = .pointer none
  | 15 => v = .int .i64 70
  | 16 => v = .int .i64 (m : Int)
  | _ => True
structure I30 (ws : World) (gw m c : Nat) (x0 : ByteArray) (fold : Bool) (M : List ByteArray) (L : Nat → Bool) (f : Nat → Value) (X : World) : Prop where
  mem : Below ws.heap.size ws X
  cl : L 7 = true → L 2 = true
  val : ∀ j, L j = true → P30 ws.heap.size gw m c x0 fold M L X j (f j)
section
variable {ws : World} {gw m c : Nat} {x0 : ByteArray} {fold : Bool} {M : List ByteArray} {L L' : Nat → Bool} {f : Nat → Value} {X Y : World} {i : Nat} {v : Value}
theorem P30.keep {B : Nat} (hL : ∀ k, L' k = false → L k = false) (hb : Below X.heap.size X Y) (j : Nat) (u : Value) (h : P30 B gw m c x0 fold M L X j u) : P30 B gw m c x0 fold M L' Y j u := by
  match j, h with
  | 0, ⟨g, h1, h2⟩ =>
    refine ⟨g, h1, fun e => ?_⟩
    obtain ⟨h3, h4⟩ := h2 (hL _ e)
    exact ⟨h3, (hb.block g (Array.getElem?_eq_some_iff.1 h4).1).trans h4⟩
  | 1, h => exact h
  | 2, ⟨g, d, h1, h2⟩ => exact ⟨g, d, h1, fun e => mr_kept (h2 (hL _ e)) fun k hk => hb.block k ((h2 (hL _ e)).lt k hk).2⟩
  | 3, h => exact h
  | 4, h => exact h
  | 5, h => exact h
  | 6, ⟨g, h1, h2⟩ => exact ⟨g, h1, fun e => (hb.block g (Array.getElem?_eq_some_iff.1 (h2 (hL _ e))).1).trans (h2 (hL _ e))⟩
  | 7, ⟨g, d, h1, h2, h3, h4⟩ => exact ⟨g, d, h1, h2, h3, fun e => (h4 (hL _ e)).keep hb⟩
  | 8, h => exact h
  | 9, h => exact h
  | 10, h => exact h
  | 11, h => exact h
  | 12, h => exact h
  | 13, h => exact h
  | 14, h => exact h
  | 15, h => exact h
  | 16, h => exact h
  | (k + 17), _ => exact trivial
/-- an operation that leaves what lies there -/
theorem I30.next (h : I30 ws gw m c x0 fold M L f X) (hb : Below X.heap.size X Y) (h7 : i = 7 → L 2 = true) (hv : ∀ L' : Nat → Bool, (∀ k, L' k = if k = i then true else L k) → P30 ws.heap.size gw m c x0 fold M L' Y i v) : ∀ L' : Nat → Bool, (∀ k, L' k = if k = i then true else L k) → I30 ws gw m c x0 fold M L' (upd f i v) Y := by
  intro L' hL'
  have hmono : ∀ k, L' k = false → L k = false := fun k e => by
    rw [hL'] at e
    split at e
    · cases e
    · exact e
  refine ⟨h.mem.trans ⟨hb.os, hb.tape, hb.output, hb.size, fun k hk => hb.block k (by have := h.mem.size; omega)⟩, fun e => ?_, fun j hj => ?_⟩
  · rw [hL'] at e ⊢
    by_cases e7 : (7 : Nat) = i
    · have := h7 e7.symm
      rw [this]
      split <;> rfl
    · rw [if_neg e7] at e
      rw [h.cl e]
      split <;> rfl
  · unfold upd
    by_cases e : j = i
    · subst e
      rw [if_pos rfl]
      exact hv L' hL'
    · rw [if_neg e]
      rw [hL', if_neg e] at hj
      exact (h.val j hj).keep hmono hb
/-- the first append: behind nothing the words -/
theorem I30.app2 {g : Nat} {d : Nat} (h : I30 ws gw m c x0 fold M L f X) (h2 : L 2 = false) (hg : ws.heap.size ≤ g) (hgE : X.heap[g]? = some (.cells #[] 9 (0, 0))) {g' : Nat} (ho : Y.ownsRow ws.heap.size 9 1 (.slice (some ⟨g', 0, none⟩) m d) m (strL M)) (hgr : X.grownBy Y (some g)) : ∀ L' : Nat → Bool, (∀ k, L' k = if k = 2 then true else L k) → I30 ws gw m c x0 fold M L' (upd f 2 (.slice (some ⟨g', 0, none⟩) m d)) Y := by
  intro L' hL'
  have h7 : L 7 = false := by
    cases e : L 7 with
    | false => rfl
    | true =>
      rw [h.cl e] at h2
      cases h2
  refine ⟨h.mem.grown hgr (by have := h.mem.size; omega) (fun k e => by cases e; exact hg), fun e => ?_, fun j hj => ?_⟩
  · rw [hL', if_pos rfl]
  · unfold upd
    by_cases e : j = 2
    · subst e
      rw [if_pos rfl]
      exact ⟨g', d, rfl, fun _ => ho⟩
    · rw [if_neg e]
      rw [hL', if_neg e] at hj
      have hv := h.val j hj
      have e2 : L' 2 = true := by rw [hL', if_pos rfl]
      match j, hv, e, hj with
      | 0, ⟨g9, h1, _⟩, _, _ => exact ⟨g9, h1, fun q => by rw [e2] at q; cases q⟩
      | 1, hv, _, _ => exact hv
      | 2, _, e, _ => exact absurd rfl e
      | 3, hv, _, _ => exact hv
      | 4, hv, _, _ => exact hv
      | 5, hv, _, _ => exact hv
      | 6, ⟨g9, h1, h3⟩, _, _ =>
        refine ⟨g9, h1, fun _ => ?_⟩
        have h4 := h3 h7
        refine (hgr.block g9 (Array.getElem?_eq_some_iff.1 h4).1 (fun q => ?_)).trans h4
        simp only [Option.some.injEq] at q
        subst q
        rw [hgE] at h4
        simp at h4
      | 7, _, _, hj => rw [h7] at hj; cases hj
      | 8, hv, _, _ => exact hv
      | 9, hv, _, _ => exact hv
      | 10, hv, _, _ => exact hv
      | 11, hv, _, _ => exact hv
      | 12, hv, _, _ => exact hv
      | 13, hv, _, _ => exact hv
      | 14, hv, _, _ => exact hv
      | 15, hv, _, _ => exact hv
      | 16, hv, _, _ => exact hv
      | (k + 17), _, _, _ => exact trivial
/-- the second one: behind the words the first of them -/
theorem I30.app7 {r : Option Nat} (h : I30 ws gw m c x0 fold M L f X) (h2 : L 2 = true) (hr : ∀ k, r = some k → ws.heap.size ≤ k) (hgr : X.grownBy Y r) {g d : Nat} (hd1 : m + 1 ≤ d) (hd2 : d ≤ 9223372036854775807) (hs : StrAt Y (some ⟨g, 0, none⟩) (M ++ [x0])) : ∀ L' : Nat → Bool, (∀ k, L' k = if k = 7 then true else L k) → I30 ws gw m c x0 fold M L' (upd f 7 (.slice (some ⟨g, 0, none⟩) (m + 1) d)) Y := by
  intro L' hL'
  refine ⟨h.mem.grown hgr (by have := h.mem.size; omega) hr, fun e => ?_, fun j hj => ?_⟩
  · rw [hL', if_neg (by decide)]
    exact h2
  · have e7 : L' 7 = true := by rw [hL', if_pos rfl]
    have e2 : L' 2 = true := by rw [hL', if_neg (by decide)]; exact h2
    unfold upd
    by_cases e : j = 7
    · subst e
      rw [if_pos rfl]
      exact ⟨g, d, rfl, hd1, hd2, fun _ => hs⟩
    · rw [if_neg e]
      rw [hL', if_neg e] at hj
      have hv := h.val j hj
      match j, hv, e with
      | 0, ⟨g9, h1, _⟩, _ => exact ⟨g9, h1, fun q => by rw [e2] at q; cases q⟩
      | 1, hv, _ => exact hv
      | 2, ⟨g9, d9, h1, _⟩, _ => exact ⟨g9, d9, h1, fun q => by rw [e7] at q; cases q⟩
      | 3, hv, _ => exact hv
      | 4, hv, _ => exact hv
      | 5, hv, _ => exact hv
      | 6, ⟨g9, h1, _⟩, _ => exact ⟨g9, h1, fun q => by rw [e7] at q; cases q⟩
      | 7, _, e => exact absurd rfl e
      | 8, hv, _ => exact hv
      | 9, hv, _ => exact hv
      | 10, hv, _ => exact hv
      | 11, hv, _ => exact hv
      | 12, hv, _ => exact hv
      | 13, hv, _ => exact hv
      | 14, hv, _ => exact hv
      | 15, hv, _ => exact hv
      | 16, hv, _ => exact hv
      | (k + 17), _, _ => exact trivial
theorem I30.start (ws : World) (gw m c : Nat) (x0 : ByteArray) (fold : Bool) (M : List ByteArray) (f : Nat → Value) (L : Nat → Bool) (hL : ∀ k, L k = false) : I30 ws gw m c x0 fold M L f { ws with drawn := ws.drawn + 1 } :=
  ⟨⟨rfl, rfl, rfl, Nat.le_refl _, fun _ _ => rfl⟩, fun e => (by rw [hL] at e; cases e), fun j hj => (by rw [hL] at hj; cases hj)⟩
end
end Go.Proofs.YtlejfeapnnioeaaDoor
