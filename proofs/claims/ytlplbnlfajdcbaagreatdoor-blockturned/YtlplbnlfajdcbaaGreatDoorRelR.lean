/-
  A region that draws its order, by a relation between what is done, what was answered and the world. Conditions: as each says.
-/
import Derived.Test.YtlplbnlfajdcbaaGreatDoorRdn
import Derived.Maps.AppendAt
namespace Go.Proofs.YtlplbnlfajdcbaaGreatDoor
open Go.RowKit Go.Shelf
set_option linter.unusedVariables false
section
variable {F : Fence} {n : Nat} {P : Program} {ops : Array Oper} {Q : Exit → Act → World → Prop}
theorem region_rel {id : Nat} (hm : P.follows .mixedOrders = true) (fr : (Nat → Value) → Act) (f0 : Nat → Value) (w : World) (I : (Nat → Bool) → (Nat → Value) → World → Prop) (h0 : ∀ L : Nat → Bool, (∀ k, L k = false) → I L f0 { w with drawn := w.drawn + 1 })
    (hd : ∀ (i : Nat) (o : Oper), ops[i]? = some o → ∀ e, e ∈ o.after → Region.binds .any e = true → e.on < i)
    (step : ∀ (L : Nat → Bool) (f : Nat → Value) X, I L f X → ∀ i, i < ops.size → L i = false → ∀ o : Oper, ops[i]? = some o → (∀ e, e ∈ o.after → Region.binds .any e = true → L e.on = true) → ∀ K : Act → World → Prop, (∀ v Y, (∀ L' : Nat → Bool, (∀ k, L' k = if k = i then true else L k) → I L' (upd f i v) Y) → K (fr (upd f i v)) Y) → wpOpIn F n P ops Q i K (fr f) X)
    (fin : ∀ (L : Nat → Bool) (f : Nat → Value) X, (∀ k, k < ops.size → L k = true) → I L f X → Q .normal (fr f) X) :
    (Code.region id ops true).wpIn F n P Q (fr f0) w := by
  refine wpIn_region_any hm ?_
  refine any_inv (fun L a X => L.size = ops.size ∧ ∃ f, a = fr f ∧ ∀ M : Nat → Bool, (∀ k, M k = L.getD k false) → I M f X) (fun L a X h => h.1) ?_ ?_ _ _ _ _ ?_ (by simp)
  · rintro L a X ⟨hs, f, rfl, hX⟩ i hi h0 hr
    have ho : ops[i]? = some ops[i] := Array.getElem?_eq_getElem hi
    have hr2 := (List.mem_filter.1 hr).2
    rw [ho] at hr2
    simp only [Option.map_some, Option.getD_some, Bool.and_eq_true, Array.all_eq_true'] at hr2
    have hdep : ∀ e, e ∈ ops[i].after → Region.binds .any e = true → L.getD e.on false = true := by
      intro e he hb
      have h1 := hr2.2 e he
      rw [hb] at h1
      simpa using h1
    have h0f : L.getD i false = false := by
      simp only [Array.getD, dif_pos (show i < L.size by omega)] at h0 ⊢
      exact h0
    refine step (fun k => L.getD k false) f X (hX _ (fun _ => rfl)) i hi h0f _ ho hdep _ ?_
    intro v Y hY
    refine ⟨by simpa using hs, _, rfl, fun M hM => hY M (fun k => ?_)⟩
    rw [hM k, set_getD L i k false (by omega)]
  · rintro L a X ⟨hs, f, rfl, hX⟩ hr
    have hall := ready_least' L hs hd hr
    exact fin (fun k => L.getD k false) f X hall (hX _ (fun _ => rfl))
  · refine ⟨by simp, f0, rfl, fun M hM => h0 M (fun k => ?_)⟩
    rw [hM k]
    simp only [Array.getD]
    split <;> simp
end
/-- what is known of a drawn region: the world ahead of it is as it was, and each answer is as Pv says -/
structure RI (Wk : World) (Pv : (Nat → Bool) → World → Nat → Value → Prop) (L : Nat → Bool) (f : Nat → Value) (Z : World) : Prop where
  mem : Below Wk.heap.size Wk Z
  val : ∀ j, L j = true → Pv L Z j (f j)
theorem RI.next {Wk : World} {Pv : (Nat → Bool) → World → Nat → Value → Prop} {L : Nat → Bool} {f : Nat → Value} {Z Y : World} {i : Nat} {v : Value} (h : RI Wk Pv L f Z) (hb : Below Wk.heap.size Wk Y) (hs : ∀ L' : Nat → Bool, (∀ k, L' k = if k = i then true else L k) → ∀ j, j ≠ i → L j = true → Pv L Z j (f j) → Pv L' Y j (f j)) (hv : ∀ L' : Nat → Bool, (∀ k, L' k = if k = i then true else L k) → Pv L' Y i v) : ∀ L' : Nat → Bool, (∀ k, L' k = if k = i then true else L k) → RI Wk Pv L' (upd f i v) Y := fun L' hL' => ⟨hb, fun j hj => by
  unfold upd
  by_cases e : j = i
  · subst e
    simp only [if_true]
    exact hv L' hL'
  · simp only [e, if_false]
    rw [hL', if_neg e] at hj
    exact hs L' hL' j e hj (h.val j hj)⟩
end Go.Proofs.YtlplbnlfajdcbaaGreatDoor
