/-
  A region that draws its order and whose operations only read, by the values that they answer. Conditions: as it says.
-/
import Derived.Test.YtchjmhgalbkjkabPrt
namespace Go.Proofs.Ytchjmhgalbkjkab
open Go.RowKit Go.Shelf
set_option linter.unusedVariables false
section
variable {F : Fence} {n : Nat} {P : Program} {ops : Array Oper} {Q : Exit → Act → World → Prop}
theorem ready_least (L : Array Bool) (hs : L.size = ops.size) (hd : ∀ (i : Nat) (o : Oper), ops[i]? = some o → ∀ e, e ∈ o.after → e.on < i) (h : Region.ready .any ops L = []) : ∀ k, k < ops.size → L.getD k false = true := by
  intro k
  induction k using Nat.strongRecOn with
  | _ k ih =>
    intro hk
    cases e : L.getD k false with
    | true => rfl
    | false =>
      have hm : k ∈ Region.ready .any ops L := by
        unfold Region.ready
        rw [List.mem_filter]
        refine ⟨by simpa using hk, ?_⟩
        have hL : L.getD k true = false := by
          simp only [Array.getD, dif_pos (show k < L.size by omega)] at e ⊢
          exact e
        have ho : ops[k]? = some ops[k] := Array.getElem?_eq_getElem hk
        rw [hL, ho]
        simp only [Bool.not_false, Bool.true_and, Option.map_some, Option.getD_some, Array.all_eq_true']
        intro d hd2
        have := hd k _ ho d hd2
        rw [ih d.on this (by omega), Bool.or_true]
      rw [h] at hm
      cases hm
def depsOk (ops : Array Oper) : Bool := (List.range ops.size).all fun i => match ops[i]? with | some o => o.after.all (fun e => decide (e.on < i)) | none => true
theorem deps_of (h : depsOk ops = true) : ∀ (i : Nat) (o : Oper), ops[i]? = some o → ∀ e, e ∈ o.after → e.on < i := by
  intro i o ho e he
  have hi : i < ops.size := (Array.getElem?_eq_some_iff.1 ho).1
  have h1 := List.all_eq_true.1 h i (by simpa using hi)
  rw [ho] at h1
  exact of_decide_eq_true ((Array.all_eq_true' .. ).1 h1 e he)
theorem region_quiet {id : Nat} (hm : P.follows .mixedOrders = true) (vals : Nat → Value) (fr : (Nat → Value) → Act) (f0 : Nat → Value) (w : World)
    (hd : ∀ (i : Nat) (o : Oper), ops[i]? = some o → ∀ e, e ∈ o.after → e.on < i)
    (hc : ∀ f g : Nat → Value, (∀ k, k < ops.size → f k = g k) → fr f = fr g)
    (step : ∀ i, i < ops.size → ∀ o : Oper, ops[i]? = some o → ∀ f : Nat → Value, (∀ e, e ∈ o.after → Region.binds .any e = true → f e.on = vals e.on) → ∀ K : Act → World → Prop, K (fr (upd f i (vals i))) { w with drawn := w.drawn + 1 } → wpOpIn F n P ops Q i K (fr f) { w with drawn := w.drawn + 1 })
    (fin : Q .normal (fr vals) { w with drawn := w.drawn + 1 }) :
    (Code.region id ops true).wpIn F n P Q (fr f0) w := by
  refine wpIn_region_any hm ?_
  refine any_inv (fun L a X => L.size = ops.size ∧ X = { w with drawn := w.drawn + 1 } ∧ ∃ f, a = fr f ∧ ∀ k, k < ops.size → L.getD k false = true → f k = vals k) (fun L a X h => h.1) ?_ ?_ _ _ _ _ ?_ (by simp)
  · rintro L a X ⟨hs, rfl, f, rfl, hf⟩ i hi h0 hr
    have ho : ops[i]? = some ops[i] := Array.getElem?_eq_getElem hi
    refine step i hi _ ho f ?_ _ ?_
    · intro e he hb
      have hr2 := (List.mem_filter.1 hr).2
      rw [ho] at hr2
      simp only [Option.map_some, Option.getD_some, Bool.and_eq_true, Array.all_eq_true'] at hr2
      have h1 := hr2.2 e he
      rw [hb] at h1
      have hlt := hd i _ ho e he
      refine hf e.on (by omega) ?_
      simpa using h1
    · refine ⟨by simpa using hs, rfl, _, rfl, fun k hk hl => ?_⟩
      rw [set_getD L i k false (by omega)] at hl
      unfold upd
      by_cases e : k = i
      · subst e
        rw [if_pos rfl]
      · rw [if_neg e]
        rw [if_neg e] at hl
        exact hf k hk hl
  · rintro L a X ⟨hs, rfl, f, rfl, hf⟩ hr
    have hall := ready_least L hs hd hr
    rw [hc f vals (fun k hk => hf k hk (hall k hk))]
    exact fin
  · refine ⟨by simp, rfl, f0, rfl, fun k hk hl => ?_⟩
    exfalso
    simp only [Array.getD] at hl
    split at hl <;> simp at hl
end
end Go.Proofs.Ytchjmhgalbkjkab
