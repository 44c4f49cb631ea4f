/-
  A region that draws its order, every answer known ahead: what is not done yet stands as it stood, and what is done stands behind what it wants. Conditions: as it says.
-/
import Derived.Test.YtkplbggefiemdaaGreatDoorRelR
namespace Go.Proofs.YtkplbggefiemdaaGreatDoor
open Go.RowKit Go.Shelf
set_option linter.unusedVariables false
section
variable {F : Fence} {n : Nat} {P : Program} {ops : Array Oper} {Q : Exit → Act → World → Prop}
/-- does operation i want operation j? -/
def dep1 (ops : Array Oper) (i j : Nat) : Bool := match ops[i]? with | some o => o.after.any fun e => Region.binds .any e && (e.on == j) | none => false
theorem region_all {id : Nat} (hm : P.follows .mixedOrders = true) (vals : Nat → Value) (fr : (Nat → Value) → Act) (f0 : Nat → Value) (w : World) (G : (Nat → Bool) → World → Prop) (hG : ∀ L : Nat → Bool, (∀ k, L k = false) → G L { w with drawn := w.drawn + 1 })
    (hd : ∀ (i : Nat) (o : Oper), ops[i]? = some o → ∀ e, e ∈ o.after → Region.binds .any e = true → e.on < i)
    (hc : ∀ f g : Nat → Value, (∀ k, k < ops.size → f k = g k) → fr f = fr g)
    (step : ∀ (L : Nat → Bool) X, G L X → ∀ i, i < ops.size → L i = false → ∀ o : Oper, ops[i]? = some o → (∀ e, e ∈ o.after → Region.binds .any e = true → L e.on = true) → ∀ f : Nat → Value, (∀ e, e ∈ o.after → Region.binds .any e = true → f e.on = vals e.on) → (∀ k, L k = false → f k = f0 k) → (∀ a b, dep1 ops a b = true → L a = true → L b = true) → ∀ K : Act → World → Prop, (∀ Y, (∀ L' : Nat → Bool, (∀ k, L' k = if k = i then true else L k) → G L' Y) → K (fr (upd f i (vals i))) Y) → wpOpIn F n P ops Q i K (fr f) X)
    (fin : ∀ (L : Nat → Bool) X, (∀ k, k < ops.size → L k = true) → G L X → Q .normal (fr vals) X) :
    (Code.region id ops true).wpIn F n P Q (fr f0) w := by
  refine region_rel hm fr f0 w (fun L f X => G L X ∧ (∀ k, k < ops.size → L k = true → f k = vals k) ∧ (∀ k, L k = false → f k = f0 k) ∧ ∀ a b, dep1 ops a b = true → L a = true → L b = true) (fun L hL => ⟨hG L hL, fun k _ h => (by rw [hL k] at h; cases h), fun _ _ => rfl, fun a b _ h => (by rw [hL a] at h; cases h)⟩) hd ?_ ?_
  · rintro L f X ⟨hg, hv, ho, hk⟩ i hi hL o hop hdone K hK
    refine step L X hg i hi hL o hop hdone f ?_ ho hk K ?_
    · intro e he hb
      have hlt := hd i o hop e he hb
      exact hv e.on (by omega) (hdone e he hb)
    · intro Y hY
      refine hK (vals i) Y (fun L' hL' => ⟨hY L' hL', fun k hks hl => ?_, fun k hl => ?_, fun a b hab hla => ?_⟩)
      · unfold upd
        by_cases e : k = i
        · subst e; rw [if_pos rfl]
        · rw [if_neg e]; rw [hL' k, if_neg e] at hl; exact hv k hks hl
      · unfold upd
        by_cases e : k = i
        · subst e; rw [hL' k, if_pos rfl] at hl; cases hl
        · rw [if_neg e]; rw [hL' k, if_neg e] at hl; exact ho k hl
      · rw [hL' b]
        by_cases e : b = i
        · rw [if_pos e]
        · rw [if_neg e]
          by_cases ea : a = i
          · subst ea
            unfold dep1 at hab
            rw [hop] at hab
            obtain ⟨x, hx, hx2⟩ := Array.any_eq_true'.1 hab
            rw [Bool.and_eq_true, beq_iff_eq] at hx2
            rw [← hx2.2]
            exact hdone x hx hx2.1
          · rw [hL' a, if_neg ea] at hla
            exact hk a b hab hla
  · rintro L f X hall ⟨hg, hv, _, _⟩
    rw [hc f vals (fun k hk => hv k hk (hall k hk))]
    exact fin L X hall hg
end
end Go.Proofs.YtkplbggefiemdaaGreatDoor
