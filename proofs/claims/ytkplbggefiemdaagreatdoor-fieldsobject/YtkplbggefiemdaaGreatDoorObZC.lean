/-
  object: a copy of a value. Conditions: as it says.
-/
import Derived.Test.YtkplbggefiemdaaGreatDoorObZB
namespace Go.Proofs.YtkplbggefiemdaaGreatDoor
open Go.RowKit Go.Maps
set_option linter.unusedVariables false
set_option linter.unusedSimpArgs false
theorem copied_ok (F : Nat → Prop) : ∀ (m : Nat) (v : Vl), szV v ≤ m → ∀ (n : Nat), okV n v = true → ∀ (cs : Array Value) (w : World), VlAt F w v cs → (∀ j, F j → j < w.heap.size) →
    Calls Tryz.prog 39 #[.agg cs] w fun e w' => ∃ cs', e = .returned (.agg cs') ∧ Below w.heap.size w w' ∧ ∃ G : Nat → Prop, (∀ k, G k → w.heap.size ≤ k ∧ k < w'.heap.size) ∧ VlAt G w' v cs'
  | 0, .mk k t ns ks, hm => by rw [szV] at hm; omega
  | m + 1, .mk k t ns ks, hm => by
    intro n hok cs w hv hF
    rw [szV] at hm
    have hgen : okL (n - 1) ks = true → ∀ (i : Nat) (u : Vl), ks[i]? = some u → ∀ (cs : Array Value) (X : World), VlAt F X u cs → (∀ j, F j → j < X.heap.size) → Calls Tryz.prog 39 #[.agg cs] X fun e w' => ∃ cs', e = .returned (.agg cs') ∧ Below X.heap.size X w' ∧ ∃ G : Nat → Prop, (∀ k, G k → X.heap.size ≤ k ∧ k < w'.heap.size) ∧ VlAt G w' u cs' := fun hol i u hu cs X q1 q2 => by
      have hs := szVL_get ks i u hu
      exact copied_ok F m u (by omega) (n - 1) (okL_get _ _ _ _ hol hu) cs X q1 q2
    rw [okV] at hok
    simp only [Bool.or_eq_true, Bool.and_eq_true, decide_eq_true_eq, List.isEmpty_iff, List.all_eq_true] at hok
    rcases hok with (((⟨⟨⟨⟨k1, k3⟩, x1⟩, rfl⟩, rfl⟩ | ⟨⟨⟨rfl, x1⟩, rfl⟩, rfl⟩) | ⟨⟨⟨rfl, x1⟩, rfl⟩, rfl⟩) | ⟨⟨⟨⟨⟨rfl, x1⟩, rfl⟩, x3⟩, x4⟩, x5⟩) | ⟨⟨⟨⟨⟨⟨⟨rfl, x1⟩, x2⟩, x6⟩, x7⟩, x3⟩, x4⟩, x5⟩
    · obtain rfl := bl_empty x1
      exact copied_step F _ k _ [] [] rfl cs w hv hF (by decide) (fun t ht => by cases ht) (by decide) (by decide) (hgen rfl)
    · exact copied_step F _ 4 t [] [] rfl cs w hv hF (numT_ok x1).1 (fun t ht => by cases ht) (by decide) (by decide) (hgen rfl)
    · exact copied_step F _ 5 t [] [] rfl cs w hv hF (by have := (shT_ok x1).1; omega) (fun t ht => by cases ht) (by decide) (by decide) (hgen rfl)
    · obtain rfl := bl_empty x1
      exact copied_step F _ 6 _ [] ks rfl cs w hv hF (by decide) (fun t ht => by cases ht) (by decide) x4 (hgen x5)
    · obtain rfl := bl_empty x1
      exact copied_step F _ 7 _ ns ks rfl cs w hv hF (by decide) (fun t ht => by have := (shT_ok (x6 t ht)).1; omega) (by omega) x4 (hgen x5)
end Go.Proofs.YtkplbggefiemdaaGreatDoor
