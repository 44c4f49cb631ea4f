/-
  How values stand: an order. No program is named here.
-/
import Derived.Test.YtacbmpjpindepaaGreatDoorFmV
namespace Go.Proofs.YtacbmpjpindepaaGreatDoor
open Go.RowKit
set_option linter.unusedVariables false
theorem lx_irr : ∀ a : List Nat, lxF a a = false
  | [] => rfl
  | x :: a => by rw [lxF, lx_irr a]; simp
theorem lx_tot : ∀ a b : List Nat, a ≠ b → lxF a b = !lxF b a
  | [], [], h => absurd rfl h
  | [], _ :: _, _ => rfl
  | _ :: _, [], _ => rfl
  | x :: a, y :: b, h => by
    rw [lxF, lxF]
    rcases Nat.lt_trichotomy x y with c | c | c
    · have h2 : ¬ y < x := by omega
      have h3 : ¬ y = x := by omega
      simp [c, h2, h3]
    · subst c
      have := lx_tot a b (fun e => h (by rw [e]))
      simp [this]
    · have h2 : ¬ x < y := by omega
      have h3 : ¬ x = y := by omega
      simp [c, h2, h3]
theorem lx_tr : ∀ a b c : List Nat, lxF a b = true → lxF b c = true → lxF a c = true
  | [], [], _, h, _ => by cases h
  | [], _ :: _, [], _, k => by cases k
  | [], _ :: _, _ :: _, _, _ => rfl
  | _ :: _, [], _, h, _ => by cases h
  | _ :: _, _ :: _, [], _, k => by cases k
  | x :: a, y :: b, z :: c, h, k => by
    rw [lxF] at h k ⊢
    simp only [Bool.or_eq_true, Bool.and_eq_true, decide_eq_true_eq] at h k ⊢
    rcases h with h | ⟨h, h2⟩
    · rcases k with k | ⟨k, _⟩
      · exact .inl (by omega)
      · exact .inl (by omega)
    · rcases k with k | ⟨k, k2⟩
      · exact .inl (by omega)
      · exact .inr ⟨by omega, lx_tr a b c h2 k2⟩
theorem le_irr (s : List Nat) : leF s s = false := by
  unfold leF
  simp [lx_irr]
theorem le_tot (s t : List Nat) (h : s ≠ t) : leF s t = !leF t s := by
  unfold leF
  cases (nbF s).2 <;> cases (nbF t).2 <;> simp
  · rcases Int.lt_trichotomy (nbF s).1 (nbF t).1 with c | c | c
    · have h1 : ¬ (nbF s).1 = (nbF t).1 := by omega
      have h2 : ¬ (nbF t).1 = (nbF s).1 := by omega
      have h3 : ¬ (nbF t).1 < (nbF s).1 := by omega
      simp [h1, h2, h3, c]
    · simp [c, lx_tot s t h]
    · have h1 : ¬ (nbF s).1 = (nbF t).1 := by omega
      have h2 : ¬ (nbF t).1 = (nbF s).1 := by omega
      have h3 : ¬ (nbF s).1 < (nbF t).1 := by omega
      simp [h1, h2, h3, c]
  · rcases Int.lt_trichotomy (nbF s).1 (nbF t).1 with c | c | c
    · have h1 : ¬ (nbF s).1 = (nbF t).1 := by omega
      have h2 : ¬ (nbF t).1 = (nbF s).1 := by omega
      have h3 : ¬ (nbF t).1 < (nbF s).1 := by omega
      simp [h1, h2, h3, c]
    · simp [c, lx_tot s t h]
    · have h1 : ¬ (nbF s).1 = (nbF t).1 := by omega
      have h2 : ¬ (nbF t).1 = (nbF s).1 := by omega
      have h3 : ¬ (nbF s).1 < (nbF t).1 := by omega
      simp [h1, h2, h3, c]
theorem le_is (s t : List Nat) : leF s t = true ↔ ((nbF s).2 = true ∧ (nbF t).2 = false) ∨ ((nbF s).2 = (nbF t).2 ∧ ((nbF s).1 < (nbF t).1 ∨ ((nbF s).1 = (nbF t).1 ∧ lxF s t = true))) := by
  unfold leF
  cases (nbF s).2 <;> cases (nbF t).2 <;> simp
  · by_cases c : (nbF s).1 = (nbF t).1
    · simp [c]
    · simp [c]
  · by_cases c : (nbF s).1 = (nbF t).1
    · simp [c]
    · simp [c]
theorem le_tr (s t u : List Nat) (h : leF s t = true) (k : leF t u = true) : leF s u = true := by
  rw [le_is] at h k ⊢
  rcases h with ⟨h1, h2⟩ | ⟨h1, h2⟩
  · rcases k with ⟨k1, k2⟩ | ⟨k1, k2⟩
    · rw [h2] at k1; cases k1
    · exact .inl ⟨h1, by rw [← k1, h2]⟩
  · rcases k with ⟨k1, k2⟩ | ⟨k1, k2⟩
    · exact .inl ⟨by rw [h1, k1], k2⟩
    · refine .inr ⟨by rw [h1, k1], ?_⟩
      rcases h2 with h2 | ⟨h2, h3⟩
      · rcases k2 with k2 | ⟨k2, k3⟩
        · exact .inl (by omega)
        · exact .inl (by omega)
      · rcases k2 with k2 | ⟨k2, k3⟩
        · exact .inl (by omega)
        · exact .inr ⟨by omega, lx_tr s t u h3 k3⟩
end Go.Proofs.YtacbmpjpindepaaGreatDoor
