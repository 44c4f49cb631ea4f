/-
  What is read out of the tables of the level 3: how many literals, how long a copy. Conditions: as each says.
-/
import Derived.Test.YtchjmhgalbkjkaaRfe
set_option linter.unusedVariables false
namespace Lz
theorem read_k (n : Nat) (R : Nat → Nat) (hR : ∀ x, R x ≠ 0 → 4 ≤ R x → x + 12 ≤ n) (a : Nat) (ha : a ≤ n) (hn : n ≤ 4096) (K : Nat) (hK : K = if (wv n R a).2.2 = 0 then n - a else (wv n R a).2.1) :
    K ≤ n - a ∧ (∀ j, j < K → 1 + lenz j + j + cpd n R (a + j) ≠ (wv n R a).1) ∧ ((wv n R a).2.2 ≠ 0 → a + K + 12 ≤ n ∧ 1 + lenz K + K + cpd n R (a + K) = (wv n R a).1 ∧ (wv n R a).2.2 = (cv n R (a + K)).2) := by
  have hw := wv_eq n R a ha
  have hok := bwF_ok (cv n R) a n (n - a - 11) (1 + lenz (n - a) + (n - a), n - a, 0) (by omega) (.inl rfl)
  have heq := bwF_eq (cv n R) a (n - a) (n - a - 11) (1 + lenz (n - a) + (n - a), n - a, 0) (.inl ⟨rfl, rfl⟩)
  have htie : ∀ j, j ≤ n - a → 1 + lenz j + j + cpd n R (a + j) = (wv n R a).1 → (wv n R a).2.2 ≠ 0 ∧ (wv n R a).2.1 ≤ j := fun j hj he => by
    by_cases h0 : (cv n R (a + j)).2 = 0
    · have hc := wv_cost n R a
      unfold cpd at he
      rw [if_pos h0] at he
      simp only [farN] at he
      omega
    · have h12 := cv_near n R hR (a + j) (by omega) h0
      unfold cpd at he
      rw [if_neg h0] at he
      rw [hw] at he ⊢
      exact bwF_tie (cv n R) a (n - a - 11) _ j (by omega) (by omega) he.symm
  rw [← hw] at hok heq
  by_cases h : (wv n R a).2.2 = 0
  · rw [if_pos h] at hK
    subst hK
    exact ⟨Nat.le_refl _, fun j hj he => (htie j (by omega) he).1 h, fun h2 => absurd h h2⟩
  · rw [if_neg h] at hK
    rcases hok with h1 | ⟨h1, h2⟩
    · exact absurd h1 h
    · rw [← hK] at h1 h2 htie
      refine ⟨by omega, fun j hj he => ?_, fun _ => ⟨h1, ?_, h2⟩⟩
      · have := (htie j (by omega) he).2
        omega
      · rcases heq with ⟨h3, _⟩ | h3
        · exact absurd h3 h
        · have h4 : (cv n R (a + K)).2 ≠ 0 := by omega
          unfold cpd
          rw [if_neg h4]
          have h5 := h3.2.2
          rw [← hK] at h5
          exact h5.symm
theorem read_m (n : Nat) (R : Nat → Nat) (p : Nat) (hp : p ≤ n) (M : Nat) (hM : M = (cv n R p).2) (h : M ≠ 0) :
    4 ≤ M ∧ M ≤ R p ∧ 2 + lenz (M - 4) + (wv n R (p + M)).1 = cpd n R p ∧ ∀ m, M < m → m ≤ R p → 2 + lenz (m - 4) + (wv n R (p + m)).1 ≠ cpd n R p := by
  have hc := cv_eq n R p hp
  have heq := bcF_eq (fun x => (wv n R x).1) p (R p - 3) (0, 0) (.inl rfl)
  have hok := bcF_ok (fun x => (wv n R x).1) p (R p) (R p - 3) (0, 0) (by omega) (.inl rfl)
  have htie := bcF_tie (fun x => (wv n R x).1) p (R p - 3) (0, 0) (.inl rfl)
  rw [← hc] at heq hok htie
  rw [← hM] at hok htie
  unfold cpd
  rw [← hM, if_neg h]
  rcases hok with h1 | ⟨h1, h2⟩
  · exact absurd h1 h
  · refine ⟨h1, h2, ?_, fun m hm1 hm2 he => ?_⟩
    · rcases heq with h3 | ⟨_, h3⟩
      · omega
      · rw [← hM] at h3
        exact h3.symm
    · have := htie m (by omega) (by omega) he.symm
      omega
end Lz
