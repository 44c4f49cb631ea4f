/-
  The document's tables of the level 3, and what is read out of them. Conditions: as each says.
-/
import Derived.Test.YtchjmhgalbkjkaaRfd
set_option linter.unusedVariables false
namespace Lz
/-- far: what stands where no copy may -/
def farN : Nat := 1099511627776
def cm (W : Nat → Nat) (p : Nat) : Nat → Nat
  | 0 => farN
  | d + 1 => min (cm W p d) (2 + lenz d + W (p + (d + 4)))
def rm (C : Nat → Nat) (p i0 : Nat) : Nat → Nat
  | 0 => i0
  | k + 1 => min (rm C p i0 k) (1 + lenz k + k + C (p + k))
theorem cm_le (W : Nat → Nat) (p : Nat) : ∀ (d m : Nat), 4 ≤ m → m ≤ d + 3 → cm W p d ≤ 2 + lenz (m - 4) + W (p + m)
  | 0, m, h1, h2 => by omega
  | d + 1, m, h1, h2 => by
    rw [cm]
    by_cases e : m = d + 4
    · subst e
      rw [show d + 4 - 4 = d by omega]
      exact Nat.min_le_right _ _
    · exact Nat.le_trans (Nat.min_le_left _ _) (cm_le W p d m h1 (by omega))
theorem cm_at (W : Nat → Nat) (p : Nat) : ∀ d, cm W p d = farN ∨ ∃ m, 4 ≤ m ∧ m ≤ d + 3 ∧ cm W p d = 2 + lenz (m - 4) + W (p + m)
  | 0 => .inl rfl
  | d + 1 => by
    rw [cm]
    rcases Nat.le_total (cm W p d) (2 + lenz d + W (p + (d + 4))) with h | h
    · rw [Nat.min_eq_left h]
      rcases cm_at W p d with h0 | ⟨m, h1, h2, h3⟩
      · exact .inl h0
      · exact .inr ⟨m, h1, by omega, h3⟩
    · rw [Nat.min_eq_right h]
      exact .inr ⟨d + 4, by omega, by omega, by rw [show d + 4 - 4 = d by omega]⟩
theorem rm_le0 (C : Nat → Nat) (p i0 : Nat) : ∀ k, rm C p i0 k ≤ i0
  | 0 => Nat.le_refl _
  | k + 1 => by
    rw [rm]
    exact Nat.le_trans (Nat.min_le_left _ _) (rm_le0 C p i0 k)
theorem rm_le (C : Nat → Nat) (p i0 : Nat) : ∀ (k j : Nat), j < k → rm C p i0 k ≤ 1 + lenz j + j + C (p + j)
  | 0, j, h => by omega
  | k + 1, j, h => by
    rw [rm]
    by_cases e : j = k
    · subst e
      exact Nat.min_le_right _ _
    · exact Nat.le_trans (Nat.min_le_left _ _) (rm_le C p i0 k j (by omega))
theorem rm_at (C : Nat → Nat) (p i0 : Nat) : ∀ k, rm C p i0 k = i0 ∨ ∃ j, j < k ∧ rm C p i0 k = 1 + lenz j + j + C (p + j)
  | 0 => .inl rfl
  | k + 1 => by
    rw [rm]
    rcases Nat.le_total (rm C p i0 k) (1 + lenz k + k + C (p + k)) with h | h
    · rw [Nat.min_eq_left h]
      rcases rm_at C p i0 k with h0 | ⟨j, h1, h2⟩
      · exact .inl h0
      · exact .inr ⟨j, by omega, h2⟩
    · rw [Nat.min_eq_right h]
      exact .inr ⟨k, by omega, rfl⟩
/-- what stands in the document's row of copies -/
def cpd (n : Nat) (R : Nat → Nat) (x : Nat) : Nat := if (cv n R x).2 = 0 then farN else (cv n R x).1
theorem wv_cost (n : Nat) (R : Nat → Nat) (x : Nat) : (wv n R x).1 ≤ 2 * n + 1 := by
  unfold wv
  rw [List.getD_eq_getElem?_getD]
  cases e : (tab n R (n + 1)).2[x]? with
  | none => simp
  | some z => exact tab_cost n R (n + 1) z (List.mem_of_getElem? e)
theorem cpd_eq (n : Nat) (R : Nat → Nat) (p : Nat) (hp : p ≤ n) (hR : p + R p ≤ n) (hn : n ≤ 4096) : cm (fun x => (wv n R x).1) p (R p - 3) = cpd n R p := by
  unfold cpd
  have hc := cv_eq n R p hp
  by_cases h4 : 4 ≤ R p
  · obtain ⟨m1, m2⟩ := bcF_min (fun x => (wv n R x).1) p (R p - 3) (0, 0) 4 (Nat.le_refl _) (by omega)
    have heq := bcF_eq (fun x => (wv n R x).1) p (R p - 3) (0, 0) (.inl rfl)
    have hok := bcF_ok (fun x => (wv n R x).1) p (R p) (R p - 3) (0, 0) (by omega) (.inl rfl)
    rw [← hc] at m1 heq hok
    rw [if_neg m1]
    rcases heq with h | ⟨h1, h2⟩
    · exact absurd h m1
    · rcases hok with h | ⟨_, h3⟩
      · exact absurd h m1
      · have a1 := cm_le (fun x => (wv n R x).1) p (R p - 3) (cv n R p).2 h1 (by omega)
        rcases cm_at (fun x => (wv n R x).1) p (R p - 3) with b | ⟨m, b1, b2, b3⟩
        · have hw := wv_cost n R (p + (cv n R p).2)
          have hl := lenz_le ((cv n R p).2 - 4)
          rw [b] at a1
          simp only [farN] at a1
          omega
        · have a2 := (bcF_min (fun x => (wv n R x).1) p (R p - 3) (0, 0) m b1 b2).2
          rw [← hc] at a2
          simp only at a1 a2 b3 h2
          omega
  · rw [show R p - 3 = 0 by omega] at hc ⊢
    rw [hc]
    rfl
theorem cv_near (n : Nat) (R : Nat → Nat) (hR : ∀ x, R x ≠ 0 → 4 ≤ R x → x + 12 ≤ n) (x : Nat) (hx : x ≤ n) (h : (cv n R x).2 ≠ 0) : x + 12 ≤ n := by
  have hok := bcF_ok (fun y => (wv n R y).1) x (R x) (R x - 3) (0, 0) (by omega) (.inl rfl)
  rw [← cv_eq n R x hx] at hok
  rcases hok with h0 | ⟨h1, h2⟩
  · exact absurd h0 h
  · exact hR x (by omega) (by omega)
theorem rest_eq (n : Nat) (R : Nat → Nat) (hR : ∀ x, R x ≠ 0 → 4 ≤ R x → x + 12 ≤ n) (p : Nat) (hp : p ≤ n) (hn : n ≤ 4096) : rm (cpd n R) p (1 + lenz (n - p) + (n - p)) (n - p + 1) = (wv n R p).1 := by
  have hw := wv_eq n R p hp
  have heq := bwF_eq (cv n R) p (n - p) (n - p - 11) (1 + lenz (n - p) + (n - p), n - p, 0) (.inl ⟨rfl, rfl⟩)
  have hok := bwF_ok (cv n R) p n (n - p - 11) (1 + lenz (n - p) + (n - p), n - p, 0) (by omega) (.inl rfl)
  rw [← hw] at heq hok
  have hl := lenz_le (n - p)
  have hle0 := rm_le0 (cpd n R) p (1 + lenz (n - p) + (n - p)) (n - p + 1)
  apply Nat.le_antisymm
  · rcases heq with ⟨_, h⟩ | ⟨h1, h2, h3⟩
    · rw [h]
      exact hle0
    · rcases hok with h | ⟨h4, _⟩
      · exact absurd h h1
      · have := rm_le (cpd n R) p (1 + lenz (n - p) + (n - p)) (n - p + 1) (wv n R p).2.1 (by omega)
        rw [cpd, if_neg (by rw [← h2]; exact h1)] at this
        omega
  · rcases rm_at (cpd n R) p (1 + lenz (n - p) + (n - p)) (n - p + 1) with h | ⟨j, h1, h2⟩
    · rw [h]
      exact wv_end n R p hp
    · by_cases hz : (cv n R (p + j)).2 = 0
      · rw [cpd, if_pos hz] at h2
        rw [h2] at hle0
        simp only [farN] at hle0
        omega
      · have h12 := cv_near n R hR (p + j) (by omega) hz
        have := bwF_min (cv n R) p (n - p - 11) (1 + lenz (n - p) + (n - p), n - p, 0) j (by omega) (by omega)
        rw [← hw] at this
        rw [h2, cpd, if_neg hz]
        exact this
/-- of several of one cost: the fewest literals -/
theorem bwF_where (C : Nat → Nat × Nat) (a : Nat) : ∀ (d : Nat) (b : Nat × Nat × Nat), bwF C a d b = b ∨ ((bwF C a d b).2.2 ≠ 0 ∧ (bwF C a d b).2.1 < d)
  | 0, b => .inl rfl
  | d + 1, b => by
    rw [bwF]
    by_cases hc : 0 < (C (a + d)).2 ∧ 1 + lenz d + d + (C (a + d)).1 ≤ b.1
    · rw [if_pos hc]
      right
      rcases bwF_where C a d (1 + lenz d + d + (C (a + d)).1, d, (C (a + d)).2) with h | ⟨h1, h2⟩
      · rw [h]
        exact ⟨by simp only; omega, by simp only; omega⟩
      · exact ⟨h1, by omega⟩
    · rw [if_neg hc]
      rcases bwF_where C a d b with h | ⟨h1, h2⟩
      · exact .inl h
      · exact .inr ⟨h1, by omega⟩
theorem bwF_tie (C : Nat → Nat × Nat) (a : Nat) : ∀ (d : Nat) (b : Nat × Nat × Nat) (p : Nat), p < d → 0 < (C (a + p)).2 → (bwF C a d b).1 = 1 + lenz p + p + (C (a + p)).1 → (bwF C a d b).2.2 ≠ 0 ∧ (bwF C a d b).2.1 ≤ p
  | 0, b, p, h, _, _ => by omega
  | d + 1, b, p, h, h0, he => by
    rw [bwF] at he ⊢
    by_cases e : p = d
    · subst e
      by_cases hc : 0 < (C (a + p)).2 ∧ 1 + lenz p + p + (C (a + p)).1 ≤ b.1
      · rw [if_pos hc] at he ⊢
        rcases bwF_where C a p (1 + lenz p + p + (C (a + p)).1, p, (C (a + p)).2) with h1 | ⟨h1, h2⟩
        · rw [h1]
          exact ⟨by simp only; omega, Nat.le_refl _⟩
        · exact ⟨h1, by omega⟩
      · rw [if_neg hc] at he
        have h1 := bwF_cost C a p b
        have : ¬ 1 + lenz p + p + (C (a + p)).1 ≤ b.1 := fun h => hc ⟨h0, h⟩
        omega
    · exact bwF_tie C a d _ p (by omega) h0 he
/-- of several of one cost: the greatest count -/
theorem bcF_same (W : Nat → Nat) (a : Nat) : ∀ (d : Nat) (b : Nat × Nat), b.2 ≠ 0 → (bcF W a d b).1 = b.1 → bcF W a d b = b
  | 0, b, _, _ => rfl
  | d + 1, b, h, he => by
    rw [bcF] at he ⊢
    by_cases hc : b.2 = 0 ∨ 2 + lenz d + W (a + (d + 4)) < b.1
    · rw [if_pos hc] at he
      have h2 := (bcF_le W a d (2 + lenz d + W (a + (d + 4)), d + 4) (by simp)).2
      rcases hc with h3 | h3
      · exact absurd h3 h
      · simp only at h2
        omega
    · rw [if_neg hc] at he ⊢
      exact bcF_same W a d b h he
theorem bcF_tie (W : Nat → Nat) (a : Nat) : ∀ (d : Nat) (b : Nat × Nat), (b.2 = 0 ∨ d + 3 < b.2) → ∀ m, 4 ≤ m → m ≤ d + 3 → (bcF W a d b).1 = 2 + lenz (m - 4) + W (a + m) → m ≤ (bcF W a d b).2
  | 0, b, _, m, h1, h2, _ => by omega
  | d + 1, b, hb, m, h1, h2, he => by
    rw [bcF] at he ⊢
    by_cases hc : b.2 = 0 ∨ 2 + lenz d + W (a + (d + 4)) < b.1
    · rw [if_pos hc] at he ⊢
      by_cases e : m = d + 4
      · subst e
        rw [show d + 4 - 4 = d by omega] at he
        rw [bcF_same W a d (2 + lenz d + W (a + (d + 4)), d + 4) (by simp) he]
        exact Nat.le_refl _
      · exact bcF_tie W a d _ (.inr (by simp only; omega)) m h1 (by omega) he
    · rw [if_neg hc] at he ⊢
      have hb0 : b.2 ≠ 0 := fun h => hc (.inl h)
      by_cases e : m = d + 4
      · subst e
        rw [show d + 4 - 4 = d by omega] at he
        have h3 := (bcF_le W a d b hb0).2
        have h4 : ¬ 2 + lenz d + W (a + (d + 4)) < b.1 := fun h => hc (.inr h)
        rw [bcF_same W a d b hb0 (by omega)]
        omega
      · exact bcF_tie W a d b (by omega) m h1 (by omega) he
end Lz
