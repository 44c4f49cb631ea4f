/-
  Copies taken from the front: which places they take, and what is looked for at each. Conditions: as each says.
-/
import Derived.Test.YtchjmhgalbkjkabLzK
set_option linter.unusedVariables false
namespace Lz
/-- the copies are those that are looked for, and between them there is none -/
def fits (bs : List Nat) (tries : Nat) : Nat → List Cp → Prop
  | p, [] => ∀ q, p ≤ q → q + 12 ≤ bs.length → (long bs tries q).2 = 0
  | p, c :: l => p ≤ c.at_ ∧ (∀ q, p ≤ q → q < c.at_ → (long bs tries q).2 = 0) ∧ long bs tries c.at_ = (c.off, c.cnt) ∧ c.cnt ≠ 0 ∧ fits bs tries (c.at_ + c.cnt) l
theorem greedyF_fits (bs : List Nat) (tries : Nat) : ∀ (f p : Nat), bs.length < p + f → fits bs tries p (greedyF bs tries f p)
  | 0, p, h => by
    rw [greedyF]
    intro q hq h12
    omega
  | f + 1, p, h => by
    rw [greedyF]
    split
    · intro q hq h12
      omega
    · split
      · rename_i h12 h0
        have ih := greedyF_fits bs tries f (p + 1) (by omega)
        cases hg : greedyF bs tries f (p + 1) with
        | nil =>
          rw [hg] at ih
          intro q hq hq12
          by_cases e : q = p
          · rw [e]; exact h0
          · exact ih q (by omega) hq12
        | cons c l =>
          rw [hg] at ih
          obtain ⟨i1, i2, i3, i4⟩ := ih
          refine ⟨by omega, fun q hq hlt => ?_, i3, i4⟩
          by_cases e : q = p
          · rw [e]; exact h0
          · exact i2 q (by omega) hlt
      · rename_i h12 h0
        exact ⟨Nat.le_refl _, fun q h1 h2 => by simp only at h2; omega, rfl, h0, greedyF_fits bs tries f _ (by show bs.length < p + (long bs tries p).2 + f; omega)⟩
theorem greedy_fits (bs : List Nat) (tries : Nat) : fits bs tries 0 (greedy bs tries) := greedyF_fits bs tries _ 0 (by omega)
theorem fits_none (bs : List Nat) (tries : Nat) : ∀ (l : List Cp) (p q : Nat), fits bs tries p l → p ≤ q → q + 12 ≤ bs.length → (∀ c, l[0]? = some c → q < c.at_) → (long bs tries q).2 = 0
  | [], p, q, h, h1, h2, _ => h q h1 h2
  | c :: l, p, q, h, h1, h2, h3 => h.2.1 q h1 (h3 c rfl)
theorem fits_at (bs : List Nat) (tries : Nat) : ∀ (l : List Cp) (p k : Nat) (c : Cp), fits bs tries p l → l[k]? = some c → p ≤ c.at_ ∧ long bs tries c.at_ = (c.off, c.cnt) ∧ c.cnt ≠ 0 ∧ fits bs tries (c.at_ + c.cnt) (l.drop (k + 1))
  | [], p, k, c, h, hk => by simp at hk
  | a :: l, p, 0, c, h, hk => by
    simp only [List.getElem?_cons_zero, Option.some.injEq] at hk
    subst hk
    obtain ⟨h1, h2, h3, h4, h5⟩ := h
    exact ⟨h1, h3, h4, by simpa using h5⟩
  | a :: l, p, k + 1, c, h, hk => by
    simp only [List.getElem?_cons_succ] at hk
    obtain ⟨h1, h2, h3, h4, h5⟩ := h
    obtain ⟨i1, i2, i3, i4⟩ := fits_at bs tries l _ k c h5 hk
    exact ⟨by omega, i2, i3, by simpa using i4⟩
/-- behind a copy, ahead of the next one, there is none -/
theorem fits_behind (bs : List Nat) (tries : Nat) (l : List Cp) (p k q : Nat) (c : Cp) (h : fits bs tries p l) (hk : l[k]? = some c) (hq : c.at_ + c.cnt ≤ q) (h12 : q + 12 ≤ bs.length) (hn : ∀ c', l[k + 1]? = some c' → q < c'.at_) : (long bs tries q).2 = 0 := by
  obtain ⟨i1, i2, i3, i4⟩ := fits_at bs tries l p k c h hk
  refine fits_none bs tries _ _ q i4 hq h12 (fun c' hc => hn c' ?_)
  rw [List.getElem?_drop] at hc
  exact hc
theorem lastAt_some (bs : List Nat) (k : Nat) : ∀ (p c : Nat), c < p → four bs c = k → (∀ d, c < d → d < p → four bs d ≠ k) → lastAt bs k p = some c
  | 0, c, h, _, _ => by omega
  | p + 1, c, h, hc, hd => by
    unfold lastAt
    by_cases e : c = p
    · subst e
      rw [if_pos hc]
    · rw [if_neg (hd p (by omega) (by omega))]
      exact lastAt_some bs k p c (by omega) hc (fun d h1 h2 => hd d h1 (by omega))
theorem lastAt_none (bs : List Nat) (k : Nat) : ∀ (p : Nat), (∀ d, d < p → four bs d ≠ k) → lastAt bs k p = none
  | 0, h => rfl
  | p + 1, h => by
    unfold lastAt
    rw [if_neg (h p (by omega))]
    exact lastAt_none bs k p (fun d h1 => h d (by omega))
theorem lastAt_le (bs : List Nat) (k : Nat) : ∀ (p c q : Nat), (∀ d, c < d → d < p → four bs d ≠ k) → lastAt bs k p = some q → q ≤ c
  | 0, c, q, _, h => by simp [lastAt] at h
  | p + 1, c, q, hd, h => by
    unfold lastAt at h
    split at h
    · rename_i e
      cases h
      apply Classical.byContradiction
      intro hne
      exact hd p (by omega) (by omega) e
    · exact lastAt_le bs k p c q (fun d h1 h2 => hd d h1 (by omega)) h
/-- one try: the latest place, if it is near -/
theorem long1_some (bs : List Nat) (hb : ∀ z ∈ bs, z < 256) (p c : Nat) (hc : c < p) (hp : p + 12 ≤ bs.length) (hn : p - c ≤ 65535) (h : four bs c = four bs p) (hd : ∀ d, c < d → d < p → four bs d ≠ four bs p) : long bs 1 p = (p - c, agree bs c p) ∧ agree bs c p ≠ 0 := by
  have e : nearOf bs p = (c : Int) := by
    unfold nearOf
    rw [lastAt_some bs (four bs p) p c hc h hd]
    rfl
  have h4 := agree_four bs hb c p hc hp h
  unfold long
  rw [e, longF_step bs p 0 (c : Int) (0, 0) ⟨by omega, by omega⟩]
  simp only [longF, Int.toNat_natCast]
  rw [if_pos (by omega)]
  exact ⟨rfl, by omega⟩
theorem long1_none (bs : List Nat) (p : Nat) (c : Int) (hd : ∀ d : Nat, c < (d : Int) → d < p → four bs d ≠ four bs p) (hc : c < 0 ∨ 65535 < (p : Int) - c) : (long bs 1 p).2 = 0 := by
  have e : ¬ (0 ≤ nearOf bs p ∧ (p : Int) - nearOf bs p ≤ 65535) := by
    rintro ⟨h1, h2⟩
    unfold nearOf at h1 h2
    cases hl : lastAt bs (four bs p) p with
    | none => rw [hl] at h1; simp [orNone] at h1
    | some q =>
      rw [hl] at h1 h2
      simp only [orNone] at h1 h2
      by_cases h0 : c < 0
      · have h3 := lastAt_four bs _ p q hl
        have h4 := lastAt_lt bs _ p q hl
        exact hd q (by omega) h4 h3
      · have h : 65535 < (p : Int) - c := by omega
        have h3 := lastAt_le bs _ p c.toNat q (fun d h1 h2 => hd d (by omega) h2) hl
        omega
  unfold long
  rw [longF_stop bs p 1 _ _ e]
end Lz
