/-
  The best of several places: what is looked for, place by place. Conditions: as each says.
-/
import Derived.Test.YtchjmhgalbkjkabLzL
set_option linter.unusedVariables false
namespace Lz
theorem longF_mono (bs : List Nat) (p : Nat) : ∀ (t : Nat) (c : Int) (b : Nat × Nat), b.2 ≤ (longF bs p t c b).2
  | 0, c, b => Nat.le_refl _
  | t + 1, c, b => by
    by_cases h : 0 ≤ c ∧ (p : Int) - c ≤ 65535
    · rw [longF_step bs p t c b h]
      refine Nat.le_trans ?_ (longF_mono bs p t _ _)
      split
      · simp only
        omega
      · exact Nat.le_refl _
    · rw [longF_stop bs p _ c b h]
      exact Nat.le_refl _
/-- what is as long as what was there already is what was there -/
theorem longF_same (bs : List Nat) (p : Nat) : ∀ (t : Nat) (c : Int) (b : Nat × Nat), (longF bs p t c b).2 = b.2 → longF bs p t c b = b
  | 0, c, b, _ => rfl
  | t + 1, c, b, h0 => by
    by_cases h : 0 ≤ c ∧ (p : Int) - c ≤ 65535
    · rw [longF_step bs p t c b h] at h0 ⊢
      have hm := longF_mono bs p t (nearOf bs c.toNat) (if b.2 < agree bs c.toNat p then (p - c.toNat, agree bs c.toNat p) else b)
      by_cases e : b.2 < agree bs c.toNat p
      · rw [if_pos e] at hm h0
        simp only at hm
        omega
      · rw [if_neg e] at h0 ⊢
        exact longF_same bs p t _ b h0
    · exact longF_stop bs p _ c b h
/-- what is longer was found at the place, or further back -/
theorem longF_later (bs : List Nat) (p : Nat) : ∀ (t : Nat) (c : Int) (b : Nat × Nat), (longF bs p t c b).2 ≠ b.2 → c < (p : Int) → ∃ q : Nat, (q : Int) ≤ c ∧ longF bs p t c b = (p - q, agree bs q p)
  | 0, c, b, h, _ => absurd rfl h
  | t + 1, c, b, h0, hc => by
    by_cases h : 0 ≤ c ∧ (p : Int) - c ≤ 65535
    · rw [longF_step bs p t c b h] at h0 ⊢
      have hn := nearOf_lt bs c.toNat
      by_cases e : b.2 < agree bs c.toNat p
      · rw [if_pos e] at h0 ⊢
        by_cases e2 : (longF bs p t (nearOf bs c.toNat) (p - c.toNat, agree bs c.toNat p)).2 = agree bs c.toNat p
        · exact ⟨c.toNat, by omega, longF_same bs p t _ _ e2⟩
        · obtain ⟨q, h1, h2⟩ := longF_later bs p t _ _ e2 (by omega)
          exact ⟨q, by omega, h2⟩
      · rw [if_neg e] at h0 ⊢
        obtain ⟨q, h1, h2⟩ := longF_later bs p t _ _ h0 (by omega)
        exact ⟨q, by omega, h2⟩
    · rw [longF_stop bs p _ c b h] at h0
      exact absurd rfl h0
theorem long_agree (bs : List Nat) (t p off cnt : Nat) (h : long bs t p = (off, cnt)) (h0 : cnt ≠ 0) : off ≤ p ∧ 1 ≤ off ∧ cnt = agree bs (p - off) p := by
  unfold long at h
  have hn := nearOf_lt bs p
  obtain ⟨q, h1, h2⟩ := longF_later bs p t (nearOf bs p) (0, 0) (by rw [h]; exact h0) hn.2
  rw [h] at h2
  simp only [Prod.mk.injEq] at h2
  obtain ⟨rfl, rfl⟩ := h2
  refine ⟨by omega, by omega, ?_⟩
  rw [show p - (p - q) = q by omega]
theorem long_more (bs : List Nat) (p : Nat) : (long bs 1 p).2 ≤ (long bs 32 p).2 := by
  unfold long
  by_cases h : 0 ≤ nearOf bs p ∧ (p : Int) - nearOf bs p ≤ 65535
  · rw [longF_step bs p 31 _ _ h, longF_step bs p 0 _ _ h]
    exact longF_mono bs p 31 _ _
  · rw [longF_stop bs p 1 _ _ h]
    exact Nat.zero_le _
theorem long_none (bs : List Nat) (hb : ∀ z ∈ bs, z < 256) (p : Nat) (hp : p + 12 ≤ bs.length) (h0 : (long bs 1 p).2 = 0) : (long bs 32 p).2 = 0 := by
  unfold long at h0 ⊢
  by_cases h : 0 ≤ nearOf bs p ∧ (p : Int) - nearOf bs p ≤ 65535
  · exfalso
    rw [longF_step bs p 0 _ _ h] at h0
    obtain ⟨h1, h2⟩ := nearOf_four bs p h.1
    have h4 := agree_four bs hb _ p h2 hp h1
    rw [if_pos (by show 0 < _; omega)] at h0
    simp only [longF] at h0
    omega
  · rw [longF_stop bs p 32 _ _ h]
/-- the first copies of both levels -/
theorem first_both (bs : List Nat) (hb : ∀ z ∈ bs, z < 256) : (greedy bs 32 = [] ∧ greedy bs 1 = []) ∨ ∃ c2 l2 c1 l1, greedy bs 32 = c2 :: l2 ∧ greedy bs 1 = c1 :: l1 ∧ c2.at_ = c1.at_ ∧ c1.cnt ≤ c2.cnt := by
  have f2 := greedy_fits bs 32
  have f1 := greedy_fits bs 1
  have t2 := greedy_true bs hb 32
  have t1 := greedy_true bs hb 1
  cases h2 : greedy bs 32 with
  | nil =>
    rw [h2] at f2
    cases h1 : greedy bs 1 with
    | nil => exact .inl ⟨rfl, rfl⟩
    | cons c1 l1 =>
      exfalso
      rw [h1] at f1 t1
      have h12 : c1.at_ + 12 ≤ bs.length := t1.2.1.2.2.2.2.1
      have h0 := f2 c1.at_ (Nat.zero_le _) h12
      have hm := long_more bs c1.at_
      have he := f1.2.2.1
      have hne := f1.2.2.2.1
      rw [he] at hm
      simp only at hm
      omega
  | cons c2 l2 =>
    rw [h2] at f2 t2
    have h12 : c2.at_ + 12 ≤ bs.length := t2.2.1.2.2.2.2.1
    cases h1 : greedy bs 1 with
    | nil =>
      exfalso
      rw [h1] at f1
      have h0 := long_none bs hb c2.at_ h12 (f1 c2.at_ (Nat.zero_le _) h12)
      rw [f2.2.2.1] at h0
      exact f2.2.2.2.1 h0
    | cons c1 l1 =>
      right
      rw [h1] at f1 t1
      have g12 : c1.at_ + 12 ≤ bs.length := t1.2.1.2.2.2.2.1
      have e : c2.at_ = c1.at_ := by
        rcases Nat.lt_trichotomy c2.at_ c1.at_ with h | h | h
        · exfalso
          have h0 := long_none bs hb c2.at_ h12 (f1.2.1 c2.at_ (Nat.zero_le _) h)
          rw [f2.2.2.1] at h0
          exact f2.2.2.2.1 h0
        · exact h
        · exfalso
          have h0 := f2.2.1 c1.at_ (Nat.zero_le _) h
          have hm := long_more bs c1.at_
          rw [f1.2.2.1] at hm
          have hne := f1.2.2.2.1
          simp only at hm
          omega
      refine ⟨c2, l2, c1, l1, rfl, rfl, e, ?_⟩
      have hm := long_more bs c1.at_
      rw [f1.2.2.1] at hm
      have he2 := f2.2.2.1
      rw [e] at he2
      rw [he2] at hm
      exact hm
/-- how the places are gone through from behind: what is left to look at, the best so far -/
structure Scan (bs : List Nat) (p off cnt e many bo bc : Nat) (found : Bool) : Prop where
  le : e ≤ p
  mny : many ≤ 32
  eq : longF bs p (32 - many) (orNone (lastAt bs (four bs p) e)) (bo, bc) = (off, cnt)
  fnd : found = true ↔ bc = cnt
theorem Scan.start {bs : List Nat} {p off cnt : Nat} (h : long bs 32 p = (off, cnt)) (h0 : cnt ≠ 0) : Scan bs p off cnt p 0 0 0 false :=
  ⟨Nat.le_refl _, by omega, h, by simp; omega⟩
theorem Scan.skip {bs : List Nat} {p off cnt e many bo bc : Nat} {found : Bool} (h : Scan bs p off cnt (e + 1) many bo bc found) (hne : four bs e ≠ four bs p) : Scan bs p off cnt e many bo bc found := by
  refine ⟨by have := h.le; omega, h.mny, ?_, h.fnd⟩
  have := h.eq
  rw [lastAt, if_neg hne] at this
  exact this
theorem Scan.stop {bs : List Nat} {p off cnt e many bo bc : Nat} {found : Bool} (h : Scan bs p off cnt e many bo bc found) (hs : e = 0 ∨ 65535 < (p : Int) - ((e : Int) - 1) ∨ many = 32) : found = true := by
  have heq := h.eq
  have : longF bs p (32 - many) (orNone (lastAt bs (four bs p) e)) (bo, bc) = (bo, bc) := by
    rcases hs with rfl | hs | rfl
    · exact longF_stop bs p _ _ _ (by simp [lastAt, orNone])
    · refine longF_stop bs p _ _ _ ?_
      rintro ⟨h1, h2⟩
      have := orNone_lt bs (four bs p) e
      omega
    · rfl
  rw [this] at heq
  simp only [Prod.mk.injEq] at heq
  exact h.fnd.2 heq.2
theorem Scan.take {bs : List Nat} {p off cnt e many bo bc : Nat} {found : Bool} (h : Scan bs p off cnt (e + 1) many bo bc found) (he : four bs e = four bs p) (hn : (p : Int) - (e : Int) ≤ 65535) (hm : many < 32) :
    agree bs e p ≤ cnt ∧ (agree bs e p = cnt → (found || decide (p - e = off)) = true) ∧ ∃ bo' bc', Scan bs p off cnt e (many + 1) bo' bc' (found || decide (p - e = off)) := by
  have heq := h.eq
  have hle := h.le
  have hla : lastAt bs (four bs p) (e + 1) = some e := by rw [lastAt, if_pos he]
  rw [hla, show 32 - many = (32 - (many + 1)) + 1 by omega] at heq
  simp only [orNone] at heq
  rw [longF_step bs p _ (e : Int) (bo, bc) ⟨by omega, hn⟩, Int.toNat_natCast] at heq
  have hne : nearOf bs e = orNone (lastAt bs (four bs p) e) := by unfold nearOf; rw [he]
  rw [hne] at heq
  have hmono := longF_mono bs p (32 - (many + 1)) (orNone (lastAt bs (four bs p) e)) (if bc < agree bs e p then (p - e, agree bs e p) else (bo, bc))
  rw [heq] at hmono
  simp only at hmono
  have holt := orNone_lt bs (four bs p) e
  obtain ⟨fo, rfl⟩ : ∃ fo, fo = found := ⟨_, rfl⟩
  have hfnd := h.fnd
  by_cases hb : bc < agree bs e p
  · rw [if_pos hb] at heq hmono
    simp only at hmono
    have hnf : fo = false := by
      cases hf : fo with
      | false => rfl
      | true =>
        have := hfnd.1 hf
        omega
    have key : (fo || decide (p - e = off)) = true ↔ agree bs e p = cnt := by
      rw [hnf, Bool.false_or, decide_eq_true_iff]
      constructor
      · intro h1
        apply Classical.byContradiction
        intro h2
        obtain ⟨q, q1, q2⟩ := longF_later bs p _ _ _ (by rw [heq]; exact fun e => h2 e.symm) (by omega)
        rw [heq] at q2
        simp only [Prod.mk.injEq] at q2
        omega
      · intro h1
        have h3 := longF_same bs p _ _ _ (by rw [heq]; exact h1.symm)
        rw [heq] at h3
        simp only [Prod.mk.injEq] at h3
        exact h3.1.symm
    exact ⟨hmono, key.2, p - e, agree bs e p, by omega, by omega, heq, key⟩
  · rw [if_neg hb] at heq hmono
    simp only at hmono
    have key : (fo || decide (p - e = off)) = true ↔ bc = cnt := by
      constructor
      · intro h1
        cases hf : fo with
        | true => exact hfnd.1 hf
        | false =>
          rw [hf, Bool.false_or, decide_eq_true_iff] at h1
          apply Classical.byContradiction
          intro h2
          obtain ⟨q, q1, q2⟩ := longF_later bs p _ _ _ (by rw [heq]; exact fun e => h2 e.symm) (by omega)
          rw [heq] at q2
          simp only [Prod.mk.injEq] at q2
          omega
      · intro h1
        rw [hfnd.2 h1, Bool.true_or]
    refine ⟨by omega, fun h1 => key.2 (by omega), bo, bc, by omega, by omega, heq, key⟩
end Lz
