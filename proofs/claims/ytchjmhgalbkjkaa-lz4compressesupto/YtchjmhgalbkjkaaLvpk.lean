/-
  No packing is shorter than that of the level 3. Conditions: as each says.
-/
import Derived.Test.YtchjmhgalbkjkaaLvw
set_option linter.unusedVariables false
namespace Lz
theorem bcF_le (W : Nat → Nat) (a : Nat) : ∀ (d : Nat) (b : Nat × Nat), b.2 ≠ 0 → (bcF W a d b).2 ≠ 0 ∧ (bcF W a d b).1 ≤ b.1
  | 0, b, h => ⟨h, Nat.le_refl _⟩
  | d + 1, b, h => by
    rw [bcF]
    by_cases hc : b.2 = 0 ∨ 2 + lenz d + W (a + (d + 4)) < b.1
    · rw [if_pos hc]
      obtain ⟨h1, h2⟩ := bcF_le W a d (2 + lenz d + W (a + (d + 4)), d + 4) (by simp)
      refine ⟨h1, Nat.le_trans h2 ?_⟩
      rcases hc with h3 | h3
      · exact absurd h3 h
      · exact Nat.le_of_lt h3
    · rw [if_neg hc]
      exact bcF_le W a d b h
theorem bcF_min (W : Nat → Nat) (a : Nat) : ∀ (d : Nat) (b : Nat × Nat) (m : Nat), 4 ≤ m → m ≤ d + 3 → (bcF W a d b).2 ≠ 0 ∧ (bcF W a d b).1 ≤ 2 + lenz (m - 4) + W (a + m)
  | 0, b, m, h1, h2 => by omega
  | d + 1, b, m, h1, h2 => by
    by_cases e : m = d + 4
    · subst e
      rw [show d + 4 - 4 = d by omega, bcF]
      by_cases hc : b.2 = 0 ∨ 2 + lenz d + W (a + (d + 4)) < b.1
      · rw [if_pos hc]
        exact bcF_le W a d _ (by simp)
      · rw [if_neg hc]
        have h3 : b.2 ≠ 0 := fun h => hc (.inl h)
        have h4 : ¬ 2 + lenz d + W (a + (d + 4)) < b.1 := fun h => hc (.inr h)
        obtain ⟨h5, h6⟩ := bcF_le W a d b h3
        exact ⟨h5, by omega⟩
    · rw [bcF]
      exact bcF_min W a d _ m h1 (by omega)
def BcEq (W : Nat → Nat) (a : Nat) (b : Nat × Nat) : Prop := b.2 = 0 ∨ (4 ≤ b.2 ∧ b.1 = 2 + lenz (b.2 - 4) + W (a + b.2))
theorem bcF_eq (W : Nat → Nat) (a : Nat) : ∀ (d : Nat) (b : Nat × Nat), BcEq W a b → BcEq W a (bcF W a d b)
  | 0, b, h => h
  | d + 1, b, h => by
    rw [bcF]
    refine bcF_eq W a d _ ?_
    split
    · right
      refine ⟨by simp only; omega, ?_⟩
      simp only
      rw [show d + 4 - 4 = d by omega]
    · exact h
theorem bwF_min (C : Nat → Nat × Nat) (a : Nat) : ∀ (d : Nat) (b : Nat × Nat × Nat) (p : Nat), p < d → 0 < (C (a + p)).2 → (bwF C a d b).1 ≤ 1 + lenz p + p + (C (a + p)).1
  | 0, b, p, h, _ => by omega
  | d + 1, b, p, h, h0 => by
    rw [bwF]
    by_cases e : p = d
    · subst e
      refine Nat.le_trans (bwF_cost C a p _) ?_
      by_cases hc : 0 < (C (a + p)).2 ∧ 1 + lenz p + p + (C (a + p)).1 ≤ b.1
      · rw [if_pos hc]
        exact Nat.le_refl _
      · rw [if_neg hc]
        have : ¬ 1 + lenz p + p + (C (a + p)).1 ≤ b.1 := fun h => hc ⟨h0, h⟩
        omega
    · exact bwF_min C a d _ p (by omega) h0
def BwEq (C : Nat → Nat × Nat) (a left : Nat) (b : Nat × Nat × Nat) : Prop := (b.2.2 = 0 ∧ b.1 = 1 + lenz left + left) ∨ (b.2.2 ≠ 0 ∧ b.2.2 = (C (a + b.2.1)).2 ∧ b.1 = 1 + lenz b.2.1 + b.2.1 + (C (a + b.2.1)).1)
theorem bwF_eq (C : Nat → Nat × Nat) (a left : Nat) : ∀ (d : Nat) (b : Nat × Nat × Nat), BwEq C a left b → BwEq C a left (bwF C a d b)
  | 0, b, h => h
  | d + 1, b, h => by
    rw [bwF]
    refine bwF_eq C a left d _ ?_
    split
    · rename_i hc
      right
      exact ⟨by simp only; omega, rfl, rfl⟩
    · exact h
/-- the tables at places -/
def wv (n : Nat) (R : Nat → Nat) (x : Nat) : Nat × Nat × Nat := (tab n R (n + 1)).2.getD x (0, 0, 0)
def cv (n : Nat) (R : Nat → Nat) (x : Nat) : Nat × Nat := (tab n R (n + 1)).1.getD x (0, 0)
theorem tab_at (n : Nat) (R : Nat → Nat) : ∀ (j k : Nat), k + j = n + 1 → ∀ x, n + 1 - k ≤ x → (tab n R k).2.getD (x - (n + 1 - k)) (0, 0, 0) = wv n R x ∧ (tab n R k).1.getD (x - (n + 1 - k)) (0, 0) = cv n R x
  | 0, k, h, x, hx => by
    obtain rfl : k = n + 1 := by omega
    rw [Nat.sub_self, Nat.sub_zero]
    exact ⟨rfl, rfl⟩
  | j + 1, k, h, x, hx => by
    have ih := tab_at n R j (k + 1) (by omega) x (by omega)
    rw [show x - (n + 1 - (k + 1)) = (x - (n + 1 - k)) + 1 by omega] at ih
    exact ih
theorem cv_eq (n : Nat) (R : Nat → Nat) (a : Nat) (ha : a ≤ n) : cv n R a = bcF (fun x => (wv n R x).1) a (R a - 3) (0, 0) := by
  have h := (tab_at n R a (n - a + 1) (by omega) a (by omega)).2
  rw [← h, show a - (n + 1 - (n - a + 1)) = 0 by omega]
  show bcF (fun x => ((tab n R (n - a)).2.getD (x - (n - (n - a)) - 1) (0, 0, 0)).1) (n - (n - a)) (R (n - (n - a)) - 3) (0, 0) = _
  rw [show n - (n - a) = a by omega]
  refine Go.Proofs.Ytchjmhgalbkjkaa.bcF_congr _ _ _ (fun x hx => ?_) _ _
  have := (tab_at n R (a + 1) (n - a) (by omega) x (by omega)).1
  rw [show x - (n + 1 - (n - a)) = x - a - 1 by omega] at this
  simp only [this]
theorem wv_eq (n : Nat) (R : Nat → Nat) (a : Nat) (ha : a ≤ n) : wv n R a = bwF (cv n R) a (n - a - 11) (1 + lenz (n - a) + (n - a), n - a, 0) := by
  have h := (tab_at n R a (n - a + 1) (by omega) a (by omega)).1
  rw [← h, show a - (n + 1 - (n - a + 1)) = 0 by omega]
  show bwF (fun x => ((tab n R (n - a + 1)).1).getD (x - (n - (n - a))) (0, 0)) (n - (n - a)) (n - (n - (n - a)) - 11) (1 + lenz (n - (n - (n - a))) + (n - (n - (n - a))), n - (n - (n - a)), 0) = _
  rw [show n - (n - a) = a by omega]
  refine Go.Proofs.Ytchjmhgalbkjkaa.bwF_congr _ _ _ (fun x hx => ?_) _ _
  have := (tab_at n R a (n - a + 1) (by omega) x (by omega)).2
  rw [show x - (n + 1 - (n - a + 1)) = x - a by omega] at this
  exact this
/-- no way on is cheaper -/
theorem wv_end (n : Nat) (R : Nat → Nat) (a : Nat) (ha : a ≤ n) : (wv n R a).1 ≤ 1 + lenz (n - a) + (n - a) := by
  rw [wv_eq n R a ha]
  exact bwF_cost _ _ _ _
theorem wv_step (n : Nat) (R : Nat → Nat) (a p m : Nat) (hap : a ≤ p) (hp : p + 12 ≤ n) (h4 : 4 ≤ m) (hm : m ≤ R p) : (wv n R a).1 ≤ 1 + lenz (p - a) + (p - a) + 2 + lenz (m - 4) + (wv n R (p + m)).1 := by
  obtain ⟨h1, h2⟩ := bcF_min (fun x => (wv n R x).1) p (R p - 3) (0, 0) m h4 (by omega)
  rw [← cv_eq n R p (by omega)] at h1 h2
  have h3 := bwF_min (cv n R) a (n - a - 11) (1 + lenz (n - a) + (n - a), n - a, 0) (p - a) (by omega) (by rw [show a + (p - a) = p by omega]; omega)
  rw [← wv_eq n R a (by omega), show a + (p - a) = p by omega] at h3
  omega
theorem packed_len_nil (bs : List Nat) (i : Nat) (hi : i ≤ bs.length) : (packed bs i []).length = 1 + lenz (bs.length - i) + (bs.length - i) := by
  rw [packed]
  simp only [lits, List.length_cons, List.length_append, Go.Proofs.Ytchjmhgalbkjkaa.lenb_lenz, List.length_drop]
  omega
theorem packed_len_cons (bs : List Nat) (i : Nat) (c : Cp) (l : List Cp) (h1 : i ≤ c.at_) (h2 : c.at_ ≤ bs.length) : (packed bs i (c :: l)).length = 1 + lenz (c.at_ - i) + (c.at_ - i) + 2 + lenz (c.cnt - 4) + (packed bs (c.at_ + c.cnt) l).length := by
  rw [packed]
  simp only [lits, List.length_cons, List.length_append, Go.Proofs.Ytchjmhgalbkjkaa.lenb_lenz, lit_len bs i c.at_ h1 h2, List.length_nil]
  omega
/-- how long a copy may be at most is what is reached -/
theorem rch_max (bs : List Nat) : ∀ (o a off : Nat), 1 ≤ off → off ≤ o → off ≤ a → a + 12 ≤ bs.length → 4 ≤ agree bs (a - off) a → agree bs (a - off) a ≤ rch bs o a
  | 0, a, off, h1, h2, _, _, _ => by omega
  | o + 1, a, off, h1, h2, h3, h4, h5 => by
    rw [rch]
    by_cases e : off = o + 1
    · subst e
      rw [if_pos ⟨h3, h5, h4⟩]
      exact Nat.le_max_right _ _
    · have ih := rch_max bs o a off h1 (by omega) h3 h4 h5
      split
      · exact Nat.le_trans ih (Nat.le_max_left _ _)
      · exact ih
theorem common_ge : ∀ (l m : List Nat) (k : Nat), k ≤ l.length → k ≤ m.length → (∀ j, j < k → l.getD j 0 = m.getD j 0) → k ≤ common l m
  | _, _, 0, _, _, _ => Nat.zero_le _
  | [], _, k + 1, h, _, _ => by simp at h
  | _ :: _, [], k + 1, _, h, _ => by simp at h
  | a :: l, b :: m, k + 1, h1, h2, h3 => by
    have h0 := h3 0 (by omega)
    simp at h0
    subst h0
    have ih := common_ge l m k (by simpa using h1) (by simpa using h2) (fun j hj => by simpa using h3 (j + 1) (by omega))
    rw [common, if_pos rfl]
    omega
theorem agree_ge (bs : List Nat) (c p k : Nat) (hk : p + k + 5 ≤ bs.length) (hc : c ≤ p) (h : ∀ j, j < k → bs.getD (p + j) 0 = bs.getD (c + j) 0) : k ≤ agree bs c p := by
  unfold agree
  refine common_ge _ _ k (by simp; omega) (by simp; omega) (fun j hj => ?_)
  have := h j hj
  simp only [List.getD_eq_getElem?_getD, List.getElem?_drop, List.getElem?_take] at this ⊢
  rw [if_pos (by omega)]
  exact this
/-- no packing by true copies is cheaper -/
theorem wv_tru (bs : List Nat) : ∀ (l : List Cp) (i : Nat), tru bs i l → i ≤ bs.length → (wv bs.length (rch bs (bs.length - 1)) i).1 ≤ (packed bs i l).length
  | [], i, _, hi => by
    rw [packed_len_nil bs i hi]
    exact wv_end _ _ i hi
  | c :: l, i, ⟨h1, h2, h3⟩, hi => by
    obtain ⟨t1, t2, t3, t4, t5, t6, t7⟩ := h2
    have ih := wv_tru bs l (c.at_ + c.cnt) h3 (by omega)
    have hag : c.cnt ≤ agree bs (c.at_ - c.off) c.at_ := agree_ge bs _ _ _ (by omega) (by omega) (fun j hj => by rw [t7 j hj]; congr 1; omega)
    have hr := rch_max bs (bs.length - 1) c.at_ c.off t2 (by omega) t4 t5 (by omega)
    have hs := wv_step bs.length (rch bs (bs.length - 1)) i c.at_ c.cnt h1 t5 t1 (by omega)
    rw [packed_len_cons bs i c l h1 (by omega)]
    omega
/-- that of the level 3 costs just so much -/
theorem unr_cost (bs : List Nat) (R : Nat → Nat) (hR : ∀ x, R x ≤ bs.length - 5 - x) : ∀ (f a : Nat), bs.length < a + f → a ≤ bs.length → (packed bs a (unrF bs (tab bs.length R (bs.length + 1)).2 f a)).length = (wv bs.length R a).1
  | 0, a, h, ha => by omega
  | f + 1, a, h, ha => by
    have hb := bwF_eq (cv bs.length R) a (bs.length - a) (bs.length - a - 11) (1 + lenz (bs.length - a) + (bs.length - a), bs.length - a, 0) (.inl ⟨rfl, rfl⟩)
    have hk := bwF_ok (cv bs.length R) a bs.length (bs.length - a - 11) (1 + lenz (bs.length - a) + (bs.length - a), bs.length - a, 0) (by omega) (.inl rfl)
    rw [← wv_eq bs.length R a ha] at hb hk
    unfold unrF
    have hw : (tab bs.length R (bs.length + 1)).2.getD a (0, 0, 0) = wv bs.length R a := rfl
    simp only [hw]
    obtain ⟨w, hwe⟩ : ∃ w, wv bs.length R a = w := ⟨_, rfl⟩
    rw [hwe] at hb hk ⊢
    rcases hb with ⟨h1, h2⟩ | ⟨h1, h2, h3⟩
    · rw [if_pos h1, packed_len_nil bs a ha, h2]
    · rw [if_neg h1]
      rcases hk with hk | ⟨k1, k2⟩
      · exact absurd hk h1
      · have hc := bcF_eq (fun x => (wv bs.length R x).1) (a + w.2.1) (R (a + w.2.1) - 3) (0, 0) (.inl rfl)
        have hcm := bcF_ok (fun x => (wv bs.length R x).1) (a + w.2.1) (R (a + w.2.1)) (R (a + w.2.1) - 3) (0, 0) (by omega) (.inl rfl)
        rw [← cv_eq bs.length R (a + w.2.1) (by omega)] at hc hcm
        have hr := hR (a + w.2.1)
        rcases hc with hc | ⟨c1, c2⟩
        · omega
        · rcases hcm with hcm | ⟨m1, m2⟩
          · omega
          · rw [packed_len_cons bs a _ _ (by simp only; omega) (by simp only; omega)]
            simp only
            rw [unr_cost bs R hR f _ (by omega) (by omega), h3, c2, ← h2]
            simp only
            rw [show a + w.2.1 - a = w.2.1 by omega]
            omega
end Lz
