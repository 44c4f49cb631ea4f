/-
  Plain facts on a text and the same text turned: places and counts. No Go in sight.
-/
import Derived.Test.YthiabdpihnjkcaaDoorWordsF
import Derived.Test.YthiabdpihnjkcaaDoorWordsH
namespace Swar
theorem bck_none (P : Nat → Bool) (n : Nat) (h : ∀ i, i < n → P i = false) : bck P n = -1 := by
  have := bck_skip P n 0 (fun i _ h2 => h i (by omega))
  rw [Nat.zero_add] at this
  exact this
/-- the last place is the first one of the text turned -/
theorem mirror (s r : ByteArray) (c m : Nat) (hr : r.size = s.size) (hb : ∀ i, i < s.size → bt r i = bt s (s.size - 1 - i)) (hm : m ≤ s.size) :
    (idxL r c (s.size - m) = -1 ∧ lstL s c m = -1) ∨ ∃ p q : Nat, p < s.size ∧ idxL r c (s.size - m) = (p : Int) ∧ lstL s c m = (q : Int) ∧ q = s.size - 1 - p := by
  unfold idxL lstL
  rw [hr, show s.size - (s.size - m) = m by omega]
  rcases fnd_spec (fun p => bt r p == c) m (s.size - m) with ⟨h, h2⟩ | ⟨i, hi, h, h1, h2⟩
  · refine .inl ⟨h, bck_none _ _ (fun i hi => ?_)⟩
    have := h2 (m - 1 - i) (by omega)
    rw [hb _ (by omega), show s.size - 1 - (s.size - m + (m - 1 - i)) = i by omega] at this
    exact this
  · refine .inr ⟨s.size - m + i, m - 1 - i, by omega, h, ?_, by omega⟩
    have e : m = (m - 1 - i + 1) + i := by omega
    have hs := bck_skip (fun p => bt s p == c) i (m - 1 - i + 1) (fun j j1 j2 => by
      have := h2 (m - 1 - j) (by omega)
      rw [hb _ (by omega), show s.size - 1 - (s.size - m + (m - 1 - j)) = j by omega] at this
      exact this)
    rw [← e] at hs
    rw [hs]
    refine bck_hit _ _ ?_
    rw [hb _ (by omega), show s.size - 1 - (s.size - m + i) = m - 1 - i by omega] at h1
    exact h1
theorem cnt_skip (s : ByteArray) (c p : Nat) : ∀ k, (∀ i, p ≤ i → i < p + k → bt s i ≠ c) → cntL s c (p + k) = cntL s c p
  | 0, _ => rfl
  | k + 1, h => by
      rw [show p + (k + 1) = (p + k) + 1 by omega, cnt_step, if_neg (h _ (by omega) (by omega)), cnt_skip s c p k (fun i h1 h2 => h i h1 (by omega))]
      omega
/-- one goes on from a place: the next one, and one more was counted; or none is left -/
theorem next_one (s : ByteArray) (c p : Nat) (hp : p ≤ s.size) :
    (idxL s c p = -1 ∧ cntL s c s.size = cntL s c p) ∨ ∃ q : Nat, p ≤ q ∧ q < s.size ∧ idxL s c p = (q : Int) ∧ bt s q = c ∧ cntL s c (q + 1) = cntL s c p + 1 := by
  unfold idxL
  rcases fnd_spec (fun p => bt s p == c) (s.size - p) p with ⟨h, h2⟩ | ⟨i, hi, h, h1, h2⟩
  · refine .inl ⟨h, ?_⟩
    have := cnt_skip s c p (s.size - p) (fun i h3 h4 => by
      have := h2 (i - p) (by omega)
      rw [show p + (i - p) = i by omega] at this
      simpa using this)
    rwa [show p + (s.size - p) = s.size by omega] at this
  · have h1' : bt s (p + i) = c := by simpa using h1
    refine .inr ⟨p + i, by omega, by omega, h, h1', ?_⟩
    have := cnt_skip s c p i (fun j h3 h4 => by
      have := h2 (j - p) (by omega)
      rw [show p + (j - p) = j by omega] at this
      simpa using this)
    rw [cnt_step, if_pos h1', this]
theorem cnt_app (s t : ByteArray) (c : Nat) : ∀ k, cntL (s ++ t) c (s.size + k) = cntL s c s.size + cntL t c k
  | 0 => by
      rw [Nat.add_zero, cnt_0, Nat.add_zero]
      unfold cntL
      refine List.countP_congr (fun p hp => ?_)
      rw [bt_app, if_pos (by simpa using hp)]
  | k + 1 => by
      have e : bt (s ++ t) (s.size + k) = bt t k := by rw [bt_app, if_neg (by omega), Nat.add_sub_cancel_left]
      rw [show s.size + (k + 1) = (s.size + k) + 1 by omega, cnt_step, cnt_app s t c k, cnt_step, e]
      omega
theorem cnt_rev (s r : ByteArray) (c : Nat) (hr : r.size = s.size) (hb : ∀ i, i < s.size → bt r i = bt s (s.size - 1 - i)) : cntL r c r.size = cntL s c s.size := by
  unfold cntL
  rw [hr]
  have e : (List.range s.size).countP (fun p => bt s p == c) = ((List.range' 0 s.size).reverse).countP (fun p => bt s p == c) := by
    rw [List.countP_reverse, List.range_eq_range']
  rw [e, List.reverse_range', List.countP_map]
  refine List.countP_congr (fun p hp => ?_)
  have hp' : p < s.size := by simpa using hp
  simp only [Function.comp]
  rw [hb p hp', Nat.zero_add]
theorem cnt_more (s t : ByteArray) (c : Nat) (h1 : t.size = 1) (h0 : bt t 0 = c) : cntL (s ++ t) c (s ++ t).size = cntL s c s.size + 1 := by
  have e : (s ++ t).size = s.size + 1 := by simp [h1]
  rw [e, cnt_app s t c 1, show (1 : Nat) = 0 + 1 from rfl, cnt_step, if_pos h0, cnt_0]
/-- one of two bytes stands first where one of them does -/
theorem first_of_two (s : ByteArray) (b c : Nat) : ∀ k f, fnd (fun p => decide (bt s p ∈ [b, c])) f k =
    if fnd (fun p => bt s p == b) f k < 0 ∨ (0 ≤ fnd (fun p => bt s p == c) f k ∧ fnd (fun p => bt s p == c) f k < fnd (fun p => bt s p == b) f k) then fnd (fun p => bt s p == c) f k else fnd (fun p => bt s p == b) f k
  | 0, f => by simp [fnd]
  | k + 1, f => by
      have ih := first_of_two s b c k (f + 1)
      have b1 := fnd_spec (fun p => bt s p == b) k (f + 1)
      have b2 := fnd_spec (fun p => bt s p == c) k (f + 1)
      have l1 : fnd (fun p => bt s p == b) (f + 1) k = -1 ∨ (f : Int) < fnd (fun p => bt s p == b) (f + 1) k := by
        rcases b1 with ⟨h, _⟩ | ⟨i, _, h, _⟩
        · exact .inl h
        · exact .inr (by rw [h]; omega)
      have l2 : fnd (fun p => bt s p == c) (f + 1) k = -1 ∨ (f : Int) < fnd (fun p => bt s p == c) (f + 1) k := by
        rcases b2 with ⟨h, _⟩ | ⟨i, _, h, _⟩
        · exact .inl h
        · exact .inr (by rw [h]; omega)
      by_cases hb : bt s f = b
      · by_cases hc : bt s f = c
        · simp [fnd, hb, ← hc]
        · simp only [fnd, hb, List.mem_cons, true_or, decide_true, if_true, beq_self_eq_true]
          have hc' : (b == c) = false := by simp; intro h; exact hc (by omega)
          rw [hc']
          simp only [Bool.false_eq_true, if_false]
          rw [if_neg (by omega)]
      · by_cases hc : bt s f = c
        · simp only [fnd, hc, List.mem_cons, true_or, or_true, decide_true, if_true, beq_self_eq_true]
          have hcb : (c == b) = false := by simp; intro h; exact hb (by omega)
          rw [hcb]
          simp only [Bool.false_eq_true, if_false]
          rw [if_pos (by omega)]
        · have hb' : (bt s f == b) = false := by simpa using hb
          have hc' : (bt s f == c) = false := by simpa using hc
          have hd : decide (bt s f ∈ [b, c]) = false := by simp [hb, hc]
          simp only [fnd, hb', hc', hd, Bool.false_eq_true, if_false]
          exact ih
end Swar
