/-
  Plain facts on lines: where each begins, and that lines and feeds are the text again. No Go in sight.
-/
import Derived.Test.YthooefogbbnbaaaDoorWordsE
import Derived.Test.YthooefogbbnbaaaDoorSumD
namespace Swar
theorem idx_char (s : ByteArray) (c : Nat) : ∀ k a, s.size - a = k → (idxL s c a = -1 ∧ ∀ i, a ≤ i → i < s.size → bt s i ≠ c) ∨ (∃ e, idxL s c a = ((e : Nat) : Int) ∧ a ≤ e ∧ e < s.size ∧ bt s e = c ∧ ∀ i, a ≤ i → i < e → bt s i ≠ c)
  | 0, a, h => .inl ⟨idx_out s c a (by omega), fun i h1 h2 => by omega⟩
  | k + 1, a, h => by
    have hs := idx_step s c a (by omega)
    by_cases hb : bt s a = c
    · rw [if_pos hb] at hs
      exact .inr ⟨a, hs, Nat.le_refl _, by omega, hb, fun i h1 h2 => by omega⟩
    · rw [if_neg hb] at hs
      rcases idx_char s c k (a + 1) (by omega) with ⟨h1, h2⟩ | ⟨e, h1, h2, h3, h4, h5⟩
      · refine .inl ⟨hs.trans h1, fun i g1 g2 => ?_⟩
        by_cases hi : i = a
        · subst hi; exact hb
        · exact h2 i (by omega) g2
      · refine .inr ⟨e, hs.trans h1, by omega, h3, h4, fun i g1 g2 => ?_⟩
        by_cases hi : i = a
        · subst hi; exact hb
        · exact h5 i (by omega) g2
def endOf (s : ByteArray) (a : Nat) : Nat := if idxL s 10 a < 0 then s.size else (idxL s 10 a).toNat
theorem end_char (s : ByteArray) (a : Nat) (h : a ≤ s.size) : a ≤ endOf s a ∧ endOf s a ≤ s.size ∧ (∀ i, a ≤ i → i < endOf s a → bt s i ≠ 10) ∧ (endOf s a < s.size → bt s (endOf s a) = 10) := by
  unfold endOf
  rcases idx_char s 10 _ a rfl with ⟨h1, h2⟩ | ⟨e, h1, h2, h3, h4, h5⟩
  · rw [h1, if_pos (by omega)]
    exact ⟨h, Nat.le_refl _, h2, fun g => by omega⟩
  · rw [h1, if_neg (by omega), Int.toNat_natCast]
    exact ⟨h2, by omega, h5, fun _ => h4⟩
def linesF (s : ByteArray) : Nat → Nat → List (Nat × ByteArray)
  | 0, _ => []
  | f + 1, a => if a < s.size then (a, s.extract a (endOf s a)) :: linesF s f (endOf s a + 1) else []
def joined (l : List (Nat × ByteArray)) : List Nat := l.flatMap fun x => Sums.bl x.2 ++ [10]
theorem joined_cons (x : Nat × ByteArray) (l : List (Nat × ByteArray)) : joined (x :: l) = Sums.bl x.2 ++ [10] ++ joined l := by simp [joined]
theorem joined_snoc (l : List (Nat × ByteArray)) (x : Nat × ByteArray) : joined (l ++ [x]) = joined l ++ (Sums.bl x.2 ++ [10]) := by simp [joined]
theorem ext_len (s : ByteArray) (a e : Nat) (h1 : a ≤ e) (h2 : e ≤ s.size) : (s.extract a e).size = e - a := by rw [ByteArray.size_extract]; omega
theorem bt_ext (s : ByteArray) (a e i : Nat) (h2 : e ≤ s.size) (hi : a + i < e) : bt (s.extract a e) i = bt s (a + i) := by
  have h1 : i < (s.extract a e).size := by rw [ext_len s a e (by omega) h2]; omega
  rw [bt_in h1, bt_in (show a + i < s.size by omega), ByteArray.getElem_extract]
theorem no_feed (s : ByteArray) (a : Nat) (h : a ≤ s.size) : idxL (s.extract a (endOf s a)) 10 0 = -1 := by
  obtain ⟨h1, h2, h3, _⟩ := end_char s a h
  rcases idx_char (s.extract a (endOf s a)) 10 _ 0 rfl with ⟨g, _⟩ | ⟨e, _, _, g3, g4, _⟩
  · exact g
  · rw [ext_len s a _ h1 h2] at g3
    rw [bt_ext s a _ e h2 (by omega)] at g4
    exact (h3 (a + e) (by omega) (by omega) g4).elim
theorem lines_pre (s : ByteArray) : ∀ (f a : Nat) (q : List (Nat × ByteArray)) (x : Nat × ByteArray), q ++ [x] <+: linesF s f a → x.1 = a + (joined q).length ∧ idxL x.2 10 0 = -1 ∧ a + q.length + 1 ≤ s.size
  | 0, a, q, x, h => by
    have := List.prefix_nil.1 h
    simp at this
  | f + 1, a, q, x, h => by
    rw [linesF] at h
    by_cases ha : a < s.size
    · rw [if_pos ha] at h
      obtain ⟨h1, h2, _⟩ := end_char s a (by omega)
      cases q with
      | nil =>
        obtain ⟨t, ht⟩ := h
        simp at ht
        obtain ⟨rfl, _⟩ := ht
        refine ⟨by simp [joined], no_feed s a (by omega), by simp; omega⟩
      | cons y q =>
        rw [List.cons_append, List.cons_prefix_cons] at h
        obtain ⟨rfl, h⟩ := h
        obtain ⟨g1, g2, g3⟩ := lines_pre s f _ q x h
        refine ⟨?_, g2, by simp; omega⟩
        rw [g1, joined_cons]
        simp only [List.length_append, List.length_cons, List.length_nil, Sums.bl_length]
        rw [ext_len s a _ h1 h2]
        omega
    · rw [if_neg ha] at h
      have := List.prefix_nil.1 h
      simp at this
theorem cnt_none (s : ByteArray) (c p : Nat) : ∀ k, (∀ i, p ≤ i → i < p + k → bt s i ≠ c) → cntL s c (p + k) = cntL s c p
  | 0, _ => rfl
  | k + 1, h => by
    rw [show p + (k + 1) = (p + k) + 1 by omega, cnt_step, if_neg (h (p + k) (by omega) (by omega)), cnt_none s c p k (fun i h1 h2 => h i h1 (by omega))]
    rfl
theorem bl_drop_cons (s : ByteArray) (e : Nat) (h : e < s.size) : (Sums.bl s).drop e = bt s e :: (Sums.bl s).drop (e + 1) := by
  have hl := Sums.bl_length s
  rw [List.drop_eq_getElem_cons (by omega)]
  congr 1
  have := Sums.bl_get s e h
  rw [bt_in h, ← this]
  simp [List.getD, show e < (Sums.bl s).length by omega]
theorem bl_ext_drop (s : ByteArray) (a e : Nat) (h1 : a ≤ e) (h2 : e ≤ s.size) : (Sums.bl s).drop a = Sums.bl (s.extract a e) ++ (Sums.bl s).drop e := by
  have hl := Sums.bl_length s
  rw [Sums.bl_extract]
  conv => lhs; rw [← List.take_append_drop e (Sums.bl s)]
  rw [List.drop_append_of_le_length (by simp; omega)]
def tailOf (s : ByteArray) (a : Nat) : Nat := if a < s.size ∧ bt s (s.size - 1) ≠ 10 then 1 else 0
theorem lines_all (s : ByteArray) : ∀ (f a : Nat), s.size < a + f → joined (linesF s f a) = (Sums.bl s).drop a ++ List.replicate (tailOf s a) 10 ∧ (a ≤ s.size → (linesF s f a).length + cntL s 10 a = cntL s 10 s.size + tailOf s a)
  | 0, a, h => by
    refine ⟨?_, fun g => by omega⟩
    simp [linesF, joined, tailOf, show ¬ a < s.size by omega]
    rw [Sums.bl_length]
    omega
  | f + 1, a, h => by
    rw [linesF]
    by_cases ha : a < s.size
    · rw [if_pos ha]
      obtain ⟨h1, h2, h3, h4⟩ := end_char s a (by omega)
      obtain ⟨i1, i2⟩ := lines_all s f (endOf s a + 1) (by omega)
      obtain ⟨e, he⟩ : ∃ e, endOf s a = e := ⟨_, rfl⟩
      rw [he] at h1 h2 h3 h4 i1 i2 ⊢
      have hc : cntL s 10 e = cntL s 10 a := by
        have := cnt_none s 10 a (e - a) (fun i g1 g2 => h3 i g1 (by omega))
        rwa [show a + (e - a) = e by omega] at this
      by_cases hee : e < s.size
      · have hb := h4 hee
        have ht : tailOf s (e + 1) = tailOf s a := by
          unfold tailOf
          by_cases hl : e + 1 < s.size
          · simp [hl, ha]
          · have : s.size - 1 = e := by omega
            simp [this, hb]
        constructor
        · rw [joined_cons, i1, ht, bl_ext_drop s a e h1 h2, bl_drop_cons s e hee, hb]
          simp
        · intro _
          have := i2 (by omega)
          rw [cnt_step, if_pos hb, ht] at this
          simp only [List.length_cons]
          omega
      · obtain rfl : e = s.size := by omega
        have hlast : bt s (s.size - 1) ≠ 10 := h3 _ (by omega) (by omega)
        have hn : linesF s f (s.size + 1) = [] := by
          cases f with
          | zero => rfl
          | succ f => rw [linesF, if_neg (by omega)]
        constructor
        · rw [hn, joined_cons, bl_ext_drop s a s.size h1 h2]
          simp [joined, tailOf, ha, hlast]
          rw [Sums.bl_length]
          exact Nat.le_refl _
        · intro _
          rw [hn]
          simp [tailOf, ha, hlast]
          omega
    · rw [if_neg ha]
      refine ⟨?_, fun g => ?_⟩
      · simp [joined, tailOf, ha]
        rw [Sums.bl_length]
        omega
      · have : a = s.size := by omega
        subst this
        simp [tailOf]
end Swar
