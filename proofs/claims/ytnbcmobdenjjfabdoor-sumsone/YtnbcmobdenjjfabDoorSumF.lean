/-
  One byte that is another one is told by XX32: no Go in sight. No conditions but those that each fact names.
-/
import Derived.Test.YtnbcmobdenjjfabDoorSumC
namespace Sums
theorem getD_set (l : List Nat) (i b j : Nat) (hi : i < l.length) : (l.set i b).getD j 0 = if i = j then b else l.getD j 0 := by
  rw [List.getD_eq_getElem?_getD, List.getElem?_set, List.getD_eq_getElem?_getD]
  by_cases e : i = j
  · subst e; simp [hi]
  · simp [e]
theorem w4_set (l : List Nat) (i b : Nat) (hi : i < l.length) (h4 : i < 4) (h : w4 l = w4 (l.set i b)) : l.getD i 0 = b := by
  unfold w4 at h
  rw [getD_set l i b 0 hi, getD_set l i b 1 hi, getD_set l i b 2 hi, getD_set l i b 3 hi] at h
  obtain rfl | rfl | rfl | rfl : i = 0 ∨ i = 1 ∨ i = 2 ∨ i = 3 := by omega
  · rw [if_pos rfl, if_neg (by decide), if_neg (by decide), if_neg (by decide)] at h; omega
  · rw [if_neg (by decide), if_pos rfl, if_neg (by decide), if_neg (by decide)] at h; omega
  · rw [if_neg (by decide), if_neg (by decide), if_pos rfl, if_neg (by decide)] at h; omega
  · rw [if_neg (by decide), if_neg (by decide), if_neg (by decide), if_pos rfl] at h; omega
theorem w4_far (l : List Nat) (i b : Nat) (hi : i < l.length) (h4 : 4 ≤ i) : w4 (l.set i b) = w4 l := by
  unfold w4
  rw [getD_set l i b 0 hi, getD_set l i b 1 hi, getD_set l i b 2 hi, getD_set l i b 3 hi, if_neg (by omega), if_neg (by omega), if_neg (by omega), if_neg (by omega)]
theorem drop_set_lt (l : List Nat) (i b k : Nat) (h : i < k) : (l.set i b).drop k = l.drop k := by
  apply List.ext_getElem?
  intro j
  rw [List.getElem?_drop, List.getElem?_drop, List.getElem?_set_ne (by omega)]
theorem drop_set_ge (l : List Nat) (i b k : Nat) (h : k ≤ i) : (l.set i b).drop k = (l.drop k).set (i - k) b := by
  apply List.ext_getElem?
  intro j
  rw [List.getElem?_drop, List.getElem?_set, List.getElem?_set, List.getElem?_drop, List.length_drop]
  by_cases e : i = k + j
  · have e2 : i - k = j := by omega
    rw [if_pos e, if_pos e2]
    by_cases hl : i < l.length
    · rw [if_pos hl, if_pos (by omega)]
    · rw [if_neg hl, if_neg (by omega)]
  · rw [if_neg e, if_neg (by omega)]
theorem getD_drop' (l : List Nat) (k j : Nat) : (l.drop k).getD j 0 = l.getD (k + j) 0 := by
  rw [List.getD_eq_getElem?_getD, List.getElem?_drop, List.getD_eq_getElem?_getD]
theorem byt_drop {l : List Nat} (h : ∀ x ∈ l, x < 256) (k : Nat) : ∀ x ∈ l.drop k, x < 256 := fun x hx => h x (List.mem_of_mem_drop hx)
theorem byt_set {l : List Nat} (h : ∀ x ∈ l, x < 256) (i : Nat) {b : Nat} (hb : b < 256) : ∀ x ∈ l.set i b, x < 256 := fun x hx => by
  rcases List.mem_or_eq_of_mem_set hx with h1 | h1
  · exact h x h1
  · rw [h1]; exact hb
theorem bytes_num (l : List Nat) {h g : Nat} (hh : h < 4294967296) (hg : g < 4294967296) (e : bytes32 h l = bytes32 g l) : h = g := by
  unfold bytes32 at e
  induction l generalizing h g with
  | nil => exact e
  | cons x l ih =>
      rw [List.foldl_cons, List.foldl_cons] at e
      exact mix1_num x hh hg (ih (mix1_lt _ _) (mix1_lt _ _) e)
theorem bytes_told (l : List Nat) {h : Nat} (i b : Nat) (hi : i < l.length) (hl : ∀ x ∈ l, x < 256) (hb : b < 256) (e : bytes32 h l = bytes32 h (l.set i b)) : l.getD i 0 = b := by
  induction l generalizing h i with
  | nil => simp at hi
  | cons x l ih =>
      have hx := hl x (List.mem_cons_self ..)
      cases i with
      | zero =>
          have e2 : bytes32 (mix1 h x) l = bytes32 (mix1 h b) l := by
            unfold bytes32 at e ⊢
            rw [List.set_cons_zero, List.foldl_cons, List.foldl_cons] at e
            exact e
          have e3 : x = b := mix1_word h (by omega) (by omega) (bytes_num l (mix1_lt _ _) (mix1_lt _ _) e2)
          simpa using e3
      | succ i =>
          have e2 : bytes32 (mix1 h x) l = bytes32 (mix1 h x) (l.set i b) := by
            unfold bytes32 at e ⊢
            rw [List.set_cons_succ, List.foldl_cons, List.foldl_cons] at e
            exact e
          have := ih i (by simpa using hi) (fun y hy => hl y (List.mem_cons_of_mem _ hy)) e2
          simpa using this
theorem tail_num (n : Nat) : ∀ (l : List Nat) (h g : Nat), l.length ≤ n → h < 4294967296 → g < 4294967296 → tail32 h l = tail32 g l → h = g := by
  induction n with
  | zero =>
      intro l h g hn hh hg e
      rw [tail32_end h l (by omega), tail32_end g l (by omega)] at e
      exact bytes_num l hh hg e
  | succ n ih =>
      intro l h g hn hh hg e
      by_cases h4 : 4 ≤ l.length
      · rw [tail32_more h l h4, tail32_more g l h4] at e
        exact mix4_num _ hh hg (ih _ _ _ (by rw [List.length_drop]; omega) (mix4_lt _ _) (mix4_lt _ _) e)
      · rw [tail32_end h l h4, tail32_end g l h4] at e
        exact bytes_num l hh hg e
theorem tail_told (n : Nat) : ∀ (l : List Nat) (h i b : Nat), l.length ≤ n → i < l.length → (∀ x ∈ l, x < 256) → b < 256 → tail32 h l = tail32 h (l.set i b) → l.getD i 0 = b := by
  induction n with
  | zero => intro l h i b hn hi; omega
  | succ n ih =>
      intro l h i b hn hi hl hb e
      by_cases h4 : 4 ≤ l.length
      · rw [tail32_more h l h4, tail32_more h (l.set i b) (by rw [List.length_set]; exact h4)] at e
        by_cases i4 : i < 4
        · rw [drop_set_lt l i b 4 i4] at e
          have e2 := tail_num _ _ _ _ (Nat.le_refl _) (mix4_lt _ _) (mix4_lt _ _) e
          exact w4_set l i b hi i4 (mix4_word h (w4_lt l hl) (w4_lt _ (byt_set hl i hb)) e2)
        · rw [w4_far l i b hi (by omega), drop_set_ge l i b 4 (by omega)] at e
          have := ih (l.drop 4) _ (i - 4) b (by rw [List.length_drop]; omega) (by rw [List.length_drop]; omega) (byt_drop hl 4) hb e
          rw [getD_drop', show 4 + (i - 4) = i by omega] at this
          exact this
      · rw [tail32_end h l h4, tail32_end h (l.set i b) (by rw [List.length_set]; exact h4)] at e
        exact bytes_told l i b hi hl hb e
/-- just one of the four is another one -/
def D (f g : Four) : Prop := (f.a ≠ g.a ∧ f.b = g.b ∧ f.c = g.c ∧ f.d = g.d) ∨ (f.a = g.a ∧ f.b ≠ g.b ∧ f.c = g.c ∧ f.d = g.d) ∨ (f.a = g.a ∧ f.b = g.b ∧ f.c ≠ g.c ∧ f.d = g.d) ∨ (f.a = g.a ∧ f.b = g.b ∧ f.c = g.c ∧ f.d ≠ g.d)
def Lt (f : Four) : Prop := f.a < 4294967296 ∧ f.b < 4294967296 ∧ f.c < 4294967296 ∧ f.d < 4294967296
theorem take_lt (f : Four) (l : List Nat) : Lt (take32 f l) := ⟨lane_lt _ _, lane_lt _ _, lane_lt _ _, lane_lt _ _⟩
theorem take_D (f g : Four) (l : List Nat) (hf : Lt f) (hg : Lt g) (h : D f g) : D (take32 f l) (take32 g l) := by
  obtain ⟨a1, b1, c1, d1⟩ := hf
  obtain ⟨a2, b2, c2, d2⟩ := hg
  unfold take32 D
  rcases h with ⟨x, e2, e3, e4⟩ | ⟨e1, x, e3, e4⟩ | ⟨e1, e2, x, e4⟩ | ⟨e1, e2, e3, x⟩
  · exact Or.inl ⟨fun e => x (lane_num _ a1 a2 e), by rw [e2], by rw [e3], by rw [e4]⟩
  · exact Or.inr (Or.inl ⟨by rw [e1], fun e => x (lane_num _ b1 b2 e), by rw [e3], by rw [e4]⟩)
  · exact Or.inr (Or.inr (Or.inl ⟨by rw [e1], by rw [e2], fun e => x (lane_num _ c1 c2 e), by rw [e4]⟩))
  · exact Or.inr (Or.inr (Or.inr ⟨by rw [e1], by rw [e2], by rw [e3], fun e => x (lane_num _ d1 d2 e)⟩))
theorem sum_one (x y p q r : Nat) (hx : x < 4294967296) (hy : y < 4294967296) (h : (x + p + q + r) % 4294967296 = (y + p + q + r) % 4294967296) : x = y := by omega
theorem merged_D (f g : Four) (hf : Lt f) (hg : Lt g) (h : D f g) : merged32 f ≠ merged32 g := by
  obtain ⟨a1, b1, c1, d1⟩ := hf
  obtain ⟨a2, b2, c2, d2⟩ := hg
  intro e
  rw [merged32, merged32] at e
  rcases h with ⟨x, e2, e3, e4⟩ | ⟨e1, x, e3, e4⟩ | ⟨e1, e2, x, e4⟩ | ⟨e1, e2, e3, x⟩
  · rw [e2, e3, e4] at e
    exact x (rot32_inj 1 (by decide) a1 a2 (sum_one _ _ _ _ _ (rot32_lt 1 _ (by decide) a1) (rot32_lt 1 _ (by decide) a2) e))
  · rw [e1, e3, e4] at e
    have l1 := rot32_lt 7 _ (by decide) b1
    have l2 := rot32_lt 7 _ (by decide) b2
    exact x (rot32_inj 7 (by decide) b1 b2 (by generalize rot32 f.b 7 = X at *; generalize rot32 g.b 7 = Y at *; omega))
  · rw [e1, e2, e4] at e
    have l1 := rot32_lt 12 _ (by decide) c1
    have l2 := rot32_lt 12 _ (by decide) c2
    exact x (rot32_inj 12 (by decide) c1 c2 (by generalize rot32 f.c 12 = X at *; generalize rot32 g.c 12 = Y at *; omega))
  · rw [e1, e2, e3] at e
    have l1 := rot32_lt 18 _ (by decide) d1
    have l2 := rot32_lt 18 _ (by decide) d2
    exact x (rot32_inj 18 (by decide) d1 d2 (by generalize rot32 f.d 18 = X at *; generalize rot32 g.d 18 = Y at *; omega))
theorem rows_D (n : Nat) : ∀ (l : List Nat) (f g : Four), l.length ≤ n → Lt f → Lt g → D f g → (rows32 f l).2 = (rows32 g l).2 ∧ D (rows32 f l).1 (rows32 g l).1 ∧ Lt (rows32 f l).1 ∧ Lt (rows32 g l).1 := by
  induction n with
  | zero => intro l f g hn hf hg hd; rw [rows32_end f l (by omega), rows32_end g l (by omega)]; exact ⟨rfl, hd, hf, hg⟩
  | succ n ih =>
      intro l f g hn hf hg hd
      by_cases h : 16 ≤ l.length
      · rw [rows32_more f l h, rows32_more g l h]
        exact ih _ _ _ (by rw [List.length_drop]; omega) (take_lt f l) (take_lt g l) (take_D f g l hf hg hd)
      · rw [rows32_end f l h, rows32_end g l h]; exact ⟨rfl, hd, hf, hg⟩
theorem w4_drop_same (l : List Nat) (i b k : Nat) (hi : i < l.length) (h : i < k ∨ k + 4 ≤ i) : w4 ((l.set i b).drop k) = w4 (l.drop k) := by
  rcases h with h | h
  · rw [drop_set_lt l i b k h]
  · rw [drop_set_ge l i b k (by omega), w4_far _ _ _ (by rw [List.length_drop]; omega) (by omega)]
theorem w4_drop_told (l : List Nat) (i b k : Nat) (hi : i < l.length) (h1 : k ≤ i) (h2 : i < k + 4) (hb : l.getD i 0 ≠ b) : w4 (l.drop k) ≠ w4 ((l.set i b).drop k) := by
  intro e
  rw [drop_set_ge l i b k h1] at e
  have := w4_set (l.drop k) (i - k) b (by rw [List.length_drop]; omega) (by omega) e
  rw [getD_drop', show k + (i - k) = i by omega] at this
  exact hb this
theorem take_told (f : Four) (l : List Nat) (i b : Nat) (hi : i < l.length) (h16 : i < 16) (hl : ∀ x ∈ l, x < 256) (hb : b < 256) (hne : l.getD i 0 ≠ b) : D (take32 f l) (take32 f (l.set i b)) := by
  have wl : ∀ k, w4 (l.drop k) < 4294967296 := fun k => w4_lt _ (byt_drop hl k)
  have ws : ∀ k, w4 ((l.set i b).drop k) < 4294967296 := fun k => w4_lt _ (byt_drop (byt_set hl i hb) k)
  have d0 : ∀ q : List Nat, q.drop 0 = q := fun q => List.drop_zero
  have t0 : ∀ q : List Nat, take32 f q = ⟨lane f.a (w4 (q.drop 0)), lane f.b (w4 (q.drop 4)), lane f.c (w4 (q.drop 8)), lane f.d (w4 (q.drop 12))⟩ := fun q => by rw [take32, d0]
  rw [t0 l, t0 (l.set i b)]
  unfold D
  by_cases k1 : i < 4
  · refine Or.inl ⟨fun e => w4_drop_told l i b 0 hi (by omega) (by omega) hne (lane_word _ (wl 0) (ws 0) e), ?_, ?_, ?_⟩
    · show lane _ _ = lane _ _; rw [w4_drop_same l i b 4 hi (by omega)]
    · show lane _ _ = lane _ _; rw [w4_drop_same l i b 8 hi (by omega)]
    · show lane _ _ = lane _ _; rw [w4_drop_same l i b 12 hi (by omega)]
  · by_cases k2 : i < 8
    · refine Or.inr (Or.inl ⟨?_, fun e => w4_drop_told l i b 4 hi (by omega) (by omega) hne (lane_word _ (wl 4) (ws 4) e), ?_, ?_⟩)
      · show lane _ _ = lane _ _; rw [w4_drop_same l i b 0 hi (by omega)]
      · show lane _ _ = lane _ _; rw [w4_drop_same l i b 8 hi (by omega)]
      · show lane _ _ = lane _ _; rw [w4_drop_same l i b 12 hi (by omega)]
    · by_cases k3 : i < 12
      · refine Or.inr (Or.inr (Or.inl ⟨?_, ?_, fun e => w4_drop_told l i b 8 hi (by omega) (by omega) hne (lane_word _ (wl 8) (ws 8) e), ?_⟩))
        · show lane _ _ = lane _ _; rw [w4_drop_same l i b 0 hi (by omega)]
        · show lane _ _ = lane _ _; rw [w4_drop_same l i b 4 hi (by omega)]
        · show lane _ _ = lane _ _; rw [w4_drop_same l i b 12 hi (by omega)]
      · refine Or.inr (Or.inr (Or.inr ⟨?_, ?_, ?_, fun e => w4_drop_told l i b 12 hi (by omega) (by omega) hne (lane_word _ (wl 12) (ws 12) e)⟩))
        · show lane _ _ = lane _ _; rw [w4_drop_same l i b 0 hi (by omega)]
        · show lane _ _ = lane _ _; rw [w4_drop_same l i b 4 hi (by omega)]
        · show lane _ _ = lane _ _; rw [w4_drop_same l i b 8 hi (by omega)]
theorem take_same (f : Four) (l : List Nat) (i b : Nat) (hi : i < l.length) (h16 : 16 ≤ i) : take32 f (l.set i b) = take32 f l := by
  rw [take32, take32, w4_far l i b hi (by omega), w4_drop_same l i b 4 hi (by omega), w4_drop_same l i b 8 hi (by omega), w4_drop_same l i b 12 hi (by omega)]
theorem stir_tail (h g n : Nat) (l : List Nat) (hh : h < 4294967296) (hg : g < 4294967296) (e : last32 h n l = last32 g n l) : h = g := by
  have tl : ∀ (m : Nat) (q : List Nat) (x : Nat), q.length ≤ m → x < 4294967296 → tail32 x q < 4294967296 := by
    intro m
    induction m with
    | zero => intro q x hm hx; rw [tail32_end x q (by omega)]; exact bytes32_lt _ _ hx
    | succ m ih =>
        intro q x hm hx
        by_cases h4 : 4 ≤ q.length
        · rw [tail32_more x q h4]; exact ih _ _ (by rw [List.length_drop]; omega) (mix4_lt _ _)
        · rw [tail32_end x q h4]; exact bytes32_lt _ _ hx
  have e2 := stir32_inj (tl _ l _ (Nat.le_refl _) (ml32 _)) (tl _ l _ (Nat.le_refl _) (ml32 _)) e
  exact add32' n hh hg (tail_num _ _ _ _ (Nat.le_refl _) (ml32 _) (ml32 _) e2)
theorem tail32_lt (m : Nat) : ∀ (q : List Nat) (x : Nat), q.length ≤ m → x < 4294967296 → tail32 x q < 4294967296 := by
  induction m with
  | zero => intro q x hm hx; rw [tail32_end x q (by omega)]; exact bytes32_lt _ _ hx
  | succ m ih =>
      intro q x hm hx
      by_cases h4 : 4 ≤ q.length
      · rw [tail32_more x q h4]; exact ih _ _ (by rw [List.length_drop]; omega) (mix4_lt _ _)
      · rw [tail32_end x q h4]; exact bytes32_lt _ _ hx
theorem last_told (h n : Nat) (l : List Nat) (i b : Nat) (hi : i < l.length) (hl : ∀ x ∈ l, x < 256) (hb : b < 256) (e : last32 h n l = last32 h n (l.set i b)) : l.getD i 0 = b :=
  tail_told _ l _ i b (Nat.le_refl _) hi hl hb (stir32_inj (tail32_lt _ _ _ (Nat.le_refl _) (ml32 _)) (tail32_lt _ _ _ (Nat.le_refl _) (ml32 _)) e)
theorem rows_told (n k : Nat) : ∀ (l : List Nat) (f : Four) (i b : Nat), l.length ≤ n → Lt f → i < l.length → (∀ x ∈ l, x < 256) → b < 256 →
    last32 (merged32 (rows32 f l).1) k (rows32 f l).2 = last32 (merged32 (rows32 f (l.set i b)).1) k (rows32 f (l.set i b)).2 → l.getD i 0 = b := by
  induction n with
  | zero => intro l f i b hn _ hi; omega
  | succ n ih =>
      intro l f i b hn hf hi hl hb e
      by_cases h : 16 ≤ l.length
      · by_cases hne : l.getD i 0 = b
        · exact hne
        · rw [rows32_more f l h, rows32_more f (l.set i b) (by rw [List.length_set]; exact h)] at e
          by_cases i16 : i < 16
          · rw [drop_set_lt l i b 16 i16] at e
            have hD := take_told f l i b hi i16 hl hb hne
            obtain ⟨r1, r2, r3, r4⟩ := rows_D _ (l.drop 16) _ _ (Nat.le_refl _) (take_lt f l) (take_lt f (l.set i b)) hD
            rw [r1] at e
            exact absurd (stir_tail _ _ _ _ (Nat.mod_lt _ (by decide)) (Nat.mod_lt _ (by decide)) e) (merged_D _ _ r3 r4 r2)
          · rw [take_same f l i b hi (by omega), drop_set_ge l i b 16 (by omega)] at e
            have := ih (l.drop 16) (take32 f l) (i - 16) b (by rw [List.length_drop]; omega) (take_lt f l) (by rw [List.length_drop]; omega) (byt_drop hl 16) hb e
            rw [getD_drop', show 16 + (i - 16) = i by omega] at this
            exact this
      · rw [rows32_end f l h, rows32_end f (l.set i b) (by rw [List.length_set]; exact h)] at e
        exact last_told _ _ l i b hi hl hb e
theorem xx_told (seed : Nat) (hs : seed < 4294967296) (l : List Nat) (i b : Nat) (hi : i < l.length) (hl : ∀ x ∈ l, x < 256) (hb : b < 256) (e : xx32 seed l = xx32 seed (l.set i b)) : l.getD i 0 = b := by
  by_cases h : l.length < 16
  · rw [xx32, if_pos h, xx32, if_pos (by rw [List.length_set]; exact h), List.length_set] at e
    exact last_told _ _ l i b hi hl hb e
  · rw [xx32, if_neg h, xx32, if_neg (by rw [List.length_set]; exact h), List.length_set] at e
    exact rows_told _ _ l (begin32 seed) i b (Nat.le_refl _) ⟨Nat.mod_lt _ (by decide), Nat.mod_lt _ (by decide), hs, Nat.mod_lt _ (by decide)⟩ hi hl hb e
end Sums
