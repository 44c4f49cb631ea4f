/-
  Packed texts: how an answer changes with the room; how many bytes a sequence has. Plain facts.
-/
import Derived.Test.YtchjmhgalbkjkaaLzD
set_option linter.unusedVariables false
namespace Lz
theorem lens_code : ∀ (l : List Nat) (n i r : Nat), (lens l n i r).1 = 0 ∨ (lens l n i r).1 = 30 ∨ (lens l n i r).1 = 41
  | [], n, i, r => by simp [lens]
  | c :: l, n, i, r => by
    rw [lens]
    split
    · simp
    · split
      · exact lens_code l _ _ _
      · simp
/-- with more room the same, but where the room was too little -/
theorem lens_more : ∀ (l : List Nat) (n i r1 r2 : Nat), r1 ≤ r2 → (lens l n i r1).1 ≠ 41 → lens l n i r2 = lens l n i r1
  | [], n, i, r1, r2, _, _ => rfl
  | c :: l, n, i, r1, r2, h, h1 => by
    rw [lens] at h1 ⊢
    rw [lens]
    by_cases a : r1 < n + c
    · rw [if_pos a] at h1; exact absurd rfl h1
    · rw [if_neg a] at h1 ⊢
      rw [if_neg (by omega)]
      by_cases b : c = 255
      · rw [if_pos b] at h1 ⊢
        rw [if_pos b]
        exact lens_more l _ _ r1 r2 h h1
      · rw [if_neg b, if_neg b]
theorem counted_more (bs : List Nat) (i n : Nat) (more : Bool) (r1 r2 : Nat) (h : r1 ≤ r2) (h1 : (counted bs i n more r1).1 ≠ 41) : counted bs i n more r2 = counted bs i n more r1 := by
  unfold counted at h1 ⊢
  by_cases a : r1 < n
  · rw [if_pos a] at h1; exact absurd rfl h1
  · rw [if_neg a] at h1 ⊢
    rw [if_neg (by omega)]
    cases more with
    | false => rfl
    | true => exact lens_more _ _ _ r1 r2 h h1
theorem lens_ge : ∀ (l : List Nat) (n i r m j : Nat), lens l n i r = (0, m, j) → n ≤ m
  | [], n, i, r, m, j, h => by simp [lens] at h
  | c :: l, n, i, r, m, j, h => by
    rw [lens] at h
    split at h
    · simp at h
    · split at h
      · have := lens_ge l _ _ _ _ _ h; omega
      · simp at h; omega
/-- too little room means: the count is above it -/
theorem lens_less : ∀ (l : List Nat) (n i r1 r2 m j : Nat), (lens l n i r1).1 = 41 → lens l n i r2 = (0, m, j) → r1 < m
  | [], n, i, r1, r2, m, j, h, _ => by simp [lens] at h
  | c :: l, n, i, r1, r2, m, j, h, h2 => by
    rw [lens] at h h2
    by_cases b2 : r2 < n + c
    · rw [if_pos b2] at h2; simp at h2
    · rw [if_neg b2] at h2
      by_cases b : c = 255
      · rw [if_pos b] at h2 h
        by_cases a : r1 < n + c
        · have hm : n + c ≤ m := lens_ge l (n + c) (i + 1) r2 m j h2
          omega
        · rw [if_neg a] at h
          exact lens_less l _ _ r1 r2 m j h h2
      · rw [if_neg b] at h2 h
        simp at h2
        by_cases a : r1 < n + c
        · omega
        · rw [if_neg a] at h
          simp at h
theorem counted_less (bs : List Nat) (i n : Nat) (more : Bool) (r1 r2 m j : Nat) (h : (counted bs i n more r1).1 = 41) (h2 : counted bs i n more r2 = (0, m, j)) : r1 < m := by
  unfold counted at h h2
  by_cases b2 : r2 < n
  · rw [if_pos b2] at h2; simp at h2
  · rw [if_neg b2] at h2
    cases more with
    | false =>
      simp at h2
      by_cases a : r1 < n
      · omega
      · rw [if_neg a] at h; simp at h
    | true =>
      rw [if_pos rfl] at h2
      by_cases a : r1 < n
      · have := lens_ge _ _ _ _ _ _ h2; omega
      · rw [if_neg a, if_pos rfl] at h
        exact lens_less _ _ _ r1 r2 m j h h2
theorem next_more (bs : List Nat) (i said ahead m1 m2 : Nat) (h : m1 ≤ m2) (h1 : (next bs i said ahead m1).code ≠ 41) : next bs i said ahead m2 = next bs i said ahead m1 := by
  unfold next at h1 ⊢
  by_cases hi : bs.length ≤ i
  · rw [if_pos hi, if_pos hi]
  · rw [if_neg hi] at h1 ⊢
    rw [if_neg hi]
    by_cases c41 : (counted bs (i + 1) (bs.getD i 0 / 16) (bs.getD i 0 / 16 == 15) (m1 - said)).1 = 41
    · unfold nextB at h1
      rw [if_pos c41] at h1
      exact absurd rfl h1
    · rw [counted_more bs _ _ _ (m1 - said) (m2 - said) (by omega) c41]
      generalize counted bs (i + 1) (bs.getD i 0 / 16) (bs.getD i 0 / 16 == 15) (m1 - said) = c at *
      unfold nextB at h1 ⊢
      rw [if_neg c41] at h1 ⊢
      rw [if_neg c41]
      by_cases a1 : c.1 ≠ 0
      · rw [if_pos a1, if_pos a1]
      · rw [if_neg a1] at h1 ⊢
        rw [if_neg a1]
        by_cases a2 : bs.length < c.2.2 + c.2.1
        · rw [if_pos a2, if_pos a2]
        · rw [if_neg a2] at h1 ⊢
          rw [if_neg a2]
          by_cases a3 : c.2.2 + c.2.1 = bs.length
          · rw [if_pos a3, if_pos a3]
          · rw [if_neg a3] at h1 ⊢
            rw [if_neg a3]
            by_cases a4 : c.2.2 + c.2.1 + 1 = bs.length
            · rw [if_pos a4, if_pos a4]
            · rw [if_neg a4] at h1 ⊢
              rw [if_neg a4]
              by_cases a5 : offAt bs (c.2.2 + c.2.1) = 0 ∨ ahead + said + c.2.1 < offAt bs (c.2.2 + c.2.1)
              · rw [if_pos a5, if_pos a5]
              · rw [if_neg a5] at h1 ⊢
                rw [if_neg a5]
                by_cases d41 : (counted bs (c.2.2 + c.2.1 + 2) (bs.getD i 0 % 16 + 4) (bs.getD i 0 % 16 == 15) (m1 - said - c.2.1)).1 = 41
                · unfold nextC at h1
                  rw [if_pos d41] at h1
                  exact absurd rfl h1
                · rw [counted_more bs _ _ _ (m1 - said - c.2.1) (m2 - said - c.2.1) (by omega) d41]
theorem next_less (bs : List Nat) (i said ahead m1 m2 : Nat) (h : m1 ≤ m2) (h1 : (next bs i said ahead m1).code = 41) (h2 : (next bs i said ahead m2).code = 0) : m1 < said + (next bs i said ahead m2).many + (next bs i said ahead m2).len := by
  unfold next at h1 h2 ⊢
  by_cases hi : bs.length ≤ i
  · rw [if_pos hi] at h1; simp at h1
  · rw [if_neg hi] at h1 h2 ⊢
    by_cases c41 : (counted bs (i + 1) (bs.getD i 0 / 16) (bs.getD i 0 / 16 == 15) (m1 - said)).1 = 41
    · rcases e : counted bs (i + 1) (bs.getD i 0 / 16) (bs.getD i 0 / 16 == 15) (m2 - said) with ⟨z, m, j⟩
      rw [e] at h2
      have hz : z = 0 := by
        unfold nextB at h2
        by_cases z1 : z = 41
        · rw [if_pos z1] at h2; simp at h2
        · rw [if_neg z1] at h2
          by_cases z2 : z ≠ 0
          · rw [if_pos z2] at h2; simp at h2
          · omega
      subst hz
      have hm := counted_less bs _ _ _ _ _ m j c41 e
      have hmm : (nextB bs i (bs.getD i 0 % 16) said ahead m2 (0, m, j)).many = m := by
        unfold nextB at h2 ⊢
        rw [if_neg (show ¬ (0 : Nat) = 41 by decide), if_neg (show ¬ (0 : Nat) ≠ 0 by decide)] at h2 ⊢
        by_cases a2 : bs.length < j + m
        · rw [if_pos a2] at h2; simp at h2
        · rw [if_neg a2] at h2 ⊢
          by_cases a3 : j + m = bs.length
          · rw [if_pos a3]
          · rw [if_neg a3] at h2 ⊢
            by_cases a4 : j + m + 1 = bs.length
            · rw [if_pos a4] at h2; simp at h2
            · rw [if_neg a4] at h2 ⊢
              by_cases a5 : offAt bs (j + m) = 0 ∨ ahead + said + m < offAt bs (j + m)
              · rw [if_pos a5] at h2; simp at h2
              · rw [if_neg a5] at h2 ⊢
                unfold nextC at h2 ⊢
                split
                · rename_i a6; rw [if_pos a6] at h2; simp at h2
                · rename_i a6
                  rw [if_neg a6] at h2
                  split
                  · rename_i a7; rw [if_pos a7] at h2; simp at h2
                  · rfl
      rw [hmm]
      omega
    · rw [counted_more bs _ _ _ (m1 - said) (m2 - said) (by omega) c41] at h2 ⊢
      generalize counted bs (i + 1) (bs.getD i 0 / 16) (bs.getD i 0 / 16 == 15) (m1 - said) = c at *
      unfold nextB at h1 h2 ⊢
      rw [if_neg c41] at h1 h2 ⊢
      by_cases a1 : c.1 ≠ 0
      · rw [if_pos a1] at h1; simp at h1
      · rw [if_neg a1] at h1 h2 ⊢
        by_cases a2 : bs.length < c.2.2 + c.2.1
        · rw [if_pos a2] at h1; simp at h1
        · rw [if_neg a2] at h1 h2 ⊢
          by_cases a3 : c.2.2 + c.2.1 = bs.length
          · rw [if_pos a3] at h1; simp at h1
          · rw [if_neg a3] at h1 h2 ⊢
            by_cases a4 : c.2.2 + c.2.1 + 1 = bs.length
            · rw [if_pos a4] at h1; simp at h1
            · rw [if_neg a4] at h1 h2 ⊢
              by_cases a5 : offAt bs (c.2.2 + c.2.1) = 0 ∨ ahead + said + c.2.1 < offAt bs (c.2.2 + c.2.1)
              · rw [if_pos a5] at h1; simp at h1
              · rw [if_neg a5] at h1 h2 ⊢
                have d41 : (counted bs (c.2.2 + c.2.1 + 2) (bs.getD i 0 % 16 + 4) (bs.getD i 0 % 16 == 15) (m1 - said - c.2.1)).1 = 41 := by
                  unfold nextC at h1
                  split at h1
                  · assumption
                  · split at h1 <;> simp at h1
                rcases e : counted bs (c.2.2 + c.2.1 + 2) (bs.getD i 0 % 16 + 4) (bs.getD i 0 % 16 == 15) (m2 - said - c.2.1) with ⟨z, m, j⟩
                rw [e] at h2
                have hz : z = 0 := by
                  unfold nextC at h2
                  by_cases z1 : z = 41
                  · rw [if_pos z1] at h2; simp at h2
                  · rw [if_neg z1] at h2
                    by_cases z2 : z ≠ 0
                    · rw [if_pos z2] at h2; simp at h2
                    · omega
                subst hz
                have hm := counted_less bs _ _ _ _ _ m j d41 e
                unfold nextC
                rw [if_neg (show ¬ (0 : Nat) = 41 by decide), if_neg (show ¬ (0 : Nat) ≠ 0 by decide)]
                show m1 < said + c.2.1 + m
                omega
theorem walk_more (bs : List Nat) (ahead m1 m2 : Nat) (h : m1 ≤ m2) : ∀ (f i said : Nat), (walk bs ahead m1 f i said).2.1 ≠ 41 → walk bs ahead m2 f i said = walk bs ahead m1 f i said
  | 0, _, _, _ => rfl
  | f + 1, i, said, h1 => by
    rw [walk] at h1 ⊢
    rw [walk]
    by_cases c : (next bs i said ahead m1).code ≠ 0
    · rw [if_pos c] at h1
      rw [next_more bs i said ahead m1 m2 h h1, if_pos c, if_pos c]
    · rw [if_neg c] at h1
      have e := next_more bs i said ahead m1 m2 h (by omega)
      rw [e, if_neg c, if_neg c]
      by_cases l : (next bs i said ahead m1).len = 0
      · rw [if_pos l, if_pos l]
      · rw [if_neg l] at h1
        rw [if_neg l, if_neg l, walk_more bs ahead m1 m2 h f _ _ h1]
theorem walk_less (bs : List Nat) (ahead m1 m2 : Nat) (h : m1 ≤ m2) : ∀ (f i said : Nat), (walk bs ahead m1 f i said).2.1 = 41 → (walk bs ahead m2 f i said).2.1 = 0 → m1 < said + total (walk bs ahead m2 f i said).1
  | 0, _, _, h1, _ => by simp [walk] at h1
  | f + 1, i, said, h1, h2 => by
    rw [walk] at h1 h2 ⊢
    by_cases c2 : (next bs i said ahead m2).code ≠ 0
    · rw [if_pos c2] at h2; exact absurd h2 c2
    · rw [if_neg c2] at h2 ⊢
      by_cases c : (next bs i said ahead m1).code ≠ 0
      · rw [if_pos c] at h1
        have := next_less bs i said ahead m1 m2 h h1 (by omega)
        by_cases l : (next bs i said ahead m2).len = 0
        · rw [if_pos l]
          simp [total, seqOf]
          omega
        · rw [if_neg l]
          simp only [total, seqOf]
          omega
      · rw [if_neg c] at h1
        have e := next_more bs i said ahead m1 m2 h (by omega)
        rw [e] at h2 ⊢
        by_cases l : (next bs i said ahead m1).len = 0
        · rw [if_pos l] at h1; simp at h1
        · rw [if_neg l] at h1 h2 ⊢
          have := walk_less bs ahead m1 m2 h f _ _ h1 h2
          simp only [total, seqOf]
          omega
/-- how many bytes a count has behind its token -/
def beh (n : Nat) : Nat := if n < 15 then 0 else 1 + (n - 15) / 255
def sz (many len : Nat) : Nat := 1 + beh many + many + (if 0 < len then 2 + beh (len - 4) else 0)
theorem lens_size : ∀ (l : List Nat) (n i r m j : Nat), (∀ z ∈ l, z < 256) → lens l n i r = (0, m, j) → n ≤ m ∧ j = i + 1 + (m - n) / 255
  | [], n, i, r, m, j, _, h => by simp [lens] at h
  | c :: l, n, i, r, m, j, hb, h => by
    have hc := hb c (by simp)
    rw [lens] at h
    split at h
    · simp at h
    · split at h
      · obtain ⟨h1, h2⟩ := lens_size l _ _ _ _ _ (fun z hz => hb z (by simp [hz])) h
        rename_i hc2
        refine ⟨by omega, ?_⟩
        rw [h2]
        omega
      · simp at h
        omega
theorem counted_size (bs : List Nat) (hb : ∀ z ∈ bs, z < 256) (i n k room m j : Nat) (hk : k ≤ 15) (hn : n = k ∨ n = k + 4) (h : counted bs i n (k == 15) room = (0, m, j)) : n ≤ m ∧ j = i + beh (m - (n - k)) := by
  unfold counted at h
  split at h
  · simp at h
  · by_cases e : k = 15
    · rw [if_pos (by simp [e])] at h
      obtain ⟨h1, h2⟩ := lens_size _ _ _ _ _ _ (fun z hz => hb z (List.mem_of_mem_drop hz)) h
      refine ⟨h1, ?_⟩
      unfold beh
      rw [if_neg (by omega), h2]
      omega
    · rw [if_neg (by simp [e])] at h
      simp at h
      refine ⟨by omega, ?_⟩
      unfold beh
      rw [if_pos (by omega)]
      omega
/-- what a sequence is, by its code -/
structure NextF (bs : List Nat) (i : Nat) (p : Part) : Prop where
  cd : p.code = 0 ∨ p.code = 30 ∨ p.code = 40 ∨ p.code = 41
  ok : p.code = 0 → i < bs.length ∧ p.nxt = i + sz p.many p.len ∧ p.nxt ≤ bs.length ∧ (p.len = 0 → p.nxt = bs.length) ∧ (0 < p.len → 4 ≤ p.len)
  sh : p.code = 30 → p.place = bs.length
  of : p.code = 40 → i < p.place ∧ p.place + 2 ≤ bs.length
  mo : p.code = 41 → p.place = i ∧ i < bs.length
theorem next_f (bs : List Nat) (hb : ∀ z ∈ bs, z < 256) (i said ahead most : Nat) : NextF bs i (next bs i said ahead most) := by
  have s30 : NextF bs i ⟨30, bs.length, 0, 0, 0, 0, 0⟩ := ⟨by simp, by simp, by simp, by simp, by simp⟩
  unfold next
  by_cases hi : bs.length ≤ i
  · rw [if_pos hi]; exact s30
  · rw [if_neg hi]
    have s41 : NextF bs i ⟨41, i, 0, 0, 0, 0, 0⟩ := ⟨by simp, by simp, by simp, by simp, fun _ => ⟨rfl, by omega⟩⟩
    have hg := getD_byte bs hb i
    have hk := fun m j => counted_size bs hb (i + 1) (bs.getD i 0 / 16) (bs.getD i 0 / 16) (most - said) m j (by omega) (.inl rfl)
    generalize counted bs (i + 1) (bs.getD i 0 / 16) (bs.getD i 0 / 16 == 15) (most - said) = c at hk ⊢
    rcases c with ⟨z, m, j⟩
    unfold nextB
    dsimp only
    by_cases z1 : z = 41
    · rw [if_pos z1]; exact s41
    · rw [if_neg z1]
      by_cases z2 : z ≠ 0
      · rw [if_pos z2]; exact s30
      · rw [if_neg z2]
        obtain rfl : z = 0 := by omega
        obtain ⟨hk1, hk2⟩ := hk m j rfl
        rw [Nat.sub_self, Nat.sub_zero] at hk2
        by_cases a2 : bs.length < j + m
        · rw [if_pos a2]; exact s30
        · rw [if_neg a2]
          by_cases a3 : j + m = bs.length
          · rw [if_pos a3]
            refine ⟨by simp, fun _ => ⟨by omega, ?_, by dsimp only; omega, fun _ => a3, by simp⟩, by simp, by simp, by simp⟩
            unfold sz
            dsimp only
            rw [if_neg (by omega)]
            omega
          · rw [if_neg a3]
            by_cases a4 : j + m + 1 = bs.length
            · rw [if_pos a4]; exact s30
            · rw [if_neg a4]
              by_cases a5 : offAt bs (j + m) = 0 ∨ ahead + said + m < offAt bs (j + m)
              · rw [if_pos a5]
                exact ⟨by simp, by simp, by simp, fun _ => ⟨by dsimp only; omega, by dsimp only; omega⟩, by simp⟩
              · rw [if_neg a5]
                have hq := fun m2 j2 => counted_size bs hb (j + m + 2) (bs.getD i 0 % 16 + 4) (bs.getD i 0 % 16) (most - said - m) m2 j2 (by omega) (.inr rfl)
                have ho := fun m2 j2 => counted_ok bs hb (j + m + 2) (bs.getD i 0 % 16 + 4) (bs.getD i 0 % 16 == 15) (most - said - m) m2 j2 (by omega)
                generalize counted bs (j + m + 2) (bs.getD i 0 % 16 + 4) (bs.getD i 0 % 16 == 15) (most - said - m) = d at hq ho ⊢
                rcases d with ⟨y, m2, j2⟩
                unfold nextC
                dsimp only
                by_cases y1 : y = 41
                · rw [if_pos y1]; exact s41
                · rw [if_neg y1]
                  by_cases y2 : y ≠ 0
                  · rw [if_pos y2]; exact s30
                  · rw [if_neg y2]
                    obtain rfl : y = 0 := by omega
                    obtain ⟨q1, q2⟩ := hq m2 j2 rfl
                    obtain ⟨_, _, _, o4, _⟩ := ho m2 j2 rfl
                    rw [show bs.getD i 0 % 16 + 4 - bs.getD i 0 % 16 = 4 by omega] at q2
                    refine ⟨by simp, fun _ => ⟨by omega, ?_, o4, fun h => ?_, fun _ => ?_⟩, by simp, by simp, by simp⟩
                    · unfold sz
                      dsimp only
                      rw [if_pos (by omega)]
                      omega
                    · dsimp only at h; omega
                    · dsimp only; omega
/-- the place behind sequences -/
def endOf (i : Nat) (l : List Sq) : Nat := l.foldl (fun _ x => x.token + sz x.many x.len) i
theorem endOf_snoc (i : Nat) (l : List Sq) (x : Sq) : endOf i (l ++ [x]) = x.token + sz x.many x.len := by simp [endOf]
def lastL (l : List Sq) : Bool := l.foldl (fun _ x => x.len == 0) false
theorem lastL_snoc (l : List Sq) (x : Sq) : lastL (l ++ [x]) = (x.len == 0) := by simp [lastL]
structure WalkF (bs : List Nat) (i : Nat) (b0 : Bool) (r : List Sq × Nat × Nat) : Prop where
  at_ : ∀ pre x post, r.1 = pre ++ x :: post → x.token = pre.foldl (fun _ x => x.token + sz x.many x.len) i ∧ pre.foldl (fun _ x => x.len == 0) b0 = false ∧ x.token + sz x.many x.len ≤ bs.length ∧ (0 < x.len → 4 ≤ x.len)
  cd : r.2.1 = 0 ∨ r.2.1 = 30 ∨ r.2.1 = 40 ∨ r.2.1 = 41
  ok : r.2.1 = 0 → r.2.2 = 0 ∧ r.1.foldl (fun _ x => x.len == 0) b0 = true ∧ r.1.foldl (fun _ x => x.token + sz x.many x.len) i = bs.length
  no : r.2.1 ≠ 0 → r.1.foldl (fun _ x => x.len == 0) b0 = false
  sh : r.2.1 = 30 → r.2.2 = bs.length
  of : r.2.1 = 40 → r.1.foldl (fun _ x => x.token + sz x.many x.len) i < r.2.2 ∧ r.2.2 + 2 ≤ bs.length
  mo : r.2.1 = 41 → r.2.2 < bs.length
theorem walk_f (bs : List Nat) (hb : ∀ z ∈ bs, z < 256) (ahead most : Nat) : ∀ (f i said : Nat), WalkF bs i false (walk bs ahead most f i said)
  | 0, i, said => ⟨fun pre x post h => by simp [walk] at h, by simp [walk], by simp [walk], by simp [walk], by simp [walk], by simp [walk], by simp [walk]⟩
  | f + 1, i, said => by
    have hn := next_f bs hb i said ahead most
    rw [walk]
    by_cases c : (next bs i said ahead most).code ≠ 0
    · rw [if_pos c]
      exact ⟨fun pre x post h => by simp at h, hn.cd, fun h => absurd h c, fun _ => rfl, hn.sh, hn.of, fun h => by have := hn.mo h; dsimp only; omega⟩
    · rw [if_neg c]
      have hk := hn.ok (by omega)
      by_cases l : (next bs i said ahead most).len = 0
      · rw [if_pos l]
        refine ⟨fun pre x post h => ?_, by simp, fun _ => ⟨rfl, by simp [seqOf, l], ?_⟩, by simp, by simp, by simp, by simp⟩
        · cases pre with
          | nil =>
            simp at h
            obtain ⟨rfl, rfl⟩ := h
            exact ⟨rfl, rfl, by have := hk.2.1; have := hk.2.2.1; simp only [seqOf]; omega, fun h => hk.2.2.2.2 h⟩
          | cons y pre =>
            simp at h
        · have := hk.2.1
          have := hk.2.2.2.1 l
          simp only [List.foldl_cons, List.foldl_nil, seqOf]
          omega
      · rw [if_neg l]
        have ih := walk_f bs hb ahead most f (next bs i said ahead most).nxt (said + (next bs i said ahead most).many + (next bs i said ahead most).len)
        have e1 : (seqOf i (next bs i said ahead most)).token + sz (seqOf i (next bs i said ahead most)).many (seqOf i (next bs i said ahead most)).len = (next bs i said ahead most).nxt := by simp only [seqOf]; omega
        have e2 : ((seqOf i (next bs i said ahead most)).len == 0) = false := by simp [seqOf, l]
        generalize walk bs ahead most f (next bs i said ahead most).nxt (said + (next bs i said ahead most).many + (next bs i said ahead most).len) = R at ih ⊢
        refine ⟨fun pre x post h => ?_, ih.cd, fun h => ?_, fun h => ?_, ih.sh, fun h => ?_, ih.mo⟩
        · cases pre with
          | nil =>
            simp only [List.nil_append, List.cons.injEq] at h
            obtain ⟨rfl, _⟩ := h
            exact ⟨rfl, rfl, by have := hk.2.2.1; omega, fun h => hk.2.2.2.2 h⟩
          | cons y pre =>
            simp only [List.cons_append, List.cons.injEq] at h
            obtain ⟨rfl, h⟩ := h
            have := ih.at_ pre x post h
            simp only [List.foldl_cons, e1, e2]
            exact this
        · have := ih.ok h
          simp only [List.foldl_cons, e1, e2]
          exact this
        · have := ih.no h
          simp only [List.foldl_cons, e2]
          exact this
        · have := ih.of h
          simp only [List.foldl_cons, e1]
          exact this
end Lz
