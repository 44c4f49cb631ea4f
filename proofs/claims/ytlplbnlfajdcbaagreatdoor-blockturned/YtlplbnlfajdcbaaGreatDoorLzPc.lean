/-
  lz4: what is packed is unpacked: plain. Conditions: as each says.
-/
import Derived.Test.YtlplbnlfajdcbaaGreatDoorLzPb
set_option linter.unusedVariables false
namespace Lz
theorem lens_code : ∀ (l : List Nat) (n i r : Nat), (lens l n i r).1 = 0 ∨ (lens l n i r).1 = 30 ∨ (lens l n i r).1 = 41
  | [], n, i, r => by simp [lens]
  | c :: l, n, i, r => by
    rw [lens]
    split
    · simp
    · split
      · exact lens_code l _ _ _
      · simp
/-- with more room the same, but where the room was too little -/
theorem lens_more : ∀ (l : List Nat) (n i r1 r2 : Nat), r1 ≤ r2 → (lens l n i r1).1 ≠ 41 → lens l n i r2 = lens l n i r1
  | [], n, i, r1, r2, _, _ => rfl
  | c :: l, n, i, r1, r2, h, h1 => by
    rw [lens] at h1 ⊢
    rw [lens]
    by_cases a : r1 < n + c
    · rw [if_pos a] at h1; exact absurd rfl h1
    · rw [if_neg a] at h1 ⊢
      rw [if_neg (by omega)]
      by_cases b : c = 255
      · rw [if_pos b] at h1 ⊢
        rw [if_pos b]
        exact lens_more l _ _ r1 r2 h h1
      · rw [if_neg b, if_neg b]
theorem counted_more (bs : List Nat) (i n : Nat) (more : Bool) (r1 r2 : Nat) (h : r1 ≤ r2) (h1 : (counted bs i n more r1).1 ≠ 41) : counted bs i n more r2 = counted bs i n more r1 := by
  unfold counted at h1 ⊢
  by_cases a : r1 < n
  · rw [if_pos a] at h1; exact absurd rfl h1
  · rw [if_neg a] at h1 ⊢
    rw [if_neg (by omega)]
    cases more with
    | false => rfl
    | true => exact lens_more _ _ _ r1 r2 h h1
theorem lens_ge : ∀ (l : List Nat) (n i r m j : Nat), lens l n i r = (0, m, j) → n ≤ m
  | [], n, i, r, m, j, h => by simp [lens] at h
  | c :: l, n, i, r, m, j, h => by
    rw [lens] at h
    split at h
    · simp at h
    · split at h
      · have := lens_ge l _ _ _ _ _ h; omega
      · simp at h; omega
/-- too little room means: the count is above it -/
theorem lens_less : ∀ (l : List Nat) (n i r1 r2 m j : Nat), (lens l n i r1).1 = 41 → lens l n i r2 = (0, m, j) → r1 < m
  | [], n, i, r1, r2, m, j, h, _ => by simp [lens] at h
  | c :: l, n, i, r1, r2, m, j, h, h2 => by
    rw [lens] at h h2
    by_cases b2 : r2 < n + c
    · rw [if_pos b2] at h2; simp at h2
    · rw [if_neg b2] at h2
      by_cases b : c = 255
      · rw [if_pos b] at h2 h
        by_cases a : r1 < n + c
        · have hm : n + c ≤ m := lens_ge l (n + c) (i + 1) r2 m j h2
          omega
        · rw [if_neg a] at h
          exact lens_less l _ _ r1 r2 m j h h2
      · rw [if_neg b] at h2 h
        simp at h2
        by_cases a : r1 < n + c
        · omega
        · rw [if_neg a] at h
          simp at h
theorem counted_less (bs : List Nat) (i n : Nat) (more : Bool) (r1 r2 m j : Nat) (h : (counted bs i n more r1).1 = 41) (h2 : counted bs i n more r2 = (0, m, j)) : r1 < m := by
  unfold counted at h h2
  by_cases b2 : r2 < n
  · rw [if_pos b2] at h2; simp at h2
  · rw [if_neg b2] at h2
    cases more with
    | false =>
      simp at h2
      by_cases a : r1 < n
      · omega
      · rw [if_neg a] at h; simp at h
    | true =>
      rw [if_pos rfl] at h2
      by_cases a : r1 < n
      · have := lens_ge _ _ _ _ _ _ h2; omega
      · rw [if_neg a, if_pos rfl] at h
        exact lens_less _ _ _ r1 r2 m j h h2
theorem next_more (bs : List Nat) (i said ahead m1 m2 : Nat) (h : m1 ≤ m2) (h1 : (next bs i said ahead m1).code ≠ 41) : next bs i said ahead m2 = next bs i said ahead m1 := by
  unfold next at h1 ⊢
  by_cases hi : bs.length ≤ i
  · rw [if_pos hi, if_pos hi]
  · rw [if_neg hi] at h1 ⊢
    rw [if_neg hi]
    by_cases c41 : (counted bs (i + 1) (bs.getD i 0 / 16) (bs.getD i 0 / 16 == 15) (m1 - said)).1 = 41
    · unfold nextB at h1
      rw [if_pos c41] at h1
      exact absurd rfl h1
    · rw [counted_more bs _ _ _ (m1 - said) (m2 - said) (by omega) c41]
      generalize counted bs (i + 1) (bs.getD i 0 / 16) (bs.getD i 0 / 16 == 15) (m1 - said) = c at *
      unfold nextB at h1 ⊢
      rw [if_neg c41] at h1 ⊢
      rw [if_neg c41]
      by_cases a1 : c.1 ≠ 0
      · rw [if_pos a1, if_pos a1]
      · rw [if_neg a1] at h1 ⊢
        rw [if_neg a1]
        by_cases a2 : bs.length < c.2.2 + c.2.1
        · rw [if_pos a2, if_pos a2]
        · rw [if_neg a2] at h1 ⊢
          rw [if_neg a2]
          by_cases a3 : c.2.2 + c.2.1 = bs.length
          · rw [if_pos a3, if_pos a3]
          · rw [if_neg a3] at h1 ⊢
            rw [if_neg a3]
            by_cases a4 : c.2.2 + c.2.1 + 1 = bs.length
            · rw [if_pos a4, if_pos a4]
            · rw [if_neg a4] at h1 ⊢
              rw [if_neg a4]
              by_cases a5 : offAt bs (c.2.2 + c.2.1) = 0 ∨ ahead + said + c.2.1 < offAt bs (c.2.2 + c.2.1)
              · rw [if_pos a5, if_pos a5]
              · rw [if_neg a5] at h1 ⊢
                rw [if_neg a5]
                by_cases d41 : (counted bs (c.2.2 + c.2.1 + 2) (bs.getD i 0 % 16 + 4) (bs.getD i 0 % 16 == 15) (m1 - said - c.2.1)).1 = 41
                · unfold nextC at h1
                  rw [if_pos d41] at h1
                  exact absurd rfl h1
                · rw [counted_more bs _ _ _ (m1 - said - c.2.1) (m2 - said - c.2.1) (by omega) d41]
theorem next_less (bs : List Nat) (i said ahead m1 m2 : Nat) (h : m1 ≤ m2) (h1 : (next bs i said ahead m1).code = 41) (h2 : (next bs i said ahead m2).code = 0) : m1 < said + (next bs i said ahead m2).many + (next bs i said ahead m2).len := by
  unfold next at h1 h2 ⊢
  by_cases hi : bs.length ≤ i
  · rw [if_pos hi] at h1; simp at h1
  · rw [if_neg hi] at h1 h2 ⊢
    by_cases c41 : (counted bs (i + 1) (bs.getD i 0 / 16) (bs.getD i 0 / 16 == 15) (m1 - said)).1 = 41
    · rcases e : counted bs (i + 1) (bs.getD i 0 / 16) (bs.getD i 0 / 16 == 15) (m2 - said) with ⟨z, m, j⟩
      rw [e] at h2
      have hz : z = 0 := by
        unfold nextB at h2
        by_cases z1 : z = 41
        · rw [if_pos z1] at h2; simp at h2
        · rw [if_neg z1] at h2
          by_cases z2 : z ≠ 0
          · rw [if_pos z2] at h2; simp at h2
          · omega
      subst hz
      have hm := counted_less bs _ _ _ _ _ m j c41 e
      have hmm : (nextB bs i (bs.getD i 0 % 16) said ahead m2 (0, m, j)).many = m := by
        unfold nextB at h2 ⊢
        rw [if_neg (show ¬ (0 : Nat) = 41 by decide), if_neg (show ¬ (0 : Nat) ≠ 0 by decide)] at h2 ⊢
        by_cases a2 : bs.length < j + m
        · rw [if_pos a2] at h2; simp at h2
        · rw [if_neg a2] at h2 ⊢
          by_cases a3 : j + m = bs.length
          · rw [if_pos a3]
          · rw [if_neg a3] at h2 ⊢
            by_cases a4 : j + m + 1 = bs.length
            · rw [if_pos a4] at h2; simp at h2
            · rw [if_neg a4] at h2 ⊢
              by_cases a5 : offAt bs (j + m) = 0 ∨ ahead + said + m < offAt bs (j + m)
              · rw [if_pos a5] at h2; simp at h2
              · rw [if_neg a5] at h2 ⊢
                unfold nextC at h2 ⊢
                split
                · rename_i a6; rw [if_pos a6] at h2; simp at h2
                · rename_i a6
                  rw [if_neg a6] at h2
                  split
                  · rename_i a7; rw [if_pos a7] at h2; simp at h2
                  · rfl
      rw [hmm]
      omega
    · rw [counted_more bs _ _ _ (m1 - said) (m2 - said) (by omega) c41] at h2 ⊢
      generalize counted bs (i + 1) (bs.getD i 0 / 16) (bs.getD i 0 / 16 == 15) (m1 - said) = c at *
      unfold nextB at h1 h2 ⊢
      rw [if_neg c41] at h1 h2 ⊢
      by_cases a1 : c.1 ≠ 0
      · rw [if_pos a1] at h1; simp at h1
      · rw [if_neg a1] at h1 h2 ⊢
        by_cases a2 : bs.length < c.2.2 + c.2.1
        · rw [if_pos a2] at h1; simp at h1
        · rw [if_neg a2] at h1 h2 ⊢
          by_cases a3 : c.2.2 + c.2.1 = bs.length
          · rw [if_pos a3] at h1; simp at h1
          · rw [if_neg a3] at h1 h2 ⊢
            by_cases a4 : c.2.2 + c.2.1 + 1 = bs.length
            · rw [if_pos a4] at h1; simp at h1
            · rw [if_neg a4] at h1 h2 ⊢
              by_cases a5 : offAt bs (c.2.2 + c.2.1) = 0 ∨ ahead + said + c.2.1 < offAt bs (c.2.2 + c.2.1)
              · rw [if_pos a5] at h1; simp at h1
              · rw [if_neg a5] at h1 h2 ⊢
                have d41 : (counted bs (c.2.2 + c.2.1 + 2) (bs.getD i 0 % 16 + 4) (bs.getD i 0 % 16 == 15) (m1 - said - c.2.1)).1 = 41 := by
                  unfold nextC at h1
                  split at h1
                  · assumption
                  · split at h1 <;> simp at h1
                rcases e : counted bs (c.2.2 + c.2.1 + 2) (bs.getD i 0 % 16 + 4) (bs.getD i 0 % 16 == 15) (m2 - said - c.2.1) with ⟨z, m, j⟩
                rw [e] at h2
                have hz : z = 0 := by
                  unfold nextC at h2
                  by_cases z1 : z = 41
                  · rw [if_pos z1] at h2; simp at h2
                  · rw [if_neg z1] at h2
                    by_cases z2 : z ≠ 0
                    · rw [if_pos z2] at h2; simp at h2
                    · omega
                subst hz
                have hm := counted_less bs _ _ _ _ _ m j d41 e
                unfold nextC
                rw [if_neg (show ¬ (0 : Nat) = 41 by decide), if_neg (show ¬ (0 : Nat) ≠ 0 by decide)]
                show m1 < said + c.2.1 + m
                omega
theorem walk_more (bs : List Nat) (ahead m1 m2 : Nat) (h : m1 ≤ m2) : ∀ (f i said : Nat), (walk bs ahead m1 f i said).2.1 ≠ 41 → walk bs ahead m2 f i said = walk bs ahead m1 f i said
  | 0, _, _, _ => rfl
  | f + 1, i, said, h1 => by
    rw [walk] at h1 ⊢
    rw [walk]
    by_cases c : (next bs i said ahead m1).code ≠ 0
    · rw [if_pos c] at h1
      rw [next_more bs i said ahead m1 m2 h h1, if_pos c, if_pos c]
    · rw [if_neg c] at h1
      have e := next_more bs i said ahead m1 m2 h (by omega)
      rw [e, if_neg c, if_neg c]
      by_cases l : (next bs i said ahead m1).len = 0
      · rw [if_pos l, if_pos l]
      · rw [if_neg l] at h1
        rw [if_neg l, if_neg l, walk_more bs ahead m1 m2 h f _ _ h1]
theorem walk_less (bs : List Nat) (ahead m1 m2 : Nat) (h : m1 ≤ m2) : ∀ (f i said : Nat), (walk bs ahead m1 f i said).2.1 = 41 → (walk bs ahead m2 f i said).2.1 = 0 → m1 < said + total (walk bs ahead m2 f i said).1
  | 0, _, _, h1, _ => by simp [walk] at h1
  | f + 1, i, said, h1, h2 => by
    rw [walk] at h1 h2 ⊢
    by_cases c2 : (next bs i said ahead m2).code ≠ 0
    · rw [if_pos c2] at h2; exact absurd h2 c2
    · rw [if_neg c2] at h2 ⊢
      by_cases c : (next bs i said ahead m1).code ≠ 0
      · rw [if_pos c] at h1
        have := next_less bs i said ahead m1 m2 h h1 (by omega)
        by_cases l : (next bs i said ahead m2).len = 0
        · rw [if_pos l]
          simp [total, seqOf]
          omega
        · rw [if_neg l]
          simp only [total, seqOf]
          omega
      · rw [if_neg c] at h1
        have e := next_more bs i said ahead m1 m2 h (by omega)
        rw [e] at h2 ⊢
        by_cases l : (next bs i said ahead m1).len = 0
        · rw [if_pos l] at h1; simp at h1
        · rw [if_neg l] at h1 h2 ⊢
          have := walk_less bs ahead m1 m2 h f _ _ h1 h2
          simp only [total, seqOf]
          omega
/-- how many bytes a count has behind its token -/
def beh (n : Nat) : Nat := if n < 15 then 0 else 1 + (n - 15) / 255
def sz (many len : Nat) : Nat := 1 + beh many + many + (if 0 < len then 2 + beh (len - 4) else 0)
theorem lens_size : ∀ (l : List Nat) (n i r m j : Nat), (∀ z ∈ l, z < 256) → lens l n i r = (0, m, j) → n ≤ m ∧ j = i + 1 + (m - n) / 255
  | [], n, i, r, m, j, _, h => by simp [lens] at h
  | c :: l, n, i, r, m, j, hb, h => by
    have hc := hb c (by simp)
    rw [lens] at h
    split at h
    · simp at h
    · split at h
      · obtain ⟨h1, h2⟩ := lens_size l _ _ _ _ _ (fun z hz => hb z (by simp [hz])) h
        rename_i hc2
        refine ⟨by omega, ?_⟩
        rw [h2]
        omega
      · simp at h
        omega
theorem counted_size (bs : List Nat) (hb : ∀ z ∈ bs, z < 256) (i n k room m j : Nat) (hk : k ≤ 15) (hn : n = k ∨ n = k + 4) (h : counted bs i n (k == 15) room = (0, m, j)) : n ≤ m ∧ j = i + beh (m - (n - k)) := by
  unfold counted at h
  split at h
  · simp at h
  · by_cases e : k = 15
    · rw [if_pos (by simp [e])] at h
      obtain ⟨h1, h2⟩ := lens_size _ _ _ _ _ _ (fun z hz => hb z (List.mem_of_mem_drop hz)) h
      refine ⟨h1, ?_⟩
      unfold beh
      rw [if_neg (by omega), h2]
      omega
    · rw [if_neg (by simp [e])] at h
      simp at h
      refine ⟨by omega, ?_⟩
      unfold beh
      rw [if_pos (by omega)]
      omega
/-- what a sequence is, by its code -/
structure NextF (bs : List Nat) (i : Nat) (p : Part) : Prop where
  cd : p.code = 0 ∨ p.code = 30 ∨ p.code = 40 ∨ p.code = 41
  ok : p.code = 0 → i < bs.length ∧ p.nxt = i + sz p.many p.len ∧ p.nxt ≤ bs.length ∧ (p.len = 0 → p.nxt = bs.length) ∧ (0 < p.len → 4 ≤ p.len)
  sh : p.code = 30 → p.place = bs.length
  of : p.code = 40 → i < p.place ∧ p.place + 2 ≤ bs.length
  mo : p.code = 41 → p.place = i ∧ i < bs.length
theorem next_f (bs : List Nat) (hb : ∀ z ∈ bs, z < 256) (i said ahead most : Nat) : NextF bs i (next bs i said ahead most) := by
  have s30 : NextF bs i ⟨30, bs.length, 0, 0, 0, 0, 0⟩ := ⟨by simp, by simp, by simp, by simp, by simp⟩
  unfold next
  by_cases hi : bs.length ≤ i
  · rw [if_pos hi]; exact s30
  · rw [if_neg hi]
    have s41 : NextF bs i ⟨41, i, 0, 0, 0, 0, 0⟩ := ⟨by simp, by simp, by simp, by simp, fun _ => ⟨rfl, by omega⟩⟩
    have hg := getD_byte bs hb i
    have hk := fun m j => counted_size bs hb (i + 1) (bs.getD i 0 / 16) (bs.getD i 0 / 16) (most - said) m j (by omega) (.inl rfl)
    generalize counted bs (i + 1) (bs.getD i 0 / 16) (bs.getD i 0 / 16 == 15) (most - said) = c at hk ⊢
    rcases c with ⟨z, m, j⟩
    unfold nextB
    dsimp only
    by_cases z1 : z = 41
    · rw [if_pos z1]; exact s41
    · rw [if_neg z1]
      by_cases z2 : z ≠ 0
      · rw [if_pos z2]; exact s30
      · rw [if_neg z2]
        obtain rfl : z = 0 := by omega
        obtain ⟨hk1, hk2⟩ := hk m j rfl
        rw [Nat.sub_self, Nat.sub_zero] at hk2
        by_cases a2 : bs.length < j + m
        · rw [if_pos a2]; exact s30
        · rw [if_neg a2]
          by_cases a3 : j + m = bs.length
          · rw [if_pos a3]
            refine ⟨by simp, fun _ => ⟨by omega, ?_, by dsimp only; omega, fun _ => a3, by simp⟩, by simp, by simp, by simp⟩
            unfold sz
            dsimp only
            rw [if_neg (by omega)]
            omega
          · rw [if_neg a3]
            by_cases a4 : j + m + 1 = bs.length
            · rw [if_pos a4]; exact s30
            · rw [if_neg a4]
              by_cases a5 : offAt bs (j + m) = 0 ∨ ahead + said + m < offAt bs (j + m)
              · rw [if_pos a5]
                exact ⟨by simp, by simp, by simp, fun _ => ⟨by dsimp only; omega, by dsimp only; omega⟩, by simp⟩
              · rw [if_neg a5]
                have hq := fun m2 j2 => counted_size bs hb (j + m + 2) (bs.getD i 0 % 16 + 4) (bs.getD i 0 % 16) (most - said - m) m2 j2 (by omega) (.inr rfl)
                have ho := fun m2 j2 => counted_ok bs hb (j + m + 2) (bs.getD i 0 % 16 + 4) (bs.getD i 0 % 16 == 15) (most - said - m) m2 j2 (by omega)
                generalize counted bs (j + m + 2) (bs.getD i 0 % 16 + 4) (bs.getD i 0 % 16 == 15) (most - said - m) = d at hq ho ⊢
                rcases d with ⟨y, m2, j2⟩
                unfold nextC
                dsimp only
                by_cases y1 : y = 41
                · rw [if_pos y1]; exact s41
                · rw [if_neg y1]
                  by_cases y2 : y ≠ 0
                  · rw [if_pos y2]; exact s30
                  · rw [if_neg y2]
                    obtain rfl : y = 0 := by omega
                    obtain ⟨q1, q2⟩ := hq m2 j2 rfl
                    obtain ⟨_, _, _, o4, _⟩ := ho m2 j2 rfl
                    rw [show bs.getD i 0 % 16 + 4 - bs.getD i 0 % 16 = 4 by omega] at q2
                    refine ⟨by simp, fun _ => ⟨by omega, ?_, o4, fun h => ?_, fun _ => ?_⟩, by simp, by simp, by simp⟩
                    · unfold sz
                      dsimp only
                      rw [if_pos (by omega)]
                      omega
                    · dsimp only at h; omega
                    · dsimp only; omega
/-- the place behind sequences -/
def endOf (i : Nat) (l : List Sq) : Nat := l.foldl (fun _ x => x.token + sz x.many x.len) i
theorem endOf_snoc (i : Nat) (l : List Sq) (x : Sq) : endOf i (l ++ [x]) = x.token + sz x.many x.len := by simp [endOf]
def lastL (l : List Sq) : Bool := l.foldl (fun _ x => x.len == 0) false
theorem lastL_snoc (l : List Sq) (x : Sq) : lastL (l ++ [x]) = (x.len == 0) := by simp [lastL]
structure WalkF (bs : List Nat) (i : Nat) (b0 : Bool) (r : List Sq × Nat × Nat) : Prop where
  at_ : ∀ pre x post, r.1 = pre ++ x :: post → x.token = pre.foldl (fun _ x => x.token + sz x.many x.len) i ∧ pre.foldl (fun _ x => x.len == 0) b0 = false ∧ x.token + sz x.many x.len ≤ bs.length ∧ (0 < x.len → 4 ≤ x.len)
  cd : r.2.1 = 0 ∨ r.2.1 = 30 ∨ r.2.1 = 40 ∨ r.2.1 = 41
  ok : r.2.1 = 0 → r.2.2 = 0 ∧ r.1.foldl (fun _ x => x.len == 0) b0 = true ∧ r.1.foldl (fun _ x => x.token + sz x.many x.len) i = bs.length
  no : r.2.1 ≠ 0 → r.1.foldl (fun _ x => x.len == 0) b0 = false
  sh : r.2.1 = 30 → r.2.2 = bs.length
  of : r.2.1 = 40 → r.1.foldl (fun _ x => x.token + sz x.many x.len) i < r.2.2 ∧ r.2.2 + 2 ≤ bs.length
  mo : r.2.1 = 41 → r.2.2 < bs.length
theorem walk_f (bs : List Nat) (hb : ∀ z ∈ bs, z < 256) (ahead most : Nat) : ∀ (f i said : Nat), WalkF bs i false (walk bs ahead most f i said)
  | 0, i, said => ⟨fun pre x post h => by simp [walk] at h, by simp [walk], by simp [walk], by simp [walk], by simp [walk], by simp [walk], by simp [walk]⟩
  | f + 1, i, said => by
    have hn := next_f bs hb i said ahead most
    rw [walk]
    by_cases c : (next bs i said ahead most).code ≠ 0
    · rw [if_pos c]
      exact ⟨fun pre x post h => by simp at h, hn.cd, fun h => absurd h c, fun _ => rfl, hn.sh, hn.of, fun h => by have := hn.mo h; dsimp only; omega⟩
    · rw [if_neg c]
      have hk := hn.ok (by omega)
      by_cases l : (next bs i said ahead most).len = 0
      · rw [if_pos l]
        refine ⟨fun pre x post h => ?_, by simp, fun _ => ⟨rfl, by simp [seqOf, l], ?_⟩, by simp, by simp, by simp, by simp⟩
        · cases pre with
          | nil =>
            simp at h
            obtain ⟨rfl, rfl⟩ := h
            exact ⟨rfl, rfl, by have := hk.2.1; have := hk.2.2.1; simp only [seqOf]; omega, fun h => hk.2.2.2.2 h⟩
          | cons y pre =>
            simp at h
        · have := hk.2.1
          have := hk.2.2.2.1 l
          simp only [List.foldl_cons, List.foldl_nil, seqOf]
          omega
      · rw [if_neg l]
        have ih := walk_f bs hb ahead most f (next bs i said ahead most).nxt (said + (next bs i said ahead most).many + (next bs i said ahead most).len)
        have e1 : (seqOf i (next bs i said ahead most)).token + sz (seqOf i (next bs i said ahead most)).many (seqOf i (next bs i said ahead most)).len = (next bs i said ahead most).nxt := by simp only [seqOf]; omega
        have e2 : ((seqOf i (next bs i said ahead most)).len == 0) = false := by simp [seqOf, l]
        generalize walk bs ahead most f (next bs i said ahead most).nxt (said + (next bs i said ahead most).many + (next bs i said ahead most).len) = R at ih ⊢
        refine ⟨fun pre x post h => ?_, ih.cd, fun h => ?_, fun h => ?_, ih.sh, fun h => ?_, ih.mo⟩
        · cases pre with
          | nil =>
            simp only [List.nil_append, List.cons.injEq] at h
            obtain ⟨rfl, _⟩ := h
            exact ⟨rfl, rfl, by have := hk.2.2.1; omega, fun h => hk.2.2.2.2 h⟩
          | cons y pre =>
            simp only [List.cons_append, List.cons.injEq] at h
            obtain ⟨rfl, h⟩ := h
            have := ih.at_ pre x post h
            simp only [List.foldl_cons, e1, e2]
            exact this
        · have := ih.ok h
          simp only [List.foldl_cons, e1, e2]
          exact this
        · have := ih.no h
          simp only [List.foldl_cons, e2]
          exact this
        · have := ih.of h
          simp only [List.foldl_cons, e1]
          exact this
end Lz

namespace Lz
theorem lenb_length (n : Nat) : (lenb n).length = beh n := by
  unfold lenb beh
  split
  · rfl
  · simp; omega
theorem lens_rep (t : List Nat) (r room : Nat) (hr : r < 255) : ∀ (q n i : Nat), n + 255 * q + r ≤ room → lens (List.replicate q 255 ++ r :: t) n i room = (0, n + 255 * q + r, i + q + 1)
  | 0, n, i, h => by
    simp only [List.replicate_zero, List.nil_append, lens]
    rw [if_neg (by omega), if_neg (by omega)]
    simp
  | q + 1, n, i, h => by
    rw [List.replicate_succ, List.cons_append, lens, if_neg (by omega), if_pos rfl, lens_rep t r room hr q _ _ (by omega)]
    congr 2 <;> omega
theorem lens_cut (room : Nat) (r : Nat) (hr : r < 255) : ∀ (q j n i : Nat), j ≤ q → n + 255 * q + r ≤ room → lens ((List.replicate q 255 ++ [r]).take j) n i room = (30, 0, 0)
  | q, 0, n, i, _, _ => by simp [lens]
  | 0, j + 1, n, i, h, _ => by omega
  | q + 1, j + 1, n, i, h, hm => by
    rw [List.replicate_succ, List.cons_append, List.take_succ_cons, lens, if_neg (by omega), if_pos rfl]
    exact lens_cut room r hr q j _ _ (by omega) (by omega)
theorem counted_enc (bs t : List Nat) (i c d room : Nat) (hb : bs.drop i = lenb c ++ t) (hr : c + d ≤ room) : counted bs i (min c 15 + d) (min c 15 == 15) room = (0, c + d, i + beh c) := by
  unfold counted
  rw [if_neg (by omega)]
  by_cases h : c < 15
  · have : (min c 15 == 15) = false := by simp; omega
    rw [this, if_neg (by simp)]
    unfold beh
    rw [if_pos h, Nat.min_eq_left (by omega)]
    rfl
  · have : (min c 15 == 15) = true := by simp; omega
    rw [this, if_pos rfl, hb]
    unfold lenb beh
    rw [if_neg h, if_neg h, List.append_assoc, List.singleton_append, lens_rep t _ room (by omega) _ _ _ (by omega)]
    simp only [Prod.mk.injEq, true_and]
    constructor <;> omega
theorem counted_cut (bs : List Nat) (i c d room j : Nat) (hj : j < beh c) (hb : bs.drop i = (lenb c).take j) (hr : c + d ≤ room) : counted bs i (min c 15 + d) (min c 15 == 15) room = (30, 0, 0) := by
  unfold counted
  rw [if_neg (by omega)]
  unfold beh at hj
  by_cases h : c < 15
  · rw [if_pos h] at hj
    omega
  · rw [if_neg h] at hj
    have : (min c 15 == 15) = true := by simp; omega
    rw [this, if_pos rfl, hb]
    unfold lenb
    rw [if_neg h]
    exact lens_cut room _ (by omega) _ _ _ _ (by omega) (by omega)
/-- a piece: literals, offset, count -/
structure Pc where
  lit : List Nat
  off : Nat
  len : Nat
def enc1 (x : Pc) : List Nat := lits x.lit (x.len - 4) ++ ([x.off % 256, x.off / 256] ++ lenb (x.len - 4))
def enc : List Pc → List Nat
  | [] => []
  | x :: l => enc1 x ++ enc l
theorem enc_append : ∀ a b, enc (a ++ b) = enc a ++ enc b
  | [], b => rfl
  | x :: a, b => by rw [List.cons_append, enc, enc_append a b, enc, List.append_assoc]
def okP : Nat → List Pc → Prop
  | _, [] => True
  | h, x :: l => 4 ≤ x.len ∧ 1 ≤ x.off ∧ x.off ≤ 65535 ∧ x.off ≤ h + x.lit.length ∧ okP (h + x.lit.length + x.len) l
def tot : List Pc → Nat
  | [] => 0
  | x :: l => x.lit.length + x.len + tot l
theorem tot_append : ∀ a b, tot (a ++ b) = tot a + tot b
  | [], b => by simp [tot]
  | x :: a, b => by simp only [List.cons_append, tot, tot_append a b]; omega
theorem okP_append : ∀ (a b : List Pc) (h : Nat), okP h (a ++ b) ↔ okP h a ∧ okP (h + tot a) b
  | [], b, h => by simp [okP, tot]
  | x :: a, b, h => by
    simp only [List.cons_append, okP, tot, okP_append a b]
    rw [show h + x.lit.length + x.len + tot a = h + (x.lit.length + x.len + tot a) by omega]
    constructor
    · rintro ⟨a1, a2, a3, a4, a5, a6⟩; exact ⟨⟨a1, a2, a3, a4, a5⟩, a6⟩
    · rintro ⟨⟨a1, a2, a3, a4, a5⟩, a6⟩; exact ⟨a1, a2, a3, a4, a5, a6⟩
theorem lits_length (p : List Nat) (b : Nat) : (lits p b).length = 1 + beh p.length + p.length := by
  simp only [lits, List.length_cons, List.length_append, lenb_length]; omega
theorem enc1_length (x : Pc) (h : 4 ≤ x.len) : (enc1 x).length = sz x.lit.length x.len := by
  simp only [enc1, List.length_append, lits_length, List.length_cons, List.length_nil, lenb_length, sz]
  rw [if_pos (by omega)]
theorem drop_more (bs a t : List Nat) (i : Nat) (h : bs.drop i = a ++ t) : bs.drop (i + a.length) = t := by
  rw [← List.drop_drop, h, List.drop_left]
theorem drop_len (bs a : List Nat) (i : Nat) (h : bs.drop i = a) (hi : i ≤ bs.length) : bs.length = i + a.length := by
  have := congrArg List.length h
  simp at this
  omega
theorem drop_in (bs a : List Nat) (i : Nat) (h : bs.drop i = a) (ha : a ≠ []) : i < bs.length := by
  apply Nat.lt_of_not_le
  intro hh
  rw [List.drop_eq_nil_of_le hh] at h
  exact ha h.symm
theorem getD_drop (bs : List Nat) (i k : Nat) : bs.getD (i + k) 0 = (bs.drop i).getD k 0 := by
  simp [List.getD]
theorem tok_hi (a b : Nat) : (16 * min a 15 + min b 15) / 16 = min a 15 := by omega
theorem tok_lo (a b : Nat) : (16 * min a 15 + min b 15) % 16 = min b 15 := by omega
/-- the head of a sequence: its token and its literals -/
theorem head_enc (bs p t : List Nat) (b i said ahead most : Nat) (hb : bs.drop i = lits p b ++ t) (hr : p.length + said ≤ most) :
    next bs i said ahead most = nextB bs i (min b 15) said ahead most (0, p.length, i + 1 + beh p.length) ∧ bs.drop (i + 1 + beh p.length) = p ++ t ∧ i + 1 + beh p.length + p.length + t.length = bs.length := by
  have hi : i < bs.length := drop_in bs _ i hb (by simp [lits])
  have h0 : bs.getD i 0 = 16 * min p.length 15 + min b 15 := by
    have := getD_drop bs i 0
    rw [Nat.add_zero, hb] at this
    rw [this]
    rfl
  have h1 : bs.drop (i + 1) = lenb p.length ++ (p ++ t) := by
    rw [← List.drop_drop, hb]
    simp [lits]
  have h2 : bs.drop (i + 1 + beh p.length) = p ++ t := by
    have := drop_more bs _ _ _ h1
    rwa [lenb_length] at this
  refine ⟨?_, h2, ?_⟩
  · unfold next
    rw [if_neg (by omega), h0, tok_hi, tok_lo]
    have := counted_enc bs _ (i + 1) p.length 0 (most - said) h1 (by omega)
    simp only [Nat.add_zero] at this
    rw [this]
  · have := drop_len bs _ i hb (by omega)
    rw [List.length_append, lits_length] at this
    omega
theorem next_enc (bs t : List Nat) (x : Pc) (i said ahead most : Nat) (hb : bs.drop i = enc1 x ++ t) (h4 : 4 ≤ x.len) (h1 : 1 ≤ x.off) (h2 : x.off ≤ 65535) (h3 : x.off ≤ ahead + said + x.lit.length) (hr : said + x.lit.length + x.len ≤ most) :
    next bs i said ahead most = ⟨0, 0, i + 1 + beh x.lit.length, x.lit.length, x.off, x.len, i + sz x.lit.length x.len⟩ := by
  have hb2 : bs.drop i = lits x.lit (x.len - 4) ++ ([x.off % 256, x.off / 256] ++ (lenb (x.len - 4) ++ t)) := by
    rw [hb]; simp [enc1]
  obtain ⟨e1, e2, e3⟩ := head_enc bs _ _ _ i said ahead most hb2 (by omega)
  have e4 := drop_more bs _ _ _ e2
  have e5 : bs.drop (i + 1 + beh x.lit.length + x.lit.length + 2) = lenb (x.len - 4) ++ t := by
    rw [← List.drop_drop, e4]; simp
  have e6 : offAt bs (i + 1 + beh x.lit.length + x.lit.length) = x.off := by
    unfold offAt
    have a := getD_drop bs (i + 1 + beh x.lit.length + x.lit.length) 0
    have b := getD_drop bs (i + 1 + beh x.lit.length + x.lit.length) 1
    rw [e4] at a b
    rw [Nat.add_zero] at a
    rw [a, b]
    show x.off % 256 + 256 * (x.off / 256) = x.off
    omega
  simp only [List.length_append, List.length_cons, List.length_nil] at e3
  rw [e1]
  unfold nextB
  simp only
  rw [if_neg (by omega), if_neg (by simp), if_neg (by omega), if_neg (by omega), if_neg (by omega), e6, if_neg (by omega)]
  have := counted_enc bs _ _ (x.len - 4) 4 (most - said - x.lit.length) e5 (by omega)
  rw [this]
  unfold nextC
  rw [if_neg (by simp), if_neg (by simp)]
  simp only [Part.mk.injEq, true_and, sz]
  rw [if_pos (by omega)]
  constructor <;> omega
theorem next_last (bs e : List Nat) (i said ahead most : Nat) (hb : bs.drop i = lits e 0) (hr : said + e.length ≤ most) :
    next bs i said ahead most = ⟨0, 0, i + 1 + beh e.length, e.length, 0, 0, bs.length⟩ := by
  obtain ⟨e1, e2, e3⟩ := head_enc bs e [] 0 i said ahead most (by rw [hb]; simp) (by omega)
  simp only [List.length_nil] at e3
  rw [e1]
  unfold nextB
  simp only
  rw [if_neg (by omega), if_neg (by simp), if_neg (by omega), if_pos (by omega)]
  simp only [Part.mk.injEq, true_and]
  omega
/-- where the pieces come to lie -/
def sqs : Nat → List Pc → List Nat → List Sq
  | i, [], e => [⟨i, i + 1 + beh e.length, e.length, 0, 0⟩]
  | i, x :: l, e => ⟨i, i + 1 + beh x.lit.length, x.lit.length, x.off, x.len⟩ :: sqs (i + sz x.lit.length x.len) l e
theorem walk_enc (bs e : List Nat) (ahead most : Nat) : ∀ (l : List Pc) (f i said : Nat), bs.drop i = enc l ++ lits e 0 → okP (ahead + said) l → said + tot l + e.length ≤ most → l.length < f → walk bs ahead most f i said = (sqs i l e, 0, 0)
  | _, 0, _, _, _, _, _, hf => by omega
  | [], f + 1, i, said, hb, _, hr, _ => by
    rw [walk, next_last bs e i said ahead most hb (by simp [tot] at hr; omega)]
    rfl
  | x :: l, f + 1, i, said, hb, ho, hr, hf => by
    obtain ⟨o1, o2, o3, o4, o5⟩ := ho
    simp only [tot] at hr
    simp only [List.length_cons] at hf
    have hb2 : bs.drop i = enc1 x ++ (enc l ++ lits e 0) := by rw [hb, enc, List.append_assoc]
    have hn := next_enc bs _ x i said ahead most hb2 o1 o2 o3 o4 (by omega)
    have hd := drop_more bs _ _ _ hb2
    rw [enc1_length x o1] at hd
    rw [walk, hn]
    simp only
    rw [if_neg (by simp), if_neg (by omega), walk_enc bs e ahead most l f _ _ hd (by rw [show ahead + (said + x.lit.length + x.len) = ahead + said + x.lit.length + x.len by omega]; exact o5) (by omega) (by omega)]
    rfl
/-- what pieces say behind a text -/
def sayP : List Nat → List Pc → List Nat
  | b, [] => b
  | b, x :: l => sayP (grow x.off x.len (b ++ x.lit)) l
theorem sayP_append : ∀ (a b : List Pc) (t : List Nat), sayP t (a ++ b) = sayP (sayP t a) b
  | [], b, t => rfl
  | x :: a, b, t => by rw [List.cons_append, sayP, sayP_append a b, sayP]
theorem says_cons (bs bef : List Nat) (x : Sq) (l : List Sq) : says bs bef (x :: l) = says bs (say bs bef x) l := rfl
theorem says_enc (bs e : List Nat) : ∀ (l : List Pc) (i h : Nat) (bef : List Nat), bs.drop i = enc l ++ lits e 0 → okP h l → says bs bef (sqs i l e) = sayP bef l ++ e
  | [], i, h, bef, hb, _ => by
    obtain ⟨_, e2, _⟩ := head_enc bs e [] 0 i 0 0 e.length (by rw [hb]; simp [enc]) (by omega)
    simp only [sqs, says_cons, say, sayP, grow]
    rw [e2]
    simp [says]
  | x :: l, i, h, bef, hb, ho => by
    obtain ⟨o1, o2, o3, o4, o5⟩ := ho
    have hb2 : bs.drop i = enc1 x ++ (enc l ++ lits e 0) := by rw [hb, enc, List.append_assoc]
    have hb3 : bs.drop i = lits x.lit (x.len - 4) ++ ([x.off % 256, x.off / 256] ++ (lenb (x.len - 4) ++ (enc l ++ lits e 0))) := by
      rw [hb2]; simp [enc1]
    obtain ⟨_, e2, _⟩ := head_enc bs _ _ _ i 0 0 x.lit.length hb3 (by omega)
    have hd := drop_more bs _ _ _ hb2
    rw [enc1_length x o1] at hd
    rw [sqs, says_cons, says_enc bs e l _ _ _ hd o5]
    rw [sayP]
    simp only [say]
    rw [e2, List.take_left]
theorem total_sqs (e : List Nat) : ∀ (l : List Pc) (i : Nat), total (sqs i l e) = tot l + e.length
  | [], i => by simp [sqs, total, tot]
  | x :: l, i => by simp only [sqs, total, tot, total_sqs e l]; omega
theorem sayP_pre : ∀ (l : List Pc) (b : List Nat), ∃ t, sayP b l = b ++ t ∧ t.length = tot l
  | [], b => ⟨[], by simp [sayP], rfl⟩
  | x :: l, b => by
    obtain ⟨t1, h1, h2⟩ := grow_pre x.off x.len (b ++ x.lit)
    obtain ⟨t2, h3, h4⟩ := sayP_pre l (grow x.off x.len (b ++ x.lit))
    refine ⟨x.lit ++ (t1 ++ t2), ?_, by simp [tot]; omega⟩
    rw [sayP, h3, h1]
    simp
/-- an end ahead of its own -/
theorem walk_open (bs : List Nat) (ahead most : Nat) : ∀ (l : List Pc) (f i said : Nat), bs.drop i = enc l → i ≤ bs.length → okP (ahead + said) l → said + tot l ≤ most → l.length < f → (walk bs ahead most f i said).2 = (30, bs.length)
  | _, 0, _, _, _, _, _, _, hf => by omega
  | [], f + 1, i, said, hb, hi, _, hr, _ => by
    have := drop_len bs _ i hb hi
    simp only [enc, List.length_nil, Nat.add_zero] at this
    have hn : next bs i said ahead most = ⟨30, bs.length, 0, 0, 0, 0, 0⟩ := by
      unfold next
      rw [if_pos (by omega)]
    rw [walk, hn, if_pos (by simp)]
  | x :: l, f + 1, i, said, hb, hi, ho, hr, hf => by
    obtain ⟨o1, o2, o3, o4, o5⟩ := ho
    simp only [tot] at hr
    simp only [List.length_cons] at hf
    have hb2 : bs.drop i = enc1 x ++ enc l := hb
    have hn := next_enc bs _ x i said ahead most hb2 o1 o2 o3 o4 (by omega)
    have hd := drop_more bs _ _ _ hb2
    have hlen := drop_len bs _ i hb2 hi
    rw [List.length_append] at hlen
    rw [enc1_length x o1] at hd hlen
    rw [walk, hn]
    simp only
    rw [if_neg (by simp), if_neg (by omega)]
    exact walk_open bs ahead most l f _ _ hd (by omega) (by rw [show ahead + (said + x.lit.length + x.len) = ahead + said + x.lit.length + x.len by omega]; exact o5) (by omega) (by omega)
end Lz

namespace Lz
theorem head_cut (bs t : List Nat) (m b i said ahead most : Nat) (hb : bs.drop i = (16 * min m 15 + min b 15) :: (lenb m ++ t)) (hr : m + said ≤ most) :
    next bs i said ahead most = nextB bs i (min b 15) said ahead most (0, m, i + 1 + beh m) ∧ bs.drop (i + 1 + beh m) = t ∧ i + 1 + beh m + t.length = bs.length := by
  have hi : i < bs.length := drop_in bs _ i hb (by simp)
  have h0 : bs.getD i 0 = 16 * min m 15 + min b 15 := by
    have := getD_drop bs i 0
    rw [Nat.add_zero, hb] at this
    rw [this]
    rfl
  have h1 : bs.drop (i + 1) = lenb m ++ t := by
    rw [← List.drop_drop, hb]
    simp
  have h2 : bs.drop (i + 1 + beh m) = t := by
    have := drop_more bs _ _ _ h1
    rwa [lenb_length] at this
  refine ⟨?_, h2, ?_⟩
  · unfold next
    rw [if_neg (by omega), h0, tok_hi, tok_lo]
    have := counted_enc bs _ (i + 1) m 0 (most - said) h1 (by omega)
    simp only [Nat.add_zero] at this
    rw [this]
  · have := drop_len bs _ i hb (by omega)
    simp only [List.length_cons, List.length_append, lenb_length] at this
    omega
theorem early_cut (bs : List Nat) (m b i said ahead most j : Nat) (hj : j < beh m) (hb : bs.drop i = (16 * min m 15 + min b 15) :: (lenb m).take j) (hr : m + said ≤ most) :
    next bs i said ahead most = ⟨30, bs.length, 0, 0, 0, 0, 0⟩ := by
  have hi : i < bs.length := drop_in bs _ i hb (by simp)
  have h0 : bs.getD i 0 = 16 * min m 15 + min b 15 := by
    have := getD_drop bs i 0
    rw [Nat.add_zero, hb] at this
    rw [this]
    rfl
  have h1 : bs.drop (i + 1) = (lenb m).take j := by
    rw [← List.drop_drop, hb]
    simp
  unfold next
  rw [if_neg (by omega), h0, tok_hi, tok_lo]
  have := counted_cut bs (i + 1) m 0 (most - said) j hj h1 (by omega)
  simp only [Nat.add_zero] at this
  rw [this]
  unfold nextB
  simp
theorem take_two (o1 o2 : Nat) (t : List Nat) (k : Nat) (h : 2 ≤ k) : ([o1, o2] ++ t).take k = [o1, o2] ++ t.take (k - 2) := by
  obtain ⟨k, rfl⟩ : ∃ n, k = n + 2 := ⟨k - 2, by omega⟩
  simp
theorem next_cut (ts : List Nat) (x : Pc) (i said ahead most j : Nat) (hj : j < (enc1 x).length) (hi : i ≤ ts.length) (hb : ts.drop i = (enc1 x).take j) (h4 : 4 ≤ x.len) (h1 : 1 ≤ x.off) (h2 : x.off ≤ 65535) (h3 : x.off ≤ ahead + said + x.lit.length) (hr : said + x.lit.length + x.len ≤ most) :
    next ts i said ahead most = ⟨30, ts.length, 0, 0, 0, 0, 0⟩ ∨ (ts.drop i = (16 * min x.lit.length 15 + min (x.len - 4) 15) :: (lenb x.lit.length ++ x.lit) ∧ next ts i said ahead most = ⟨0, 0, i + 1 + beh x.lit.length, x.lit.length, 0, 0, ts.length⟩) := by
  have hlen := drop_len ts _ i hb hi
  rw [List.length_take, Nat.min_eq_left (by omega)] at hlen
  have hex : enc1 x = (16 * min x.lit.length 15 + min (x.len - 4) 15) :: (lenb x.lit.length ++ (x.lit ++ ([x.off % 256, x.off / 256] ++ lenb (x.len - 4)))) := by
    simp [enc1, lits]
  rw [enc1_length x h4] at hj
  unfold sz at hj
  rw [if_pos (by omega)] at hj
  rw [hex] at hb
  by_cases c0 : j = 0
  · left
    unfold next
    rw [if_pos (by omega)]
  obtain ⟨j, rfl⟩ : ∃ k, j = k + 1 := ⟨j - 1, by omega⟩
  rw [List.take_succ_cons, List.take_append, lenb_length] at hb
  by_cases c1 : j < beh x.lit.length
  · left
    rw [show j - beh x.lit.length = 0 by omega, List.take_zero, List.append_nil] at hb
    exact early_cut ts _ _ i said ahead most j c1 hb (by omega)
  rw [List.take_of_length_le (by rw [lenb_length]; omega)] at hb
  obtain ⟨e1, e2, e3⟩ := head_cut ts _ _ _ i said ahead most hb (by omega)
  rw [e1]
  unfold nextB
  simp only
  rw [if_neg (by omega), if_neg (by simp)]
  by_cases c2 : j < beh x.lit.length + x.lit.length
  · left
    rw [if_pos (by omega)]
  rw [if_neg (by omega)]
  by_cases c3 : j = beh x.lit.length + x.lit.length
  · right
    rw [if_pos (by omega), show j - beh x.lit.length = x.lit.length by omega, List.take_left] at *
    refine ⟨hb, ?_⟩
    simp only [Part.mk.injEq, true_and]
    omega
  rw [if_neg (by omega)]
  left
  by_cases c4 : j = beh x.lit.length + x.lit.length + 1
  · rw [if_pos (by omega)]
  rw [if_neg (by omega)]
  rw [List.take_append, List.take_of_length_le (by omega), take_two _ _ _ _ (by omega)] at e2
  have e4 := drop_more ts _ _ _ e2
  have e5 : ts.drop (i + 1 + beh x.lit.length + x.lit.length + 2) = (lenb (x.len - 4)).take (j - beh x.lit.length - x.lit.length - 2) := by
    rw [← List.drop_drop, e4]; simp
  have e6 : offAt ts (i + 1 + beh x.lit.length + x.lit.length) = x.off := by
    unfold offAt
    have a := getD_drop ts (i + 1 + beh x.lit.length + x.lit.length) 0
    have b := getD_drop ts (i + 1 + beh x.lit.length + x.lit.length) 1
    rw [e4] at a b
    rw [Nat.add_zero] at a
    rw [a, b]
    show x.off % 256 + 256 * (x.off / 256) = x.off
    omega
  rw [e6, if_neg (by omega)]
  have := counted_cut ts _ (x.len - 4) 4 (most - said - x.lit.length) _ (by omega) e5 (by omega)
  rw [this]
  unfold nextC
  simp
theorem last_cut (ts e : List Nat) (i said ahead most j : Nat) (hj : j < (lits e 0).length) (hi : i ≤ ts.length) (hb : ts.drop i = (lits e 0).take j) (hr : said + e.length ≤ most) :
    next ts i said ahead most = ⟨30, ts.length, 0, 0, 0, 0, 0⟩ := by
  have hlen := drop_len ts _ i hb hi
  rw [List.length_take, Nat.min_eq_left (by omega)] at hlen
  rw [lits_length] at hj
  unfold lits at hb
  by_cases c0 : j = 0
  · unfold next
    rw [if_pos (by omega)]
  obtain ⟨j, rfl⟩ : ∃ k, j = k + 1 := ⟨j - 1, by omega⟩
  rw [List.take_succ_cons, List.take_append, lenb_length] at hb
  by_cases c1 : j < beh e.length
  · rw [show j - beh e.length = 0 by omega, List.take_zero, List.append_nil] at hb
    exact early_cut ts _ _ i said ahead most j c1 hb (by omega)
  rw [List.take_of_length_le (by rw [lenb_length]; omega)] at hb
  obtain ⟨e1, e2, e3⟩ := head_cut ts _ _ _ i said ahead most hb (by omega)
  rw [e1]
  unfold nextB
  simp only
  rw [if_neg (by omega), if_neg (by simp), if_pos (by omega)]
/-- cut anywhere: too short, or an end that says what the text says so far -/
theorem walk_cut (ts e : List Nat) (ahead most : Nat) : ∀ (l : List Pc) (f i said j : Nat) (bef : List Nat), i ≤ ts.length → ts.drop i = (enc l ++ lits e 0).take j → okP (ahead + said) l → said + tot l + e.length ≤ most → l.length < f →
      (walk ts ahead most f i said).2 = (30, ts.length) ∨ ((walk ts ahead most f i said).2 = (0, 0) ∧ says ts bef (walk ts ahead most f i said).1 <+: sayP bef l ++ e ∧ (says ts bef (walk ts ahead most f i said).1).length = bef.length + total (walk ts ahead most f i said).1)
  | _, 0, _, _, _, _, _, _, _, _, hf => by omega
  | [], f + 1, i, said, j, bef, hi, hb, _, hr, _ => by
    simp only [tot, Nat.add_zero] at hr
    rw [enc, List.nil_append] at hb
    by_cases hj : j < (lits e 0).length
    · left
      rw [walk, last_cut ts e i said ahead most j hj hi hb hr, if_pos (by simp)]
    · rw [List.take_of_length_le (by omega)] at hb
      right
      rw [walk, next_last ts e i said ahead most hb hr, if_neg (by simp), if_pos rfl]
      obtain ⟨_, e2, _⟩ := head_enc ts e [] 0 i 0 0 e.length (by rw [hb]; simp) (by omega)
      have hs : says ts bef [seqOf i ⟨0, 0, i + 1 + beh e.length, e.length, 0, 0, ts.length⟩] = bef ++ e := by
        simp only [says_cons, say, seqOf, grow]
        rw [e2]
        simp [says]
      refine ⟨rfl, ?_, ?_⟩
      · rw [hs]; exact List.prefix_refl _
      · rw [hs]; simp [total, seqOf]
  | x :: l, f + 1, i, said, j, bef, hi, hb, ho, hr, hf => by
    obtain ⟨o1, o2, o3, o4, o5⟩ := ho
    simp only [tot] at hr
    simp only [List.length_cons] at hf
    rw [enc, List.append_assoc, List.take_append] at hb
    by_cases hj : j < (enc1 x).length
    · rw [show j - (enc1 x).length = 0 by omega, List.take_zero, List.append_nil] at hb
      rcases next_cut ts x i said ahead most j hj hi hb o1 o2 o3 o4 (by omega) with h | ⟨h1, h2⟩
      · left
        rw [walk, h, if_pos (by simp)]
      · right
        rw [walk, h2, if_neg (by simp), if_pos rfl]
        obtain ⟨_, e2, _⟩ := head_cut ts _ _ _ i 0 0 x.lit.length h1 (by omega)
        have hs : says ts bef [seqOf i ⟨0, 0, i + 1 + beh x.lit.length, x.lit.length, 0, 0, ts.length⟩] = bef ++ x.lit := by
          simp only [says_cons, say, seqOf, grow]
          rw [e2]
          simp [says]
        refine ⟨rfl, ?_, ?_⟩
        · rw [hs, sayP]
          obtain ⟨t1, g1, _⟩ := grow_pre x.off x.len (bef ++ x.lit)
          obtain ⟨t2, g2, _⟩ := sayP_pre l (grow x.off x.len (bef ++ x.lit))
          rw [g2, g1]
          exact ⟨t1 ++ (t2 ++ e), by simp⟩
        · rw [hs]; simp [total, seqOf]
    · rw [List.take_of_length_le (by omega)] at hb
      have hn := next_enc ts _ x i said ahead most hb o1 o2 o3 o4 (by omega)
      have hd := drop_more ts _ _ _ hb
      have hlen := drop_len ts _ i hb hi
      rw [List.length_append] at hlen
      have hin : (ts.drop (i + 1 + beh x.lit.length)).take x.lit.length = x.lit := by
        have hb3 : ts.drop i = lits x.lit (x.len - 4) ++ ([x.off % 256, x.off / 256] ++ (lenb (x.len - 4) ++ (enc l ++ lits e 0).take (j - (enc1 x).length))) := by
          rw [hb]; simp [enc1]
        obtain ⟨_, e2, _⟩ := head_enc ts _ _ _ i 0 0 x.lit.length hb3 (by omega)
        rw [e2, List.take_left]
      rw [enc1_length x o1] at hd hlen
      rw [walk, hn]
      simp only
      rw [if_neg (by simp), if_neg (by omega)]
      have IH := walk_cut ts e ahead most l f (i + sz x.lit.length x.len) (said + x.lit.length + x.len) (j - sz x.lit.length x.len) (grow x.off x.len (bef ++ x.lit)) (by omega) hd (by rw [show ahead + (said + x.lit.length + x.len) = ahead + said + x.lit.length + x.len by omega]; exact o5) (by omega) (by omega)
      rcases IH with h | ⟨h1, h2, h3⟩
      · exact .inl h
      · right
        refine ⟨h1, ?_, ?_⟩
        · rw [says_cons]
          simp only [say, seqOf]
          rw [hin]
          exact h2
        · rw [says_cons]
          simp only [say, seqOf]
          rw [hin, h3]
          obtain ⟨t1, g1, g2⟩ := grow_pre x.off x.len (bef ++ x.lit)
          rw [g1]
          simp only [List.length_append, total]
          omega
theorem nextC_place41 (bs : List Nat) (token frm many off : Nat) (m : Nat × Nat × Nat) (h : (nextC bs token frm many off m).code = 41) : (nextC bs token frm many off m).place = token := by
  unfold nextC at h ⊢
  by_cases h1 : m.1 = 41
  · rw [if_pos h1]
  · rw [if_neg h1] at h ⊢
    by_cases h2 : m.1 ≠ 0
    · rw [if_pos h2] at h
      cases h
    · rw [if_neg h2] at h
      cases h
theorem nextB_place41 (bs : List Nat) (token low said ahead most : Nat) (c : Nat × Nat × Nat) (h : (nextB bs token low said ahead most c).code = 41) : (nextB bs token low said ahead most c).place = token := by
  unfold nextB at h ⊢
  by_cases h1 : c.1 = 41
  · rw [if_pos h1]
  rw [if_neg h1] at h ⊢
  by_cases h2 : c.1 ≠ 0
  · rw [if_pos h2] at h
    cases h
  rw [if_neg h2] at h ⊢
  by_cases h3 : bs.length < c.2.2 + c.2.1
  · rw [if_pos h3] at h
    cases h
  rw [if_neg h3] at h ⊢
  by_cases h4 : c.2.2 + c.2.1 = bs.length
  · rw [if_pos h4] at h
    cases h
  rw [if_neg h4] at h ⊢
  by_cases h5 : c.2.2 + c.2.1 + 1 = bs.length
  · rw [if_pos h5] at h
    cases h
  rw [if_neg h5] at h ⊢
  by_cases h6 : offAt bs (c.2.2 + c.2.1) = 0 ∨ ahead + said + c.2.1 < offAt bs (c.2.2 + c.2.1)
  · rw [if_pos h6] at h
    cases h
  rw [if_neg h6] at h ⊢
  exact nextC_place41 _ _ _ _ _ _ h
theorem next_place41 (bs : List Nat) (i said ahead most : Nat) (h : (next bs i said ahead most).code = 41) : (next bs i said ahead most).place = i := by
  unfold next at h ⊢
  by_cases h1 : bs.length ≤ i
  · rw [if_pos h1] at h
    cases h
  rw [if_neg h1] at h ⊢
  exact nextB_place41 _ _ _ _ _ _ _ h
/-- too little room shows at a sequence's place -/
theorem walk_place (bs : List Nat) (ahead m1 m2 : Nat) (h : m1 ≤ m2) : ∀ (f i said : Nat), (walk bs ahead m1 f i said).2.1 = 41 → (walk bs ahead m2 f i said).2.1 = 0 → ∃ x ∈ (walk bs ahead m2 f i said).1, (walk bs ahead m1 f i said).2.2 = x.token
  | 0, i, said, h1, _ => by simp [walk] at h1
  | f + 1, i, said, h1, h2 => by
    by_cases hc : (next bs i said ahead m1).code = 41
    · have hp : (next bs i said ahead m1).place = i := next_place41 bs i said ahead m1 hc
      have h3 : (walk bs ahead m1 (f + 1) i said).2.2 = i := by
        rw [walk, if_pos (by rw [hc]; simp)]
        exact hp
      rw [h3]
      rw [walk] at h2 ⊢
      split at h2
      · rename_i h0
        exact absurd h2 h0
      · rename_i h0
        rw [if_neg h0]
        split
        · exact ⟨_, List.mem_singleton_self _, rfl⟩
        · exact ⟨_, List.mem_cons_self .., rfl⟩
    · have hn := next_more bs i said ahead m1 m2 h hc
      rw [walk] at h1 h2 ⊢
      rw [hn] at h2 ⊢
      split at h1
      · rename_i h0
        rw [if_pos h0] at h2
        exact absurd h2 h0
      · rename_i h0
        rw [if_neg h0] at h2 ⊢
        split at h1
        · cases h1
        · rename_i h9
          rw [if_neg h9] at h2 ⊢
          obtain ⟨x, hx, he⟩ := walk_place bs ahead m1 m2 h f _ _ h1 h2
          refine ⟨x, List.mem_cons_of_mem _ hx, ?_⟩
          rw [walk, if_neg h0, if_neg h9]
          exact he
end Lz

namespace Lz
/-- a copy that may stand, and says what stands there -/
def Tru (bs : List Nat) (c : Cp) : Prop := 4 ≤ c.cnt ∧ 1 ≤ c.off ∧ c.off ≤ 65535 ∧ c.off ≤ c.at_ ∧ c.at_ + 12 ≤ bs.length ∧ c.at_ + c.cnt + 5 ≤ bs.length ∧ ∀ k, k < c.cnt → bs.getD (c.at_ + k) 0 = bs.getD (c.at_ + k - c.off) 0
def tru (bs : List Nat) : Nat → List Cp → Prop
  | _, [] => True
  | i, c :: l => i ≤ c.at_ ∧ Tru bs c ∧ tru bs (c.at_ + c.cnt) l
def pcs (bs : List Nat) : Nat → List Cp → List Pc
  | _, [] => []
  | i, c :: l => ⟨(bs.take c.at_).drop i, c.off, c.cnt⟩ :: pcs bs (c.at_ + c.cnt) l
/-- where the last literals begin -/
def restOf : Nat → List Cp → Nat
  | i, [] => i
  | _, c :: l => restOf (c.at_ + c.cnt) l
theorem packed_enc (bs : List Nat) : ∀ (l : List Cp) (i : Nat), packed bs i l = enc (pcs bs i l) ++ lits (bs.drop (restOf i l)) 0
  | [], i => by simp [packed, pcs, enc, restOf]
  | c :: l, i => by
    rw [packed, packed_enc bs l, pcs, enc, restOf]
    simp [enc1]
theorem restOf_le (bs : List Nat) : ∀ (l : List Cp) (i : Nat), i ≤ bs.length → tru bs i l → i ≤ restOf i l ∧ restOf i l ≤ bs.length
  | [], i, h, _ => ⟨Nat.le_refl _, h⟩
  | c :: l, i, h, ⟨h1, h2, h3⟩ => by
    obtain ⟨t1, t2, t3, t4, t5, t6, t7⟩ := h2
    have := restOf_le bs l (c.at_ + c.cnt) (by omega) h3
    rw [restOf]
    omega
theorem lit_len (bs : List Nat) (i a : Nat) (h : i ≤ a) (ha : a ≤ bs.length) : ((bs.take a).drop i).length = a - i := by simp; omega
theorem okP_pcs (bs : List Nat) : ∀ (l : List Cp) (i : Nat), tru bs i l → okP i (pcs bs i l)
  | [], i, _ => trivial
  | c :: l, i, ⟨h1, h2, h3⟩ => by
    obtain ⟨t1, t2, t3, t4, t5, t6, t7⟩ := h2
    have hl := lit_len bs i c.at_ h1 (by omega)
    rw [pcs, okP]
    refine ⟨t1, t2, t3, ?_, ?_⟩
    · simp only [hl]; omega
    · simp only [hl]
      rw [show i + (c.at_ - i) + c.cnt = c.at_ + c.cnt by omega]
      exact okP_pcs bs l _ h3
theorem grow_true (bs : List Nat) (a off : Nat) (h1 : 1 ≤ off) (ho : off ≤ a) : ∀ (k : Nat), a + k ≤ bs.length → (∀ j, j < k → bs.getD (a + j) 0 = bs.getD (a + j - off) 0) → grow off k (bs.take a) = bs.take (a + k)
  | 0, _, _ => rfl
  | k + 1, h, ht => by
    rw [grow_add off k 1, grow_true bs a off h1 ho k (by omega) (fun j hj => ht j (by omega)), grow, grow]
    have hlen : (bs.take (a + k)).length = a + k := by simp; omega
    rw [hlen]
    have e1 : (bs.take (a + k)).getD (a + k - off) 0 = bs.getD (a + k - off) 0 := by
      simp only [List.getD_eq_getElem?_getD, List.getElem?_take]
      rw [if_pos (by omega)]
    rw [e1, ← ht k (by omega), ← Nat.add_assoc, List.take_add_one]
    congr 1
    rw [List.getD_eq_getElem?_getD, List.getElem?_eq_getElem (by omega)]
    rfl
theorem sayP_pcs (bs : List Nat) : ∀ (l : List Cp) (i : Nat), i ≤ bs.length → tru bs i l → sayP (bs.take i) (pcs bs i l) = bs.take (restOf i l)
  | [], i, _, _ => rfl
  | c :: l, i, hi, ⟨h1, h2, h3⟩ => by
    obtain ⟨t1, t2, t3, t4, t5, t6, t7⟩ := h2
    have e : bs.take i ++ (bs.take c.at_).drop i = bs.take c.at_ := by
      conv => rhs; rw [← List.take_append_drop i (bs.take c.at_)]
      rw [List.take_take, Nat.min_eq_left h1]
    rw [pcs, sayP, e, grow_true bs c.at_ c.off t2 t4 c.cnt (by omega) t7, sayP_pcs bs l _ (by omega) h3, restOf]
/-- what a packing by true copies says -/
theorem says_pcs (bs : List Nat) (l : List Cp) (h : tru bs 0 l) : sayP [] (pcs bs 0 l) ++ bs.drop (restOf 0 l) = bs := by
  have := sayP_pcs bs l 0 (Nat.zero_le _) h
  rw [List.take_zero] at this
  rw [this, List.take_append_drop]
theorem tot_pcs (bs : List Nat) : ∀ (l : List Cp) (i : Nat), i ≤ bs.length → tru bs i l → i + tot (pcs bs i l) = restOf i l
  | [], i, _, _ => rfl
  | c :: l, i, hi, ⟨h1, h2, h3⟩ => by
    obtain ⟨t1, t2, t3, t4, t5, t6, t7⟩ := h2
    have := tot_pcs bs l (c.at_ + c.cnt) (by omega) h3
    have hl := lit_len bs i c.at_ h1 (by omega)
    rw [pcs, tot, restOf, ← this]
    simp only [hl]
    omega
theorem common_get : ∀ (l m : List Nat) (k : Nat), k < common l m → l.getD k 0 = m.getD k 0
  | a :: l, b :: m, k, h => by
    unfold common at h
    split at h
    · rename_i e
      subst e
      cases k with
      | zero => rfl
      | succ k => simpa using common_get l m k (by omega)
    · omega
  | [], _, k, h => by simp [common] at h
  | _ :: _, [], k, h => by simp [common] at h
theorem agree_get (bs : List Nat) (c p k : Nat) (h : k < agree bs c p) : bs.getD (p + k) 0 = bs.getD (c + k) 0 := by
  have hk : k < bs.length - 5 - p := Nat.lt_of_lt_of_le h (agree_le bs c p)
  unfold agree at h
  have := common_get _ _ _ h
  simp only [List.getD_eq_getElem?_getD, List.getElem?_drop, List.getElem?_take] at this ⊢
  rw [if_pos (by omega)] at this
  exact this
def TruL (bs : List Nat) (p : Nat) (b : Nat × Nat) : Prop := b.2 = 0 ∨ (b.1 ≤ p ∧ ∀ k, k < b.2 → bs.getD (p + k) 0 = bs.getD (p + k - b.1) 0)
theorem longF_true (bs : List Nat) (p : Nat) : ∀ (t : Nat) (c : Int) (b : Nat × Nat), (0 ≤ c → four bs c.toNat = four bs p ∧ c.toNat < p) → TruL bs p b → TruL bs p (longF bs p t c b)
  | 0, c, b, _, hb => hb
  | t + 1, c, b, hc, hb => by
    rw [longF]
    split
    · rename_i h
      obtain ⟨hf, hlt⟩ := hc h.1
      refine longF_true bs p t _ _ ?_ ?_
      · intro h0
        have := nearOf_four bs c.toNat h0
        exact ⟨this.1.trans hf, by omega⟩
      · split
        · refine .inr ⟨by simp, fun k hk => ?_⟩
          have := agree_get bs c.toNat p k hk
          rw [this]
          simp only
          rw [show p + k - (p - c.toNat) = c.toNat + k by omega]
        · exact hb
    · exact hb
theorem long_true (bs : List Nat) (tries p : Nat) : TruL bs p (long bs tries p) := longF_true bs p tries _ _ (fun h => nearOf_four bs p h) (.inl rfl)
theorem greedyF_true (bs : List Nat) (hb : ∀ z ∈ bs, z < 256) (tries : Nat) : ∀ (f p : Nat), tru bs p (greedyF bs tries f p)
  | 0, p => trivial
  | f + 1, p => by
    rw [greedyF]
    split
    · trivial
    · rename_i hp
      split
      · have := greedyF_true bs hb tries f (p + 1)
        cases hg : greedyF bs tries f (p + 1) with
        | nil => trivial
        | cons c l =>
          rw [hg] at this
          obtain ⟨h1, h2, h3⟩ := this
          exact ⟨by omega, h2, h3⟩
      · rename_i h0
        have hgd := long_good bs hb tries p (by omega)
        have htr := long_true bs tries p
        refine ⟨Nat.le_refl _, ?_, greedyF_true bs hb tries f _⟩
        rcases hgd with ⟨h1, _⟩ | ⟨g1, g2, g3, g4, g5⟩
        · exact absurd h1 h0
        · rcases htr with h1 | ⟨_, h2⟩
          · exact absurd h1 h0
          · exact ⟨g1, g3, g4, g5, by show p + 12 ≤ bs.length; omega, by show p + (long bs tries p).2 + 5 ≤ bs.length; omega, h2⟩
theorem greedy_true (bs : List Nat) (hb : ∀ z ∈ bs, z < 256) (tries : Nat) : tru bs 0 (greedy bs tries) := greedyF_true bs hb tries _ 0
end Lz
