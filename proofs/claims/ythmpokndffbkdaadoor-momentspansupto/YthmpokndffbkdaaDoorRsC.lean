/-
  What the document's Span tells is what the program's tells. No program is named here.
-/
import Derived.Test.YthmpokndffbkdaaDoorRsB
namespace Go.Proofs.YthmpokndffbkdaaDoor
open Go.RowKit
set_option linter.unusedVariables false
theorem dig_iff (x : Nat) : dig x = true ↔ 48 ≤ x ∧ x ≤ 57 := by unfold dig; simp
theorem s_short : ∀ (k : Nat) (l : List Nat), (l.takeWhile dig).length ≤ k → sC k l = (l.takeWhile dig).length ∧ sL k l = l.dropWhile dig ∧ ∀ a, sN k a l = numN (l.takeWhile dig).length a (l.takeWhile dig)
  | 0, l, h => by
    have h0 : l.takeWhile dig = [] := List.length_eq_zero_iff.1 (by omega)
    have h1 := List.takeWhile_append_dropWhile (p := dig) (l := l)
    rw [h0, List.nil_append] at h1
    rw [h0]
    exact ⟨rfl, h1.symm, fun a => rfl⟩
  | k + 1, [], h => ⟨rfl, rfl, fun a => rfl⟩
  | k + 1, x :: r, h => by
    by_cases hx : dig x = true
    · have hx2 := (dig_iff x).1 hx
      rw [List.takeWhile_cons, if_pos hx] at h
      obtain ⟨i1, i2, i3⟩ := s_short k r (by simpa using h)
      rw [List.takeWhile_cons, if_pos hx, List.dropWhile_cons, if_pos hx, sC, if_pos hx2, sL, if_pos hx2]
      refine ⟨by rw [i1]; rfl, i2, fun a => ?_⟩
      rw [sN, if_pos hx2, i3, List.length_cons, numN, if_pos hx2]
    · have hx2 : ¬ (48 ≤ x ∧ x ≤ 57) := fun e => hx ((dig_iff x).2 e)
      rw [List.takeWhile_cons, if_neg hx, List.dropWhile_cons, if_neg hx, sC, if_neg hx2, sL, if_neg hx2]
      exact ⟨rfl, rfl, fun a => by rw [sN, if_neg hx2]; rfl⟩
theorem s_long : ∀ (k : Nat) (l : List Nat), k < (l.takeWhile dig).length → sC k l = k
  | 0, l, h => rfl
  | k + 1, [], h => by simp at h
  | k + 1, x :: r, h => by
    by_cases hx : dig x = true
    · have hx2 := (dig_iff x).1 hx
      rw [List.takeWhile_cons, if_pos hx] at h
      rw [sC, if_pos hx2, s_long k r (by simpa using h)]
    · rw [List.takeWhile_cons, if_neg hx] at h
      simp at h
theorem fold_ge : ∀ (l : List Nat) (a : Nat), a ≤ fold10 a l
  | [], a => Nat.le_refl _
  | x :: l, a => by
    unfold fold10
    rw [List.foldl_cons]
    have := fold_ge l (a * 10 + (x - 48))
    unfold fold10 at this
    omega
theorem tw_dig (l : List Nat) : ∀ z ∈ l.takeWhile dig, 48 ≤ z ∧ z ≤ 57 := by
  induction l with
  | nil => intro z hz; cases hz
  | cons x l ih =>
    intro z hz
    rw [List.takeWhile_cons] at hz
    split at hz
    · rename_i hx
      rcases List.mem_cons.1 hz with rfl | hz
      · exact (dig_iff _).1 hx
      · exact ih z hz
    · cases hz
theorem has_tw (l : List Nat) : hasF 48 (l.takeWhile dig) = hasF 48 l := by
  cases l with
  | nil => rfl
  | cons x r =>
    rw [List.takeWhile_cons]
    split
    · rfl
    · rename_i hx
      simp only [hasF]
      have : ¬ x = 48 := fun e => hx (by rw [e]; rfl)
      simp [this]
/-- a part's digits: both refuse the same -/
theorem cnt_same (l : List Nat) : (cntF (cutA l) = 0 ↔ (sC 16 l = 0 ∨ 15 < sC 16 l ∨ hasF 48 l = true)) ∧ (cntF (cutA l) ≠ 0 → sN 16 0 l = cntF (cutA l) ∧ sL 16 l = cutB l) := by
  unfold cutA cutB
  by_cases h15 : (l.takeWhile dig).length ≤ 15
  · obtain ⟨i1, i2, i3⟩ := s_short 16 l (by omega)
    rw [i1, i2, i3 0]
    unfold cntF
    by_cases h48 : hasF 48 l = true
    · rw [if_pos (.inr (by rw [has_tw]; exact h48))]
      exact ⟨⟨fun _ => .inr (.inr h48), fun _ => rfl⟩, fun h => absurd rfl h⟩
    · rw [if_neg (by rw [has_tw]; rintro (h | h); omega; exact h48 h)]
      refine ⟨⟨fun h => ?_, fun h => ?_⟩, fun _ => ⟨rfl, rfl⟩⟩
      · cases e : l.takeWhile dig with
        | nil => exact .inl rfl
        | cons x r =>
          exfalso
          rw [num_all _ 0 (tw_dig l), e] at h
          have hx := tw_dig l x (by rw [e]; simp)
          have h482 : hasF 48 (x :: r) = false := by rw [← e, has_tw]; simpa using h48
          have hne : ¬ x = 48 := by simpa [hasF] using h482
          have := fold_ge r (0 * 10 + (x - 48))
          unfold fold10 at h this
          rw [List.foldl_cons] at h
          omega
      · rcases h with h | h | h
        · rw [List.length_eq_zero_iff.1 h]; rfl
        · omega
        · exact absurd h h48
  · unfold cntF
    rw [if_pos (.inl (by omega))]
    refine ⟨⟨fun _ => ?_, fun _ => rfl⟩, fun h => absurd rfl h⟩
    by_cases h16 : (l.takeWhile dig).length = 16
    · have := (s_short 16 l (by omega)).1
      exact .inr (.inl (by omega))
    · have := s_long 16 l (by omega)
      exact .inr (.inl (by omega))
theorem kI_miss (u : List Nat) : ∀ (j i : Nat) (k : Int), (∀ m, i ≤ m → m < i + j → uname m ≠ u) → kI u j i k = k
  | 0, i, k, h => rfl
  | j + 1, i, k, h => by
    rw [kI, if_neg (h i (by omega) (by omega))]
    exact kI_miss u j (i + 1) k (fun m h1 h2 => h m (by omega) (by omega))
theorem kF_cases (u : List Nat) : (kF u = -1 ∧ ∀ i, i < 5 → uname i ≠ u) ∨ ∃ i, i < 5 ∧ uname i = u ∧ kF u = (i : Int) := by
  by_cases h : ∃ i, i < 5 ∧ uname i = u
  · obtain ⟨i, hi, rfl⟩ := h
    refine .inr ⟨i, hi, rfl, ?_⟩
    rcases (show i = 0 ∨ i = 1 ∨ i = 2 ∨ i = 3 ∨ i = 4 by omega) with rfl | rfl | rfl | rfl | rfl <;> decide
  · refine .inl ⟨?_, fun i hi e => h ⟨i, hi, e⟩⟩
    exact kI_miss u 5 0 (-1) (fun m _ h2 e => h ⟨m, by omega, e⟩)
theorem uf_miss (u : List Nat) : ∀ (k i : Nat), (∀ m, i ≤ m → m < i + k → uname m ≠ u) → ufF u k i = -1
  | 0, i, h => rfl
  | k + 1, i, h => by
    rw [ufF, if_neg (h i (by omega) (by omega))]
    exact uf_miss u k (i + 1) (fun m h1 h2 => h m (by omega) (by omega))
theorem uname_big {i : Nat} (hi : i < 5) : (∀ z ∈ uname i, 97 ≤ z) ∧ (uname i).length ≤ 2 := by
  rcases (show i = 0 ∨ i = 1 ∨ i = 2 ∨ i = 3 ∨ i = 4 by omega) with rfl | rfl | rfl | rfl | rfl <;> decide
/-- letters ahead of a digit, or of the end -/
theorem lT_all : ∀ (k : Nat) (u r : List Nat), (∀ z ∈ u, 97 ≤ z) → u.length ≤ k → (r = [] ∨ ∃ x q, r = x :: q ∧ dig x = true) → lT k (u ++ r) = u ∧ lR k (u ++ r) = r
  | 0, u, r, h1, h2, h3 => by
    have : u = [] := List.length_eq_zero_iff.1 (by omega)
    subst this
    exact ⟨rfl, rfl⟩
  | k + 1, [], r, h1, h2, h3 => by
    rcases h3 with rfl | ⟨x, q, rfl, hx⟩
    · exact ⟨rfl, rfl⟩
    · have := (dig_iff x).1 hx
      rw [List.nil_append, lT, lR, if_neg (by omega), if_neg (by omega)]
      exact ⟨rfl, rfl⟩
  | k + 1, x :: u, r, h1, h2, h3 => by
    have hx := h1 x (by simp)
    obtain ⟨i1, i2⟩ := lT_all k u r (fun z hz => h1 z (by simp [hz])) (by simpa using h2) h3
    rw [List.cons_append, lT, lR, if_pos hx, if_pos hx, i1, i2]
    exact ⟨rfl, rfl⟩
/-- what the document takes for a unit stands at the front of what is no digit -/
theorem lT_pre : ∀ (k : Nat) (r : List Nat), lT k r = r.takeWhile (fun x => !dig x) ∨ ∃ c q, lR k r = c :: q ∧ dig c = false
  | 0, [] => .inl rfl
  | 0, x :: r => by
    by_cases hx : dig x = true
    · exact .inl (by rw [List.takeWhile_cons, hx]; rfl)
    · exact .inr ⟨x, r, rfl, by simpa using hx⟩
  | k + 1, [] => .inl rfl
  | k + 1, x :: r => by
    by_cases hx : 97 ≤ x
    · have hd : dig x = false := by
        cases e : dig x
        · rfl
        · have := (dig_iff x).1 e; omega
      rw [lT, lR, if_pos hx, if_pos hx, List.takeWhile_cons, hd]
      rcases lT_pre k r with h | h
      · exact .inl (by rw [h]; rfl)
      · exact .inr h
    · rw [lT, lR, if_neg hx, if_neg hx, List.takeWhile_cons]
      by_cases hd : dig x = true
      · exact .inl (by rw [hd]; rfl)
      · exact .inr ⟨x, r, rfl, by simpa using hd⟩
theorem rs_dead (f sum nx c : Nat) (q : List Nat) (h : dig c = false) : rsF f (c :: q) sum nx = none := by
  cases f with
  | zero => rfl
  | succ f =>
    have hc : ¬ (48 ≤ c ∧ c ≤ 57) := fun e => by rw [(dig_iff c).2 e] at h; cases h
    rw [rsF, if_neg (fun e => by cases e.1), if_pos (.inl (by rw [sC, if_neg hc]))]
theorem take_tw (r : List Nat) : r.take (unL r) = r.takeWhile (fun x => !dig x) ∧ r.drop (unL r) = r.dropWhile (fun x => !dig x) := by
  have h := List.takeWhile_append_dropWhile (p := fun x => !dig x) (l := r)
  unfold unL
  constructor
  · conv => lhs; arg 2; rw [← h]
    rw [List.take_left]
  · conv => lhs; arg 2; rw [← h]
    rw [List.drop_left]
theorem dw_head (r : List Nat) : r.dropWhile (fun x => !dig x) = [] ∨ ∃ x q, r.dropWhile (fun x => !dig x) = x :: q ∧ dig x = true := by
  induction r with
  | nil => exact .inl rfl
  | cons x r ih =>
    rw [List.dropWhile_cons]
    cases h : dig x
    · exact ih
    · exact .inr ⟨x, r, rfl, h⟩
theorem span_same : ∀ (f : Nat) (l : List Nat) (sum nx : Nat), l.length < f → sum ≤ 253402300799999 → nx ≤ 5 → (l ≠ [] ∨ nx ≠ 0) → rsF f l sum nx = spanF f l sum nx
  | 0, l, sum, nx, h, _, _, _ => by omega
  | f + 1, l, sum, nx, h, hs, hn, ha => by
    rw [rsF, spanF]
    by_cases hl : l = []
    · rw [if_pos hl, if_pos ⟨hl, by rcases ha with h | h; exact absurd hl h; exact h⟩]
    · rw [if_neg hl, if_neg (fun e => hl e.1)]
      obtain ⟨c1, c2⟩ := cnt_same l
      by_cases hc : cntF (cutA l) = 0
      · rw [if_pos hc, if_pos (c1.1 hc)]
      · rw [if_neg hc, if_neg (fun e => hc (c1.2 e))]
        obtain ⟨e1, e2⟩ := c2 hc
        rw [e1, e2]
        have hlt := rL_lt hc
        obtain ⟨t1, t2⟩ := take_tw (cutB l)
        have eU : uL l = (cutB l).takeWhile (fun x => !dig x) := t1
        have eR : rL l = (cutB l).dropWhile (fun x => !dig x) := t2
        have eb : cutB l = uL l ++ rL l := by rw [eU, eR]; exact List.takeWhile_append_dropWhile.symm
        by_cases hu : ∃ i, i < 5 ∧ uname i = uL l
        · obtain ⟨i, hi, hui⟩ := hu
          obtain ⟨g1, g2⟩ := uname_big hi
          have hT := lT_all 2 (uL l) (rL l) (by rw [← hui]; exact g1) (by rw [← hui]; exact g2) (by rw [eR]; exact dw_head _)
          rw [← eb] at hT
          rw [hT.1, hT.2]
          have hk : kF (uL l) = (i : Int) := by
            rcases kF_cases (uL l) with ⟨_, h2⟩ | ⟨j, hj, h2, h3⟩
            · exact absurd hui (h2 i hi)
            · rw [h3, uname_inj hi hj (hui.trans h2.symm)]
          rw [hk]
          by_cases hni : nx ≤ i
          · have huf : ufF (uL l) (5 - nx) nx = (i : Int) := by rw [← hui]; exact uf_name i hi (5 - nx) nx (by omega) hni
            rw [huf, if_neg (show ¬ (i : Int) < (nx : Int) by omega), if_neg (show ¬ (i : Int) < 0 by omega), Int.toNat_natCast]
            have hup := unum_pos i
            by_cases hq : 253402300799999 < sum + cntF (cutA l) * unum i
            · have hd : (253402300799999 - sum) / unum i < cntF (cutA l) := (Nat.div_lt_iff_lt_mul (by omega)).2 (by omega)
              rw [if_pos hd]
              split
              · rfl
              · first | rfl | rw [if_pos hq]
            · have hd : ¬ (253402300799999 - sum) / unum i < cntF (cutA l) := fun e => hq (by have := (Nat.div_lt_iff_lt_mul (by omega)).1 e; omega)
              have hd2 : ¬ 253402300799999 / unum i < cntF (cutA l) := fun e => hq (by have := (Nat.div_lt_iff_lt_mul (by omega)).1 e; omega)
              rw [if_neg hd, if_neg hd2, if_neg hq]
              exact span_same f (rL l) _ (i + 1) (by omega) (by omega) (by omega) (.inr (by omega))
          · have huf : ufF (uL l) (5 - nx) nx = -1 := uf_miss _ _ _ (fun m h1 h2 e => by
              have := uname_inj hi (show m < 5 by omega) (hui.trans e.symm)
              omega)
            rw [huf, if_pos (by omega), if_pos (by decide)]
        · have huf : ufF (uL l) (5 - nx) nx = -1 := uf_miss _ _ _ (fun m h1 h2 e => hu ⟨m, by omega, e⟩)
          rw [huf, if_pos (show (-1 : Int) < 0 by decide)]
          split
          · rfl
          · rename_i hk
            split
            · rfl
            · split
              · rfl
              · rcases lT_pre 2 (cutB l) with h1 | ⟨c, q, h1, h2⟩
                · exfalso
                  rw [← eU] at h1
                  rw [h1] at hk
                  rcases kF_cases (uL l) with ⟨h3, _⟩ | ⟨j, hj, h3, _⟩
                  · rw [h3] at hk; omega
                  · exact hu ⟨j, hj, h3⟩
                · rw [h1]; exact rs_dead _ _ _ _ _ h2
theorem span_ge : ∀ (f : Nat) (l : List Nat) (sum nx s : Nat), spanF f l sum nx = some s → sum ≤ s ∧ (l ≠ [] → 1 ≤ s)
  | 0, l, sum, nx, s, h => by rw [spanF] at h; cases h
  | f + 1, l, sum, nx, s, h => by
    rw [spanF] at h
    by_cases hl : l = []
    · rw [if_pos hl] at h
      cases h
      exact ⟨Nat.le_refl _, fun e => absurd hl e⟩
    · rw [if_neg hl] at h
      by_cases hc : cntF (cutA l) = 0
      · rw [if_pos hc] at h; cases h
      · rw [if_neg hc] at h
        split at h
        · cases h
        · split at h
          · cases h
          · have h1 := (span_ge f _ _ _ _ h).1
            have h2 := unum_pos (ufF (uL l) (5 - nx) nx).toNat
            have h3 : 1 * 1 ≤ cntF (cutA l) * unum (ufF (uL l) (5 - nx) nx).toNat := Nat.mul_le_mul (by omega) h2
            exact ⟨by omega, fun _ => by omega⟩
theorem span_two (l : List Nat) : rsR (rsF (l.length + 1) l 0 0) = spanR (spanF (l.length + 1) l 0 0) := by
  by_cases hl : l = []
  · subst hl; rfl
  · rw [span_same (l.length + 1) l 0 0 (by omega) (by decide) (by decide) (.inl hl)]
    cases e : spanF (l.length + 1) l 0 0 with
    | none => rfl
    | some s =>
      have := (span_ge _ _ _ _ _ e).2 hl
      simp only [rsR, spanR]
      rw [if_neg (by omega)]
end Go.Proofs.YthmpokndffbkdaaDoor
