/-
  A span's parts, from the greatest unit to the least, are read as what they are together. No program is named here.
-/
import Derived.Test.YthmpokndffbkdaaDoorPk12
namespace Go.Proofs.YthmpokndffbkdaaDoor
open Go.RowKit
set_option linter.unusedVariables false
theorem dec_dig : ∀ (f u : Nat), u < f → ∀ z ∈ dec u, 48 ≤ z ∧ z ≤ 57
  | 0, u, h => by omega
  | f + 1, u, h => by
    intro z hz
    by_cases c : u < 10
    · rw [dec_small u c] at hz
      have : z = 48 + u := by simpa using hz
      omega
    · rw [dec_step u c] at hz
      rcases List.mem_append.1 hz with k | k
      · exact dec_dig f (u / 10) (by omega) z k
      · have : z = 48 + u % 10 := by simpa using k
        omega
theorem dec_head : ∀ (f u : Nat), u < f → 1 ≤ u → ∃ x r, dec u = x :: r ∧ 49 ≤ x ∧ x ≤ 57
  | 0, u, h, _ => by omega
  | f + 1, u, h, h1 => by
    by_cases c : u < 10
    · exact ⟨48 + u, [], dec_small u c, by omega, by omega⟩
    · obtain ⟨x, r, e, h2, h3⟩ := dec_head f (u / 10) (by omega) (by omega)
      exact ⟨x, r ++ [48 + u % 10], by rw [dec_step u c, e]; rfl, h2, h3⟩
def fold10 (a : Nat) (l : List Nat) : Nat := l.foldl (fun a x => a * 10 + (x - 48)) a
theorem num_all : ∀ (l : List Nat) (a : Nat), (∀ z ∈ l, 48 ≤ z ∧ z ≤ 57) → numN l.length a l = fold10 a l
  | [], a, _ => rfl
  | x :: l, a, h => by
    rw [List.length_cons, numN, if_pos (h x (by simp)), num_all l _ (fun z hz => h z (by simp [hz]))]
    rfl
theorem fold_dec : ∀ (f u : Nat), u < f → fold10 0 (dec u) = u
  | 0, u, h => by omega
  | f + 1, u, h => by
    by_cases c : u < 10
    · rw [dec_small u c]; simp [fold10]
    · rw [dec_step u c]
      have ih := fold_dec f (u / 10) (by omega)
      unfold fold10 at ih ⊢
      rw [List.foldl_append, ih]
      simp only [List.foldl_cons, List.foldl_nil]
      omega
theorem cnt_dec (u : Nat) (h1 : 1 ≤ u) (h2 : u ≤ 253402300799999) : cntF (dec u) = u := by
  unfold cntF
  have hl := dec_short u h2
  obtain ⟨x, r, e, h3, h4⟩ := dec_head (u + 1) u (Nat.lt_succ_self _) h1
  have hz : hasF 48 (dec u) = false := by rw [e]; simp [hasF]; omega
  rw [if_neg (by rw [hz]; simp; omega), num_all _ _ (dec_dig (u + 1) u (Nat.lt_succ_self _)), fold_dec (u + 1) u (Nat.lt_succ_self _)]
theorem tw_app (p : Nat → Bool) : ∀ (l r : List Nat), (∀ z ∈ l, p z = true) → (r = [] ∨ ∃ x q, r = x :: q ∧ p x = false) → (l ++ r).takeWhile p = l ∧ (l ++ r).dropWhile p = r
  | [], r, _, h => by
    rcases h with rfl | ⟨x, q, rfl, hx⟩
    · exact ⟨rfl, rfl⟩
    · simp [hx]
  | x :: l, r, h, hr => by
    have hx := h x (by simp)
    have ih := tw_app p l r (fun z hz => h z (by simp [hz])) hr
    simp [hx, ih.1, ih.2]
theorem uname_nd (i : Nat) : (∀ z ∈ uname i, dig z = false) ∧ uname i ≠ [] := by
  unfold uname
  split; exact ⟨by decide, by decide⟩
  split; exact ⟨by decide, by decide⟩
  split; exact ⟨by decide, by decide⟩
  split; exact ⟨by decide, by decide⟩
  exact ⟨by decide, by decide⟩
theorem part_cut (u i : Nat) (r : List Nat) (h1 : 1 ≤ u) (hr : r = [] ∨ ∃ x q, r = x :: q ∧ dig x = true) : cutA (dec u ++ (uname i ++ r)) = dec u ∧ uL (dec u ++ (uname i ++ r)) = uname i ∧ rL (dec u ++ (uname i ++ r)) = r := by
  obtain ⟨hn, hne⟩ := uname_nd i
  have hd : ∀ z ∈ dec u, dig z = true := fun z hz => by
    have := dec_dig (u + 1) u (Nat.lt_succ_self _) z hz
    simp [dig]; omega
  obtain ⟨a, b⟩ := tw_app dig (dec u) (uname i ++ r) hd (by
    cases e : uname i with
    | nil => exact absurd e hne
    | cons x q => exact .inr ⟨x, q ++ r, by simp, hn x (by rw [e]; simp)⟩)
  have hb : cutB (dec u ++ (uname i ++ r)) = uname i ++ r := b
  obtain ⟨c, d⟩ := tw_app (fun x => !dig x) (uname i) r (fun z hz => by simp [hn z hz]) (by
    rcases hr with rfl | ⟨x, q, rfl, hx⟩
    · exact .inl rfl
    · exact .inr ⟨x, q, rfl, by simp [hx]⟩)
  refine ⟨a, ?_, ?_⟩
  · unfold uL unL
    rw [hb, c, List.take_left]
  · unfold rL unL
    rw [hb, c, List.drop_left]
theorem uname_inj {i j : Nat} (hi : i < 5) (hj : j < 5) (h : uname i = uname j) : i = j := by
  rcases (show i = 0 ∨ i = 1 ∨ i = 2 ∨ i = 3 ∨ i = 4 by omega) with rfl | rfl | rfl | rfl | rfl <;> rcases (show j = 0 ∨ j = 1 ∨ j = 2 ∨ j = 3 ∨ j = 4 by omega) with rfl | rfl | rfl | rfl | rfl <;> first | rfl | (revert h; decide)
theorem uf_name (i : Nat) (hi : i < 5) : ∀ k nx, nx + k = 5 → nx ≤ i → ufF (uname i) k nx = (i : Int)
  | 0, nx, h, h2 => by omega
  | k + 1, nx, h, h2 => by
    rw [ufF]
    by_cases e : uname nx = uname i
    · rw [if_pos e, uname_inj (by omega) hi e]
    · rw [if_neg e]
      have : nx ≠ i := fun x => e (by rw [x])
      exact uf_name i hi k (nx + 1) (by omega) (by omega)
/-- the parts from a unit on -/
def txF (c : Nat → Nat) : Nat → Nat → List Nat
  | 0, _ => []
  | k + 1, i => (if 0 < c i then dec (c i) ++ uname i else []) ++ txF c k (i + 1)
def smF (c : Nat → Nat) : Nat → Nat → Nat
  | 0, _ => 0
  | k + 1, i => c i * unum i + smF c k (i + 1)
theorem tx_head (c : Nat → Nat) : ∀ k i, txF c k i = [] ∨ ∃ x q, txF c k i = x :: q ∧ dig x = true
  | 0, i => .inl rfl
  | k + 1, i => by
    rw [txF]
    by_cases h : 0 < c i
    · rw [if_pos h]
      obtain ⟨x, r, e, h3, h4⟩ := dec_head (c i + 1) (c i) (Nat.lt_succ_self _) h
      exact .inr ⟨x, _, by rw [e]; rfl, by simp [dig]; omega⟩
    · rw [if_neg h]
      exact tx_head c k (i + 1)
theorem unum_pos (i : Nat) : 1 ≤ unum i := by unfold unum; split; decide; split; decide; split; decide; split; decide; decide
theorem span_tx (c : Nat → Nat) : ∀ k i sum nx f, i + k = 5 → nx ≤ i → sum + smF c k i ≤ 253402300799999 → (txF c k i).length < f → spanF f (txF c k i) sum nx = some (sum + smF c k i)
  | 0, i, sum, nx, f, h1, h2, h3, h4 => by
    obtain ⟨f', rfl⟩ : ∃ f', f = f' + 1 := ⟨f - 1, by omega⟩
    rw [txF, spanF, if_pos rfl]; rfl
  | k + 1, i, sum, nx, f, h1, h2, h3, h4 => by
    rw [smF] at h3 ⊢
    by_cases h : 0 < c i
    · rw [txF, if_pos h, List.append_assoc] at h4 ⊢
      obtain ⟨f', rfl⟩ : ∃ f', f = f' + 1 := ⟨f - 1, by omega⟩
      have hp := unum_pos i
      have hc : c i * 1 ≤ c i * unum i := Nat.mul_le_mul_left _ hp
      have hcb : c i ≤ 253402300799999 := by omega
      obtain ⟨e1, e2, e3⟩ := part_cut (c i) i (txF c k (i + 1)) h (tx_head c k (i + 1))
      have hne : ¬ dec (c i) ++ (uname i ++ txF c k (i + 1)) = [] := by
        obtain ⟨x, r, e, _, _⟩ := dec_head (c i + 1) (c i) (Nat.lt_succ_self _) h
        rw [e]; simp
      have hu := uf_name i (by omega) (5 - nx) nx (by omega) h2
      rw [spanF, if_neg hne, e1, e2, e3, cnt_dec (c i) h hcb, if_neg (by omega), hu, if_neg (by omega), Int.toNat_natCast]
      have hdiv : ¬ (253402300799999 - sum) / unum i < c i := by
        rw [Nat.not_lt, Nat.le_div_iff_mul_le hp]
        omega
      rw [if_neg hdiv]
      have hl : (txF c k (i + 1)).length < f' := by
        rw [List.length_append, List.length_append] at h4
        have : (dec (c i)).length ≠ 0 := by
          obtain ⟨x, r, e, _, _⟩ := dec_head (c i + 1) (c i) (Nat.lt_succ_self _) h
          rw [e]; simp
        omega
      rw [span_tx c k (i + 1) (sum + c i * unum i) (i + 1) f' (by omega) (Nat.le_refl _) (by omega) hl]
      congr 1
      omega
    · have h0 : c i = 0 := by omega
      rw [txF, if_neg h, List.nil_append] at h4 ⊢
      rw [span_tx c k (i + 1) sum nx f (by omega) (by omega) (by rw [h0] at h3; omega) h4, h0]
      congr 1
      omega
theorem spT_tx (n : Nat) : spT n 5 = txF (fun i => spRm n i / unum i) 5 0 := by
  simp only [spT, txF, List.nil_append, List.append_nil, List.append_assoc]
theorem spT_sum (n : Nat) : smF (fun i => spRm n i / unum i) 5 0 = n := by
  have r0 : spRm n 0 = n := rfl
  have r1 : spRm n 1 = spRm n 0 % unum 0 := rfl
  have r2 : spRm n 2 = spRm n 1 % unum 1 := rfl
  have r3 : spRm n 3 = spRm n 2 % unum 2 := rfl
  have r4 : spRm n 4 = spRm n 3 % unum 3 := rfl
  have u0 : unum 0 = 86400000 := rfl
  have u1 : unum 1 = 3600000 := rfl
  have u2 : unum 2 = 60000 := rfl
  have u3 : unum 3 = 1000 := rfl
  have u4 : unum 4 = 1 := rfl
  simp only [smF]
  rw [u0] at r1
  rw [u1] at r2
  rw [u2] at r3
  rw [u3] at r4
  simp only [u0, u1, u2, u3, u4, Nat.zero_add, show (1 : Nat) + 1 = 2 from rfl, show (2 : Nat) + 1 = 3 from rfl, show (3 : Nat) + 1 = 4 from rfl]
  omega
theorem span_spell (n : Nat) (h1 : 1 ≤ n) (h2 : n ≤ 253402300799999) : spanR (spanF ((spT n 5).length + 1) (spT n 5) 0 0) = .returned (.tuple #[.int .i64 (n : Int), .int .i64 0]) := by
  have := span_tx (fun i => spRm n i / unum i) 5 0 0 0 ((spT n 5).length + 1) (by decide) (by decide) (by rw [spT_sum]; omega) (by rw [← spT_tx]; exact Nat.lt_succ_self _)
  rw [← spT_tx, spT_sum, Nat.zero_add] at this
  rw [this]
  simp only [spanR]
  rw [if_neg (by omega)]
end Go.Proofs.YthmpokndffbkdaaDoor
