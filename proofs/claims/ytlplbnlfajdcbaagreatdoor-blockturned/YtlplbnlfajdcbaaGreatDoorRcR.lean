/-
  What is read of a payload, of its beginnings, and of it with bytes behind: plain facts, no Go in sight. Conditions: lines that may be.
-/
import Derived.Test.YtlplbnlfajdcbaaGreatDoorRcQ
set_option linter.unusedVariables false
namespace Rec
open Code Sums
theorem rdF_short : ∀ (f' f i a m j : Nat), f + i = 10 → i ≤ 9 → m < 2 ^ (64 - 7 * i) → m < 128 ^ (f' + 1) → (0 < i → 0 < m) → j < (enc f' m).length → rdF f i a ((enc f' m).take j) = (0, 30, 0) := by
  intro f'
  induction f' with
  | zero =>
    intro f i a m j hf hi hm h1 h0 hj
    obtain ⟨f, rfl⟩ : ∃ k, f = k + 1 := ⟨f - 1, by omega⟩
    have hm1 : m < 128 := by simpa using h1
    rw [enc_one _ _ hm1] at hj ⊢
    obtain rfl : j = 0 := by simpa using hj
    exact rdF_nil f i a
  | succ f' ih =>
    intro f i a m j hf hi hm h1 h0 hj
    obtain ⟨f, rfl⟩ : ∃ k, f = k + 1 := ⟨f - 1, by omega⟩
    by_cases hm1 : m < 128
    · rw [enc_one _ _ hm1] at hj ⊢
      obtain rfl : j = 0 := by simpa using hj
      exact rdF_nil f i a
    · rw [enc_more _ _ hm1] at hj ⊢
      cases j with
      | zero => exact rdF_nil f i a
      | succ j =>
        have hi8 : i ≤ 8 := by
          by_cases h : i = 9
          · subst h; simp at hm; omega
          · omega
        rw [List.take_succ_cons, rdF_cons, if_neg (by omega), if_neg (by omega), if_neg (by omega)]
        have hp := pow64 i hi8
        exact ih f (i + 1) _ (m / 128) j (by omega) (by omega) (by rw [hp] at hm; exact Nat.div_lt_of_lt_mul hm) (by rw [Nat.pow_succ] at h1; exact Nat.div_lt_of_lt_mul (by rw [Nat.mul_comm]; exact h1)) (by omega) (by rw [List.length_cons] at hj; omega)
theorem rd_short (n j : Nat) (h : n < 18446744073709551616) (hj : j < (uint n).length) : rd ((uint n).take j) = (0, 30, 0) := by
  unfold rd uint
  exact rdF_short 10 10 0 0 n j rfl (by omega) (by simpa using h) (by omega) (by omega) hj
/-- a number, cut or not -/
theorem rd_cut (n j : Nat) (rest : List Nat) (h : n < 18446744073709551616) : (j < (uint n).length → (rd ((uint n ++ rest).take j)).2.1 = 30) ∧ ((uint n).length ≤ j → rd ((uint n ++ rest).take j) = (n, 0, (uint n).length) ∧ ((uint n ++ rest).take j).drop (uint n).length = rest.take (j - (uint n).length)) := by
  constructor
  · intro hj
    rw [List.take_append_of_le_length (by omega), rd_short n j h hj]
  · intro hj
    rw [List.take_append, List.take_of_length_le hj]
    exact ⟨rd_uint n _ h, List.drop_left⟩
theorem drop_cut {s : ByteArray} {a k : Nat} {l : List Nat} (h : (bl s).drop a = l) : (bl s).drop (a + k) = l.drop k := by
  rw [← List.drop_drop, h]
theorem st_cut (s : ByteArray) (rest : List Nat) : ∀ (S : List Int) (p : Int) (a j : Nat), 0 ≤ p → p ≤ MS → (∀ x ∈ S, 0 ≤ x ∧ x ≤ MS) → (bl s).drop a = (stN p S ++ rest).take j →
    (j < (stN p S).length → (stF s S.length a p).1 = 30) ∧ ((stN p S).length ≤ j → stF s S.length a p = (0, S, a + (stN p S).length) ∧ (bl s).drop (a + (stN p S).length) = rest.take (j - (stN p S).length))
  | [], p, a, j, _, _, _, h => by
    refine ⟨fun hj => absurd hj (by simp [stN]), fun _ => ⟨rfl, ?_⟩⟩
    exact h
  | x :: S, p, a, j, h0, h1, hS, h => by
    have hx := hS x (List.mem_cons_self ..)
    have hms : MS = 253402300799999 := rfl
    have hzl := zig_lt (x - p) (by omega) (by omega)
    have e1 : stN p (x :: S) = uint (zig (x - p)) ++ stN x S := rfl
    obtain ⟨c1, c2⟩ := rd_cut (zig (x - p)) j (stN x S ++ rest) hzl
    rw [e1, List.append_assoc] at h
    rw [e1, List.length_append]
    by_cases hj : j < (uint (zig (x - p))).length
    · have hr := c1 hj
      rw [← h] at hr
      refine ⟨fun _ => ?_, fun hj2 => by omega⟩
      rw [List.length_cons, stF, if_pos (by rw [hr]; decide)]
      exact hr
    · obtain ⟨d1, d2⟩ := c2 (by omega)
      rw [← h] at d1 d2
      have d3 : (bl s).drop (a + (uint (zig (x - p))).length) = (stN x S ++ rest).take (j - (uint (zig (x - p))).length) := by rw [← List.drop_drop]; exact d2
      obtain ⟨i1, i2⟩ := st_cut s rest S x _ _ hx.1 hx.2 (fun y hy => hS y (List.mem_cons_of_mem _ hy)) d3
      have hstep : stF s (x :: S).length a p = ((stF s S.length (a + (uint (zig (x - p))).length) x).1, x :: (stF s S.length (a + (uint (zig (x - p))).length) x).2.1, (stF s S.length (a + (uint (zig (x - p))).length) x).2.2) := by
        rw [List.length_cons, stF, d1]
        simp only
        rw [if_neg (by simp), zag_zig, if_neg (by omega), show p + (x - p) = x by omega]
      rw [hstep]
      refine ⟨fun hj2 => i1 (by omega), fun hj2 => ?_⟩
      obtain ⟨f1, f2⟩ := i2 (by omega)
      rw [f1]
      refine ⟨by rw [Nat.add_assoc], ?_⟩
      rw [← Nat.add_assoc, f2]
      congr 1
      omega
theorem ln_cut (s : ByteArray) (rest : List Nat) : ∀ (N : List Nat) (a j : Nat), (∀ x ∈ N, x ≤ 8192) → (bl s).drop a = (lnN N ++ rest).take j →
    (j < (lnN N).length → (lnF s N.length a).1 = 30) ∧ ((lnN N).length ≤ j → lnF s N.length a = (0, N, a + (lnN N).length) ∧ (bl s).drop (a + (lnN N).length) = rest.take (j - (lnN N).length))
  | [], a, j, _, h => by
    refine ⟨fun hj => absurd hj (by simp [lnN]), fun _ => ⟨rfl, ?_⟩⟩
    exact h
  | x :: N, a, j, hN, h => by
    have hx := hN x (List.mem_cons_self ..)
    have e1 : lnN (x :: N) = uint x ++ lnN N := rfl
    obtain ⟨c1, c2⟩ := rd_cut x j (lnN N ++ rest) (by omega)
    rw [e1, List.append_assoc] at h
    rw [e1, List.length_append]
    by_cases hj : j < (uint x).length
    · have hr := c1 hj
      rw [← h] at hr
      refine ⟨fun _ => ?_, fun hj2 => by omega⟩
      rw [List.length_cons, lnF, if_pos (by rw [hr]; decide)]
      exact hr
    · obtain ⟨d1, d2⟩ := c2 (by omega)
      rw [← h] at d1 d2
      have d3 : (bl s).drop (a + (uint x).length) = (lnN N ++ rest).take (j - (uint x).length) := by rw [← List.drop_drop]; exact d2
      obtain ⟨i1, i2⟩ := ln_cut s rest N _ _ (fun y hy => hN y (List.mem_cons_of_mem _ hy)) d3
      have hstep : lnF s (x :: N).length a = ((lnF s N.length (a + (uint x).length)).1, x :: (lnF s N.length (a + (uint x).length)).2.1, (lnF s N.length (a + (uint x).length)).2.2) := by
        rw [List.length_cons, lnF, d1]
        simp only
        rw [if_neg (by simp), if_neg (by omega)]
      rw [hstep]
      refine ⟨fun hj2 => i1 (by omega), fun hj2 => ?_⟩
      obtain ⟨f1, f2⟩ := i2 (by omega)
      rw [f1]
      refine ⟨by rw [Nat.add_assoc], ?_⟩
      rw [← Nat.add_assoc, f2]
      congr 1
      omega
theorem tx_cut (s : ByteArray) (tail : List Nat) : ∀ (L : List Ln) (a j : Nat), a ≤ s.size → (∀ x ∈ L, nl x.2 < 0) → (bl s).drop a = (txs L ++ tail).take j →
    (j < (txs L).length → (txF s (sts L) (lns L) a).1 = 30) ∧ ((txs L).length ≤ j → txF s (sts L) (lns L) a = if tail.take (j - (txs L).length) = [] then (0, L, 0) else (34, L, a + (txs L).length))
  | [], a, j, ha, _, h => by
    refine ⟨fun hj => absurd hj (by simp [txs]), fun _ => ?_⟩
    have hl := congrArg List.length h
    rw [List.length_drop, bl_length] at hl
    have e : (txs [] ++ tail).take j = tail.take (j - (txs []).length) := rfl
    rw [e] at hl
    show txF s [] [] a = _
    have et : txF s [] [] a = if a < s.size then (34, [], a) else (0, [], 0) := by unfold txF; rfl
    rw [et]
    by_cases hz : tail.take (j - (txs []).length) = []
    · rw [hz] at hl
      rw [if_pos hz, if_neg (by rw [List.length_nil] at hl; omega)]
    · have : 0 < (tail.take (j - (txs []).length)).length := List.length_pos_iff.2 hz
      rw [if_neg hz, if_pos (by omega)]
      rfl
  | x :: L, a, j, ha, hN, h => by
    have hx := hN x (List.mem_cons_self ..)
    have e1 : txs (x :: L) = bl x.2 ++ txs L := rfl
    rw [e1, List.append_assoc] at h
    rw [e1, List.length_append, bl_length]
    have hl := congrArg List.length h
    rw [List.length_drop, bl_length, List.length_take, List.length_append, bl_length] at hl
    have e2 : txF s (sts (x :: L)) (lns (x :: L)) a = if s.size < a + x.2.size then (30, [], s.size) else if 0 ≤ nl (s.extract a (a + x.2.size)) then (170, [], a + (nl (s.extract a (a + x.2.size))).toNat) else ((txF s (sts L) (lns L) (a + x.2.size)).1, (x.1, s.extract a (a + x.2.size)) :: (txF s (sts L) (lns L) (a + x.2.size)).2.1, (txF s (sts L) (lns L) (a + x.2.size)).2.2) := rfl
    by_cases hj : j < x.2.size
    · refine ⟨fun _ => ?_, fun hj2 => by omega⟩
      rw [e2, if_pos (by omega)]
    · have hext : s.extract a (a + x.2.size) = x.2 := by
        apply bl_inj
        rw [bl_extract, List.drop_take, Nat.add_sub_cancel_left, h, List.take_take, Nat.min_eq_left (by omega), List.take_left' (by rw [bl_length])]
      have d3 : (bl s).drop (a + x.2.size) = (txs L ++ tail).take (j - x.2.size) := by
        rw [← List.drop_drop, h, List.drop_take, List.drop_left' (by rw [bl_length])]
      obtain ⟨i1, i2⟩ := tx_cut s tail L (a + x.2.size) (j - x.2.size) (by omega) (fun y hy => hN y (List.mem_cons_of_mem _ hy)) d3
      rw [e2, if_neg (by omega), hext, if_neg (by omega)]
      refine ⟨fun hj2 => i1 (by omega), fun hj2 => ?_⟩
      rw [i2 (by omega), show j - x.2.size - (txs L).length = j - (x.2.size + (txs L).length) by omega]
      split
      · rfl
      · rw [Nat.add_assoc]
theorem dec_at3 (s : ByteArray) : (decF s).1 ≠ 0 → (decF s).2.2 ≤ s.size := fun _ => by
  by_cases h : 131072 < s.size
  · unfold decF
    rw [if_pos h]
    show 131072 ≤ s.size
    omega
  · exact dec_at s (by omega)
/-- what is read of a payload's beginning, with what stands behind -/
theorem dec_cut (L : List Ln) (tail : List Nat) (j : Nat) (s : ByteArray) (hL : ∀ x ∈ L, bad x = 0) (hn : L.length < 18446744073709551616) (hs : s.size ≤ 131072) (h : bl s = (payF L ++ tail).take j) :
    (j < szF L → (decF s).1 = 30) ∧ (szF L ≤ j → decF s = if tail.take (j - szF L) = [] then (0, L, 0) else (34, L, szF L)) := by
  have hnl : ∀ x ∈ L, nl x.2 < 0 := fun x hx => (bad_le (hL x hx)).2.1
  have e1 : payF L ++ tail = uint L.length ++ (stN 0 (sts L) ++ (lnN (lns L) ++ (txs L ++ tail))) := by
    unfold payF
    simp only [List.append_assoc]
  rw [e1] at h
  obtain ⟨c1, c2⟩ := rd_cut L.length j (stN 0 (sts L) ++ (lnN (lns L) ++ (txs L ++ tail))) hn
  rw [← h] at c1 c2
  have esz : szF L = (uint L.length).length + ((stN 0 (sts L)).length + (lnN (lns L)).length) + (txs L).length := rfl
  have hd : decF s = if (rd (bl s)).2.1 ≠ 0 then ((rd (bl s)).2.1, [], 0) else
      if (stF s (rd (bl s)).1 (rd (bl s)).2.2 0).1 ≠ 0 then ((stF s (rd (bl s)).1 (rd (bl s)).2.2 0).1, [], (stF s (rd (bl s)).1 (rd (bl s)).2.2 0).2.2) else
      if (lnF s (rd (bl s)).1 (stF s (rd (bl s)).1 (rd (bl s)).2.2 0).2.2).1 ≠ 0 then ((lnF s (rd (bl s)).1 (stF s (rd (bl s)).1 (rd (bl s)).2.2 0).2.2).1, [], (lnF s (rd (bl s)).1 (stF s (rd (bl s)).1 (rd (bl s)).2.2 0).2.2).2.2) else
      txF s (stF s (rd (bl s)).1 (rd (bl s)).2.2 0).2.1 (lnF s (rd (bl s)).1 (stF s (rd (bl s)).1 (rd (bl s)).2.2 0).2.2).2.1 (lnF s (rd (bl s)).1 (stF s (rd (bl s)).1 (rd (bl s)).2.2 0).2.2).2.2 := by
    unfold decF
    rw [if_neg (by omega)]
  rw [hd]
  clear hd
  by_cases hj : j < (uint L.length).length
  · have hr := c1 hj
    refine ⟨fun _ => ?_, fun h2 => by omega⟩
    rw [if_pos (by rw [hr]; decide)]
    exact hr
  obtain ⟨d1, d2⟩ := c2 (by omega)
  rw [d1]
  simp only
  rw [if_neg (by simp)]
  obtain ⟨s1, s2⟩ := st_cut s (lnN (lns L) ++ (txs L ++ tail)) (sts L) 0 (uint L.length).length (j - (uint L.length).length) (by decide) (by decide) (sts_le hL) d2
  rw [sts_len] at s1 s2
  by_cases hj2 : j - (uint L.length).length < (stN 0 (sts L)).length
  · have hr := s1 hj2
    refine ⟨fun _ => ?_, fun h2 => by omega⟩
    rw [if_pos (by rw [hr]; decide)]
    exact hr
  obtain ⟨f1, f2⟩ := s2 (by omega)
  rw [f1]
  simp only
  rw [if_neg (by simp)]
  obtain ⟨l1, l2⟩ := ln_cut s (txs L ++ tail) (lns L) _ _ (lns_le hL) f2
  rw [lns_len] at l1 l2
  by_cases hj3 : j - (uint L.length).length - (stN 0 (sts L)).length < (lnN (lns L)).length
  · have hr := l1 hj3
    refine ⟨fun _ => ?_, fun h2 => by omega⟩
    rw [if_pos (by rw [hr]; decide)]
    exact hr
  obtain ⟨g1, g2⟩ := l2 (by omega)
  rw [g1]
  simp only
  rw [if_neg (by simp)]
  have hsz := congrArg List.length h
  rw [bl_length, List.length_take] at hsz
  simp only [List.length_append] at hsz
  obtain ⟨t1, t2⟩ := tx_cut s tail L _ _ (by omega) hnl g2
  refine ⟨fun h2 => t1 (by omega), fun h2 => ?_⟩
  rw [t2 (by omega), show j - (uint L.length).length - (stN 0 (sts L)).length - (lnN (lns L)).length - (txs L).length = j - szF L by omega, show (uint L.length).length + (stN 0 (sts L)).length + (lnN (lns L)).length + (txs L).length = szF L by omega]
end Rec
