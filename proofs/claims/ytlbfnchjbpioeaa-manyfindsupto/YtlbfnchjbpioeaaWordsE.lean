/-
  Plain facts on counting bytes, on pairs of bytes and on what two texts have in common, by words of eight. No Go in sight.
-/
import Derived.Test.YtlbfnchjbpioeaaWordsD
namespace Swar
/-! ### counting -/
def cntL (s : ByteArray) (c n : Nat) : Nat := (List.range n).countP (fun p => bt s p == c)
theorem cnt_0 (s : ByteArray) (c : Nat) : cntL s c 0 = 0 := rfl
theorem cnt_step (s : ByteArray) (c n : Nat) : cntL s c (n + 1) = cntL s c n + if bt s n = c then 1 else 0 := by
  unfold cntL
  rw [List.range_succ, List.countP_append]
  simp
theorem cnt_le (s : ByteArray) (c n : Nat) : cntL s c n ≤ n := by
  unfold cntL
  have := List.countP_le_length (p := fun p => bt s p == c) (l := List.range n)
  simpa using this
theorem ones_sum (m : Nat) : onesL m = (if 128 ≤ byt m 0 then 1 else 0) + (if 128 ≤ byt m 1 then 1 else 0) + (if 128 ≤ byt m 2 then 1 else 0) + (if 128 ≤ byt m 3 then 1 else 0) + (if 128 ≤ byt m 4 then 1 else 0) + (if 128 ≤ byt m 5 then 1 else 0) + (if 128 ≤ byt m 6 then 1 else 0) + (if 128 ≤ byt m 7 then 1 else 0) := by
  rw [← onesTo_8, onesTo_step m 7 (by omega), onesTo_step m 6 (by omega), onesTo_step m 5 (by omega), onesTo_step m 4 (by omega), onesTo_step m 3 (by omega), onesTo_step m 2 (by omega), onesTo_step m 1 (by omega), onesTo_step m 0 (by omega), onesTo_0]
  omega
theorem onesTo_cnt (s : ByteArray) (c a : Nat) (hc : c < 256) : ∀ j, j ≤ 8 → cntL s c (a + j) = cntL s c a + onesTo (equalL (ldL s a) (spreadL c)) j
  | 0, _ => by simp [onesTo_0]
  | j + 1, h => by
      have ih := onesTo_cnt s c a hc j (by omega)
      have hm := mark_iff s c a j hc (by omega)
      rw [show a + (j + 1) = a + j + 1 by omega, cnt_step, ih, onesTo_step _ _ (by omega)]
      by_cases hb : bt s (a + j) = c
      · rw [if_pos hb, if_pos (hm.2 hb)]; omega
      · rw [if_neg hb, if_neg (fun h => hb (hm.1 h))]; omega
theorem cnt_word (s : ByteArray) (c a : Nat) (hc : c < 256) : cntL s c (a + 8) = cntL s c a + onesL (equalL (ldL s a) (spreadL c)) := by
  rw [onesTo_cnt s c a hc 8 (by omega), onesTo_8]
theorem ones_shift (e m : Nat) (hm : m ≤ 8) (he : e < 18446744073709551616) : onesL (e * 256 ^ (8 - m) % 18446744073709551616) = onesTo e m := by
  have hc : m = 0 ∨ m = 1 ∨ m = 2 ∨ m = 3 ∨ m = 4 ∨ m = 5 ∨ m = 6 ∨ m = 7 ∨ m = 8 := by omega
  rw [ones_sum]
  have s0 := onesTo_step e 0 (by omega); have s1 := onesTo_step e 1 (by omega); have s2 := onesTo_step e 2 (by omega); have s3 := onesTo_step e 3 (by omega)
  have s4 := onesTo_step e 4 (by omega); have s5 := onesTo_step e 5 (by omega); have s6 := onesTo_step e 6 (by omega); have s7 := onesTo_step e 7 (by omega)
  have z := onesTo_0 e
  simp only [Nat.zero_add, Nat.reduceAdd] at s0 s1 s2 s3 s4 s5 s6 s7
  have b : ∀ j t, byt (e * 256 ^ t % 18446744073709551616) j = e * 256 ^ t % 18446744073709551616 / 256 ^ j % 256 := fun _ _ => rfl
  have d : ∀ j, byt e j = e / 256 ^ j % 256 := fun _ => rfl
  have q0 := d 0; have q1 := d 1; have q2 := d 2; have q3 := d 3; have q4 := d 4; have q5 := d 5; have q6 := d 6; have q7 := d 7
  simp only [Nat.reducePow] at q0 q1 q2 q3 q4 q5 q6 q7
  have key : ∀ t k j, (e * 256 ^ t % 18446744073709551616 / 256 ^ k % 256 = e / 256 ^ j % 256) → byt (e * 256 ^ t % 18446744073709551616) k = byt e j := fun t k j h => h
  have nul : ∀ t k, (e * 256 ^ t % 18446744073709551616 / 256 ^ k % 256 = 0) → byt (e * 256 ^ t % 18446744073709551616) k = 0 := fun t k h => h
  rcases hc with rfl | rfl | rfl | rfl | rfl | rfl | rfl | rfl | rfl
  · simp only [Nat.sub_zero]
    rw [nul 8 0 (by simp only [Nat.reducePow]; omega), nul 8 1 (by simp only [Nat.reducePow]; omega), nul 8 2 (by simp only [Nat.reducePow]; omega), nul 8 3 (by simp only [Nat.reducePow]; omega), nul 8 4 (by simp only [Nat.reducePow]; omega), nul 8 5 (by simp only [Nat.reducePow]; omega), nul 8 6 (by simp only [Nat.reducePow]; omega), nul 8 7 (by simp only [Nat.reducePow]; omega)]
    simp [z]
  · simp only [Nat.reduceSub]
    rw [nul 7 0 (by simp only [Nat.reducePow]; omega), nul 7 1 (by simp only [Nat.reducePow]; omega), nul 7 2 (by simp only [Nat.reducePow]; omega), nul 7 3 (by simp only [Nat.reducePow]; omega), nul 7 4 (by simp only [Nat.reducePow]; omega), nul 7 5 (by simp only [Nat.reducePow]; omega), nul 7 6 (by simp only [Nat.reducePow]; omega), key 7 7 0 (by simp only [Nat.reducePow]; omega)]
    simp only [Nat.reduceLeDiff, if_false]; omega
  · simp only [Nat.reduceSub]
    rw [nul 6 0 (by simp only [Nat.reducePow]; omega), nul 6 1 (by simp only [Nat.reducePow]; omega), nul 6 2 (by simp only [Nat.reducePow]; omega), nul 6 3 (by simp only [Nat.reducePow]; omega), nul 6 4 (by simp only [Nat.reducePow]; omega), nul 6 5 (by simp only [Nat.reducePow]; omega), key 6 6 0 (by simp only [Nat.reducePow]; omega), key 6 7 1 (by simp only [Nat.reducePow]; omega)]
    simp only [Nat.reduceLeDiff, if_false]; omega
  · simp only [Nat.reduceSub]
    rw [nul 5 0 (by simp only [Nat.reducePow]; omega), nul 5 1 (by simp only [Nat.reducePow]; omega), nul 5 2 (by simp only [Nat.reducePow]; omega), nul 5 3 (by simp only [Nat.reducePow]; omega), nul 5 4 (by simp only [Nat.reducePow]; omega), key 5 5 0 (by simp only [Nat.reducePow]; omega), key 5 6 1 (by simp only [Nat.reducePow]; omega), key 5 7 2 (by simp only [Nat.reducePow]; omega)]
    simp only [Nat.reduceLeDiff, if_false]; omega
  · simp only [Nat.reduceSub]
    rw [nul 4 0 (by simp only [Nat.reducePow]; omega), nul 4 1 (by simp only [Nat.reducePow]; omega), nul 4 2 (by simp only [Nat.reducePow]; omega), nul 4 3 (by simp only [Nat.reducePow]; omega), key 4 4 0 (by simp only [Nat.reducePow]; omega), key 4 5 1 (by simp only [Nat.reducePow]; omega), key 4 6 2 (by simp only [Nat.reducePow]; omega), key 4 7 3 (by simp only [Nat.reducePow]; omega)]
    simp only [Nat.reduceLeDiff, if_false]; omega
  · simp only [Nat.reduceSub]
    rw [nul 3 0 (by simp only [Nat.reducePow]; omega), nul 3 1 (by simp only [Nat.reducePow]; omega), nul 3 2 (by simp only [Nat.reducePow]; omega), key 3 3 0 (by simp only [Nat.reducePow]; omega), key 3 4 1 (by simp only [Nat.reducePow]; omega), key 3 5 2 (by simp only [Nat.reducePow]; omega), key 3 6 3 (by simp only [Nat.reducePow]; omega), key 3 7 4 (by simp only [Nat.reducePow]; omega)]
    simp only [Nat.reduceLeDiff, if_false]; omega
  · simp only [Nat.reduceSub]
    rw [nul 2 0 (by simp only [Nat.reducePow]; omega), nul 2 1 (by simp only [Nat.reducePow]; omega), key 2 2 0 (by simp only [Nat.reducePow]; omega), key 2 3 1 (by simp only [Nat.reducePow]; omega), key 2 4 2 (by simp only [Nat.reducePow]; omega), key 2 5 3 (by simp only [Nat.reducePow]; omega), key 2 6 4 (by simp only [Nat.reducePow]; omega), key 2 7 5 (by simp only [Nat.reducePow]; omega)]
    simp only [Nat.reduceLeDiff, if_false]; omega
  · simp only [Nat.reduceSub]
    rw [nul 1 0 (by simp only [Nat.reducePow]; omega), key 1 1 0 (by simp only [Nat.reducePow]; omega), key 1 2 1 (by simp only [Nat.reducePow]; omega), key 1 3 2 (by simp only [Nat.reducePow]; omega), key 1 4 3 (by simp only [Nat.reducePow]; omega), key 1 5 4 (by simp only [Nat.reducePow]; omega), key 1 6 5 (by simp only [Nat.reducePow]; omega), key 1 7 6 (by simp only [Nat.reducePow]; omega)]
    simp only [Nat.reduceLeDiff, if_false]; omega
  · simp only [Nat.sub_self]
    rw [key 0 0 0 (by simp only [Nat.reducePow]; omega), key 0 1 1 (by simp only [Nat.reducePow]; omega), key 0 2 2 (by simp only [Nat.reducePow]; omega), key 0 3 3 (by simp only [Nat.reducePow]; omega), key 0 4 4 (by simp only [Nat.reducePow]; omega), key 0 5 5 (by simp only [Nat.reducePow]; omega), key 0 6 6 (by simp only [Nat.reducePow]; omega), key 0 7 7 (by simp only [Nat.reducePow]; omega)]
    omega
theorem cnt_tail (s : ByteArray) (c a m : Nat) (hc : c < 256) (hm : m ≤ 8) : cntL s c (a + m) = cntL s c a + onesL (equalL (ldL s a) (spreadL c) * 256 ^ (8 - m) % 18446744073709551616) := by
  rw [ones_shift _ m hm (equalL_lt _ _), onesTo_cnt s c a hc m hm]

/-! ### bytes of two words together -/
theorem cut_and (n : Nat) : ∀ (a b : Nat), cut n (a &&& b) = List.zipWith (· &&& ·) (cut n a) (cut n b) := by
  induction n with
  | zero => intro a b; rfl
  | succ n ih =>
    intro a b
    have ea : a = a % 256 + 256 * (a / 256) := by omega
    have eb : b = b % 256 + 256 * (b / 256) := by omega
    have h := and_lane (a % 256) (b % 256) (a / 256) (b / 256) (by omega) (by omega)
    rw [← ea, ← eb] at h
    have hlt : a % 256 &&& b % 256 < 256 := Nat.lt_of_le_of_lt Nat.and_le_left (by omega)
    simp only [cut, List.zipWith_cons_cons]
    rw [← ih]
    congr 1 <;> (try congr 1) <;> omega
theorem byt_and (a b j : Nat) (hj : j < 8) : byt (a &&& b) j = byt a j &&& byt b j := by
  have h := cut_get 8 (a &&& b) j hj
  rw [cut_and, List.getElem?_zipWith, cut_get 8 a j hj, cut_get 8 b j hj] at h
  simp only [Option.some.injEq] at h
  exact h.symm
theorem byt_xor (a b j : Nat) (hj : j < 8) : byt (a ^^^ b) j = byt a j ^^^ byt b j := by
  have h := cut_get 8 (a ^^^ b) j hj
  rw [cut_xor, List.getElem?_zipWith, cut_get 8 a j hj, cut_get 8 b j hj] at h
  simp only [Option.some.injEq] at h
  exact h.symm

/-! ### pairs -/
def pairL (s : ByteArray) (x y g f : Nat) : Int := fnd (fun p => bt s p == x && bt s (p + g) == y) f (s.size - g - f)
def phitL (s : ByteArray) (x y g a : Nat) : Nat := firstL (equalL (ldL s a) (spreadL x) &&& equalL (ldL s ((a + g : Nat) : Int)) (spreadL y))
theorem pmark_iff (s : ByteArray) (x y g a j : Nat) (hx : x < 256) (hy : y < 256) (hj : j < 8) :
    128 ≤ byt (equalL (ldL s a) (spreadL x) &&& equalL (ldL s ((a + g : Nat) : Int)) (spreadL y)) j ↔ bt s (a + j) = x ∧ bt s (a + j + g) = y := by
  have h1 := mark_iff s x a j hx hj
  have h2 := mark_iff s y (a + g) j hy hj
  rw [byt_and _ _ _ hj]
  rw [byt_equal _ _ _ hj] at h1 h2 ⊢
  rw [byt_equal _ _ _ hj]
  rw [show a + g + j = a + j + g by omega] at h2
  rw [← h1, ← h2]
  generalize byt (ldL s ↑a) j = p
  generalize byt (spreadL x) j = q
  generalize byt (ldL s ((a + g : Nat) : Int)) j = r
  generalize byt (spreadL y) j = t
  by_cases e1 : p = q
  · by_cases e2 : r = t
    · simp [e1, e2]
    · simp [e1, e2]
  · simp [e1]
theorem phit_le (s : ByteArray) (x y g a : Nat) : phitL s x y g a ≤ 8 := firstL_le _
theorem phit_miss (s : ByteArray) (x y g a : Nat) (hx : x < 256) (hy : y < 256) (j : Nat) (hj : j < phitL s x y g a) : (bt s (a + j) == x && bt s (a + j + g) == y) = false := by
  have h8 := phit_le s x y g a
  have h := (firstL_spec (equalL (ldL s a) (spreadL x) &&& equalL (ldL s ((a + g : Nat) : Int)) (spreadL y))).2.1 j hj
  rw [Bool.eq_false_iff]
  intro e
  simp only [Bool.and_eq_true, beq_iff_eq] at e
  have := (pmark_iff s x y g a j hx hy (by omega)).2 e
  omega
theorem phit_found (s : ByteArray) (x y g a : Nat) (hx : x < 256) (hy : y < 256) (h : phitL s x y g a < 8) : bt s (a + phitL s x y g a) = x ∧ bt s (a + phitL s x y g a + g) = y :=
  (pmark_iff s x y g a _ hx hy h).1 ((firstL_spec _).2.2 h)
theorem pair_found (s : ByteArray) (x y g a : Nat) (hx : x < 256) (hy : y < 256) (h8 : phitL s x y g a < 8) (hn : a + phitL s x y g a + g < s.size) : pairL s x y g a = ((a + phitL s x y g a : Nat) : Int) := by
  unfold pairL
  rw [fnd_skip _ (phitL s x y g a) a _ (by omega) (fun i hi => phit_miss s x y g a hx hy i hi)]
  refine fnd_hit _ _ _ (by omega) ?_
  have := phit_found s x y g a hx hy h8
  simp only [Bool.and_eq_true, beq_iff_eq]
  exact this
theorem pair_next (s : ByteArray) (x y g a : Nat) (hx : x < 256) (hy : y < 256) (ha : a + g < s.size) (h : ¬ (phitL s x y g a < 8 ∧ a + phitL s x y g a + g < s.size)) : pairL s x y g a = pairL s x y g (a + 8) := by
  unfold pairL
  have miss : ∀ i, i < 8 → a + i + g < s.size → (bt s (a + i) == x && bt s (a + i + g) == y) = false := by
    intro i hi hn
    by_cases hh : i < phitL s x y g a
    · exact phit_miss s x y g a hx hy i hh
    · exfalso
      exact h ⟨by omega, by omega⟩
  by_cases h8 : a + 8 + g ≤ s.size
  · rw [fnd_skip _ 8 a _ (by omega) (fun i hi => miss i hi (by omega))]
    congr 1
  · rw [fnd_none _ a _ (fun i hi => miss i (by omega) (by omega)), show s.size - g - (a + 8) = 0 by omega]
    rfl
theorem pair_out (s : ByteArray) (x y g a : Nat) (h : s.size ≤ a + g) : pairL s x y g a = -1 := by
  unfold pairL; rw [show s.size - g - a = 0 by omega]; rfl
theorem pair_step (s : ByteArray) (x y g a : Nat) (h : a + g < s.size) : pairL s x y g a = if bt s a = x ∧ bt s (a + g) = y then (a : Int) else pairL s x y g (a + 1) := by
  unfold pairL
  obtain ⟨m, hm⟩ : ∃ m, s.size - g - a = m + 1 := ⟨s.size - g - a - 1, by omega⟩
  rw [hm, show s.size - g - (a + 1) = m by omega]
  by_cases hb : bt s a = x <;> by_cases hc : bt s (a + g) = y <;> simp [fnd, hb, hc]

/-! ### what two texts have in common -/
/-- how far it is so, of so many places from one on -/
def far (P : Nat → Bool) : Nat → Nat → Nat
  | f, 0 => f
  | f, k + 1 => if P f then far P (f + 1) k else f
theorem far_skip (P : Nat → Bool) : ∀ (j f k : Nat), j ≤ k → (∀ i, i < j → P (f + i) = true) → far P f k = far P (f + j) (k - j)
  | 0, f, k, _, _ => by simp
  | j + 1, f, k, hk, h => by
      obtain ⟨m, rfl⟩ : ∃ m, k = m + 1 := ⟨k - 1, by omega⟩
      have h0 := h 0 (by omega)
      simp only [Nat.add_zero] at h0
      have ih := far_skip P j (f + 1) m (by omega) (fun i hi => by
        have := h (i + 1) (by omega)
        rwa [show f + (i + 1) = f + 1 + i by omega] at this)
      simp only [far, h0, if_true]
      rw [show f + (j + 1) = f + 1 + j by omega, show m + 1 - (j + 1) = m - j by omega, ← ih]
theorem far_stop (P : Nat → Bool) (f k : Nat) (h : P f = false) : far P f k = f := by
  cases k <;> simp [far, h]
theorem far_all (P : Nat → Bool) (f k : Nat) (h : ∀ i, i < k → P (f + i) = true) : far P f k = f + k := by
  rw [far_skip P k f k (Nat.le_refl _) h]
  simp [far]
theorem far_spec (P : Nat → Bool) : ∀ (k f : Nat), f ≤ far P f k ∧ far P f k ≤ f + k ∧ (∀ i, f ≤ i → i < far P f k → P i = true) ∧ (far P f k < f + k → P (far P f k) = false)
  | 0, f => ⟨by simp [far], by simp [far], fun i h1 h2 => by simp [far] at h2; omega, fun h => by simp [far] at h⟩
  | k + 1, f => by
      by_cases h : P f = true
      · have ih := far_spec P k (f + 1)
        have e : far P f (k + 1) = far P (f + 1) k := by simp [far, h]
        rw [e]
        refine ⟨by omega, by omega, fun i h1 h2 => ?_, fun h2 => ih.2.2.2 (by omega)⟩
        by_cases hi : i = f
        · subst hi; exact h
        · exact ih.2.2.1 i (by omega) h2
      · have h' : P f = false := by simpa using h
        have e : far P f (k + 1) = f := by simp [far, h']
        rw [e]
        exact ⟨by omega, by omega, fun i h1 h2 => by omega, fun _ => h'⟩
def comL (a b : ByteArray) : Nat := far (fun p => bt a p == bt b p) 0 (min a.size b.size)
theorem com_le (a b : ByteArray) : comL a b ≤ a.size ∧ comL a b ≤ b.size := by
  have := (far_spec (fun p => bt a p == bt b p) (min a.size b.size) 0).2.1
  unfold comL; omega
theorem tz_low : ∀ (k n y : Nat), y % 2 ^ k ≠ 0 → tz (k + n) y < k
  | 0, n, y, h => by simp [Nat.mod_one] at h
  | k + 1, n, y, h => by
      rw [show k + 1 + n = (k + n) + 1 by omega]
      by_cases hy : y % 2 = 1
      · simp [tz, hy]
      · simp only [tz, hy, if_false]
        have h2 : y / 2 % 2 ^ k ≠ 0 := by
          intro e
          apply h
          obtain ⟨q, hq⟩ : ∃ q, y = 2 * q := ⟨y / 2, by omega⟩
          subst hq
          rw [show 2 * q / 2 = q by omega] at e
          rw [Nat.pow_succ, Nat.mul_comm (2 ^ k) 2, Nat.mul_mod_mul_left, e]
        have ih := tz_low k n (y / 2) h2
        omega
theorem tz_byte (x t : Nat) (ht : t < 8) (h0 : x % 256 ^ t = 0) (h1 : byt x t ≠ 0) : tz 64 x / 8 = t := by
  have e : x = 2 ^ (8 * t) * (x / 256 ^ t) := by
    rw [Nat.pow_mul, show (2 : Nat) ^ 8 = 256 by decide]
    exact (Nat.mul_div_cancel' (Nat.dvd_of_mod_eq_zero h0)).symm
  have e2 : (64 : Nat) = 8 * t + (64 - 8 * t) := by omega
  have h2 := tz_up (8 * t) (64 - 8 * t) (x / 256 ^ t)
  rw [← e, ← e2] at h2
  have h3 := tz_low 8 (56 - 8 * t) (x / 256 ^ t) (by simpa [byt] using h1)
  rw [show 8 + (56 - 8 * t) = 64 - 8 * t by omega] at h3
  omega
theorem byt_zero_mod (x t : Nat) (ht : t ≤ 8) (h : ∀ i, i < t → byt x i = 0) : x % 256 ^ t = 0 := by
  induction t with
  | zero => simp [Nat.mod_one]
  | succ t ih =>
    have h1 := ih (by omega) (fun i hi => h i (by omega))
    have h2 := h t (by omega)
    unfold byt at h2
    rw [Nat.pow_succ, Nat.mod_mul, h1, h2]
    simp
/-- the first byte in which two words differ -/
theorem differ_first (a b t : Nat) (ht : t < 8) (h0 : ∀ i, i < t → byt a i = byt b i) (h1 : byt a t ≠ byt b t) : tz 64 (a ^^^ b) / 8 = t := by
  refine tz_byte _ t ht (byt_zero_mod _ t (by omega) (fun i hi => ?_)) ?_
  · rw [byt_xor _ _ _ (by omega), h0 i hi]; simp
  · rw [byt_xor _ _ _ ht]
    intro e
    exact h1 ((xor_zero_iff _ _).1 e)
/-- either the words are one, or there is such a byte -/
theorem differ_some (a b : Nat) (ha : a < 18446744073709551616) (hb : b < 18446744073709551616) : a ^^^ b = 0 ∧ (∀ i, i < 8 → byt a i = byt b i) ∨ a ^^^ b ≠ 0 ∧ tz 64 (a ^^^ b) / 8 < 8 ∧ (∀ i, i < tz 64 (a ^^^ b) / 8 → byt a i = byt b i) ∧ byt a (tz 64 (a ^^^ b) / 8) ≠ byt b (tz 64 (a ^^^ b) / 8) := by
  by_cases h : ∀ i, i < 8 → byt a i = byt b i
  · have e := word_ext a b ha hb h
    subst e
    exact .inl ⟨by simp, h⟩
  · have s := far_spec (fun i => byt a i == byt b i) 8 0
    generalize far (fun i => byt a i == byt b i) 0 8 = t at s
    have h8 : t < 8 := by
      by_cases h8 : t < 8
      · exact h8
      · exfalso
        exact h (fun i hi => by simpa using s.2.2.1 i (by omega) (by omega))
    have d1 : byt a t ≠ byt b t := by simpa using s.2.2.2 (by omega)
    have d0 : ∀ i, i < t → byt a i = byt b i := fun i hi => by simpa using s.2.2.1 i (by omega) hi
    have e := differ_first a b t h8 d0 d1
    rw [e]
    refine .inr ⟨?_, h8, d0, d1⟩
    intro z
    exact d1 (by rw [(xor_zero_iff _ _).1 z])
theorem com_word (a b : ByteArray) (p : Nat) (hp : p < min a.size b.size) (h : far (fun p => bt a p == bt b p) 0 (min a.size b.size) = far (fun p => bt a p == bt b p) p (min a.size b.size - p)) :
    (ldL a p ^^^ ldL b p = 0 ∧ far (fun p => bt a p == bt b p) 0 (min a.size b.size) = far (fun p => bt a p == bt b p) (p + 8) (min a.size b.size - (p + 8)) ∨ p + 8 > min a.size b.size ∧ ldL a p ^^^ ldL b p = 0 ∧ comL a b = min a.size b.size) ∨
    ldL a p ^^^ ldL b p ≠ 0 ∧ tz 64 (ldL a p ^^^ ldL b p) / 8 < 8 ∧ comL a b = min (p + tz 64 (ldL a p ^^^ ldL b p) / 8) (min a.size b.size) := by
  have hb : ∀ (s : ByteArray) i, i < 8 → byt (ldL s p) i = bt s (p + i) := fun s i hi => by
    rw [byt_ldL s p i hi, show ((p : Int) + (i : Int)) = ((p + i : Nat) : Int) by omega, cell_nat]
  rcases differ_some (ldL a p) (ldL b p) (ldL_lt _ _) (ldL_lt _ _) with ⟨h0, hall⟩ | ⟨h0, h8, hlt, hne⟩
  · left
    by_cases hp8 : p + 8 ≤ min a.size b.size
    · left
      refine ⟨h0, ?_⟩
      rw [h, far_skip _ 8 p _ (by omega) (fun i hi => by have := hall i hi; rw [hb a i hi, hb b i hi] at this; simpa using this)]
      congr 1
    · right
      refine ⟨by omega, h0, ?_⟩
      unfold comL
      rw [h, far_all _ p _ (fun i hi => by have := hall i (by omega); rw [hb a i (by omega), hb b i (by omega)] at this; simpa using this)]
      omega
  · right
    refine ⟨h0, h8, ?_⟩
    generalize tz 64 (ldL a p ^^^ ldL b p) / 8 = t at *
    unfold comL
    rw [h]
    by_cases ht : p + t < min a.size b.size
    · rw [far_skip _ t p _ (by omega) (fun i hi => by have := hlt i hi; rw [hb a i (by omega), hb b i (by omega)] at this; simpa using this), far_stop _ _ _ (by rw [hb a t h8, hb b t h8] at hne; simpa using hne)]
      omega
    · rw [far_all _ p _ (fun i hi => by have := hlt i (by omega); rw [hb a i (by omega), hb b i (by omega)] at this; simpa using this)]
      omega
end Swar
