/-
  Plain facts on numbers as bytes: no Go in sight. No conditions but those that each fact names.
-/
namespace Code
/-- the bytes of a number, the lowest seven bits first; f: how many may follow the first -/
def enc : Nat → Nat → List Nat
  | 0, n => [n]
  | f + 1, n => if n < 128 then [n] else (n % 128 + 128) :: enc f (n / 128)
def uint (n : Nat) : List Nat := enc 10 n
theorem enc_one (f n : Nat) (h : n < 128) : enc f n = [n] := by cases f <;> simp [enc, h]
theorem enc_more (f n : Nat) (h : ¬ n < 128) : enc (f + 1) n = (n % 128 + 128) :: enc f (n / 128) := by simp [enc, h]
theorem enc_byt : ∀ f n, n < 128 ^ (f + 1) → ∀ z ∈ enc f n, z < 256
  | 0, n, h, z, hz => by
      have : z = n := by simpa [enc] using hz
      subst this
      simp at h
      omega
  | f + 1, n, h, z, hz => by
      by_cases hn : n < 128
      · rw [enc_one _ _ hn] at hz
        have : z = n := by simpa using hz
        omega
      · rw [enc_more _ _ hn] at hz
        rcases List.mem_cons.1 hz with rfl | hz
        · omega
        · exact enc_byt f (n / 128) (by rw [Nat.pow_succ] at h; exact Nat.div_lt_of_lt_mul (by rw [Nat.mul_comm]; exact h)) z hz
theorem uint_byt (n : Nat) (h : n < 18446744073709551616) : ∀ z ∈ uint n, z < 256 := enc_byt 10 n (by omega)
theorem enc_len : ∀ k f n, n < 128 ^ (k + 1) → (enc f n).length ≤ k + 1
  | 0, f, n, h => by rw [enc_one f n (by simpa using h)]; simp
  | k + 1, f, n, h => by
      cases f with
      | zero => simp [enc]
      | succ f =>
        by_cases hn : n < 128
        · rw [enc_one _ _ hn]; simp
        · rw [enc_more _ _ hn, List.length_cons]
          have := enc_len k f (n / 128) (by rw [Nat.pow_succ] at h; exact Nat.div_lt_of_lt_mul (by rw [Nat.mul_comm]; exact h))
          omega
theorem uint_len (n : Nat) (h : n < 18446744073709551616) : (uint n).length ≤ 10 := enc_len 9 10 n (by omega)
theorem enc_pos : ∀ f n, 1 ≤ (enc f n).length
  | 0, n => by simp [enc]
  | f + 1, n => by unfold enc; split <;> simp
theorem uint_pos (n : Nat) : 1 ≤ (uint n).length := enc_pos 10 n
theorem or128 : ∀ b < 256, b ||| 128 = b % 128 + 128 := by decide +kernel
/-- reading a number: the number, the error, how many bytes were read -/
def rdF : Nat → Nat → Nat → List Nat → Nat × Nat × Nat
  | 0, _, _, _ => (0, 32, 0)
  | _ + 1, _, _, [] => (0, 30, 0)
  | f + 1, i, n, b :: l => if i = 9 ∧ 1 < b then (0, 32, 0) else if 0 < i ∧ b = 0 then (0, 31, 0) else if b < 128 then (n + b % 128 * 2 ^ (7 * i), 0, i + 1) else rdF f (i + 1) (n + b % 128 * 2 ^ (7 * i)) l
def rd (l : List Nat) : Nat × Nat × Nat := rdF 10 0 0 l
theorem rdF_nil (f i n : Nat) : rdF (f + 1) i n [] = (0, 30, 0) := rfl
theorem rdF_cons (f i n b : Nat) (l : List Nat) : rdF (f + 1) i n (b :: l) = if i = 9 ∧ 1 < b then (0, 32, 0) else if 0 < i ∧ b = 0 then (0, 31, 0) else if b < 128 then (n + b % 128 * 2 ^ (7 * i), 0, i + 1) else rdF f (i + 1) (n + b % 128 * 2 ^ (7 * i)) l := rfl
theorem pow7 (i : Nat) : 2 ^ (7 * (i + 1)) = 128 * 2 ^ (7 * i) := by
  rw [Nat.mul_add, Nat.pow_add, Nat.mul_comm]
theorem split7 (m i : Nat) : m % 128 * 2 ^ (7 * i) + m / 128 * 2 ^ (7 * (i + 1)) = m * 2 ^ (7 * i) := by
  rw [pow7, ← Nat.mul_assoc, ← Nat.add_mul]
  congr 1
  omega
theorem pow64 : ∀ i, i ≤ 8 → 2 ^ (64 - 7 * i) = 128 * 2 ^ (64 - 7 * (i + 1)) := by
  intro i hi
  rw [show 64 - 7 * i = 7 + (64 - 7 * (i + 1)) by omega, Nat.pow_add]
theorem rdF_enc : ∀ (f' f i a m : Nat) (l : List Nat), f + i = 10 → i ≤ 9 → m < 2 ^ (64 - 7 * i) → m < 128 ^ (f' + 1) → (0 < i → 0 < m) →
    rdF f i a (enc f' m ++ l) = (a + m * 2 ^ (7 * i), 0, i + (enc f' m).length) := by
  intro f'
  induction f' with
  | zero =>
    intro f i a m l hf hi hm h1 h0
    obtain ⟨f, rfl⟩ : ∃ k, f = k + 1 := ⟨f - 1, by omega⟩
    have hm1 : m < 128 := by simpa using h1
    have h9 : ¬ (i = 9 ∧ 1 < m) := by rintro ⟨rfl, h⟩; simp at hm; omega
    show rdF (f + 1) i a (m :: l) = _
    rw [rdF_cons, if_neg h9, if_neg (by omega), if_pos hm1, Nat.mod_eq_of_lt hm1]
    rfl
  | succ f' ih =>
    intro f i a m l hf hi hm h1 h0
    obtain ⟨f, rfl⟩ : ∃ k, f = k + 1 := ⟨f - 1, by omega⟩
    by_cases hm1 : m < 128
    · have h9 : ¬ (i = 9 ∧ 1 < m) := by rintro ⟨rfl, h⟩; simp at hm; omega
      rw [enc_one _ _ hm1]
      show rdF (f + 1) i a (m :: l) = _
      rw [rdF_cons, if_neg h9, if_neg (by omega), if_pos hm1, Nat.mod_eq_of_lt hm1]
      rfl
    · have hi8 : i ≤ 8 := by
        by_cases h : i = 9
        · subst h; simp at hm; omega
        · omega
      rw [enc_more _ _ hm1, List.cons_append, rdF_cons, if_neg (by omega), if_neg (by omega), if_neg (by omega)]
      have hp := pow64 i hi8
      rw [ih f (i + 1) _ (m / 128) l (by omega) (by omega) (by rw [hp] at hm; exact Nat.div_lt_of_lt_mul hm) (by rw [Nat.pow_succ] at h1; exact Nat.div_lt_of_lt_mul (by rw [Nat.mul_comm]; exact h1)) (by omega)]
      have hs := split7 m i
      rw [show (m % 128 + 128) % 128 = m % 128 by omega, List.length_cons, Nat.add_assoc, hs, show i + 1 + (enc f' (m / 128)).length = i + ((enc f' (m / 128)).length + 1) by omega]
theorem rd_uint (n : Nat) (l : List Nat) (h : n < 18446744073709551616) : rd (uint n ++ l) = (n, 0, (uint n).length) := by
  unfold rd uint
  rw [rdF_enc 10 10 0 0 n l rfl (by omega) (by simpa using h) (by omega) (by omega)]
  simp
theorem rdF_inv : ∀ (f i a : Nat) (l : List Nat) (n k : Nat), f + i = 10 → (∀ z ∈ l, z < 256) → rdF f i a l = (n, 0, k) →
    ∃ m p q, l = p ++ q ∧ n = a + m * 2 ^ (7 * i) ∧ enc f m = p ∧ k = i + p.length ∧ m < 2 ^ (64 - 7 * i) ∧ (0 < i → 0 < m) := by
  intro f
  induction f with
  | zero => intro i a l n k hf hl h; simp [rdF] at h
  | succ f ih =>
    intro i a l n k hf hl h
    cases l with
    | nil => simp [rdF] at h
    | cons b l =>
      rw [rdF_cons] at h
      by_cases h9 : i = 9 ∧ 1 < b
      · rw [if_pos h9] at h; simp at h
      rw [if_neg h9] at h
      by_cases hz : 0 < i ∧ b = 0
      · rw [if_pos hz] at h; simp at h
      rw [if_neg hz] at h
      have hb : b < 256 := hl b (List.mem_cons_self ..)
      by_cases h1 : b < 128
      · rw [if_pos h1] at h
        simp only [Prod.mk.injEq] at h
        refine ⟨b, [b], l, rfl, ?_, enc_one _ _ h1, h.2.2.symm, ?_, by omega⟩
        · rw [← h.1, Nat.mod_eq_of_lt h1]
        · by_cases h8 : i ≤ 8
          · rw [pow64 i h8]
            have := Nat.one_le_two_pow (n := 64 - 7 * (i + 1))
            omega
          · have : i = 9 := by omega
            subst this
            simp
            omega
      · rw [if_neg h1] at h
        have h8 : i ≤ 8 := by omega
        obtain ⟨m, p, q, rfl, hn, he, hk, hm, hp⟩ := ih (i + 1) _ l n k (by omega) (fun z hz => hl z (List.mem_cons_of_mem _ hz)) h
        have hmp := hp (by omega)
        refine ⟨b % 128 + 128 * m, b :: p, q, rfl, ?_, ?_, ?_, ?_, by omega⟩
        · rw [hn, pow7, Nat.add_mul, Nat.add_assoc, ← Nat.mul_assoc, Nat.mul_comm m 128]
        · rw [enc_more _ _ (by omega), show (b % 128 + 128 * m) / 128 = m by omega, he]
          congr 1
          omega
        · rw [hk, List.length_cons]; omega
        · rw [pow64 i h8]
          omega
theorem rd_inv (l : List Nat) (n k : Nat) (hl : ∀ z ∈ l, z < 256) (h : rd l = (n, 0, k)) : uint n = l.take k ∧ k ≤ l.length ∧ n < 18446744073709551616 := by
  obtain ⟨m, p, q, rfl, hn, he, hk, hm, _⟩ := rdF_inv 10 0 0 l n k rfl hl h
  simp at hn hk hm
  subst hn hk
  refine ⟨?_, by simp, hm⟩
  rw [List.take_left']
  · exact he
  · rfl
theorem rdF_err : ∀ (f i a : Nat) (l : List Nat), (rdF f i a l).2.1 ≠ 0 → (rdF f i a l).1 = 0 ∧ (rdF f i a l).2.2 = 0 := by
  intro f
  induction f with
  | zero => intro i a l h; exact ⟨rfl, rfl⟩
  | succ f ih =>
    intro i a l h
    cases l with
    | nil => exact ⟨rfl, rfl⟩
    | cons b l =>
      rw [rdF_cons] at h ⊢
      split
      · exact ⟨rfl, rfl⟩
      · split
        · exact ⟨rfl, rfl⟩
        · split
          · rename_i h1 h2 h3
            rw [if_neg h1, if_neg h2, if_pos h3] at h
            exact absurd rfl h
          · rename_i h1 h2 h3
            rw [if_neg h1, if_neg h2, if_neg h3] at h
            exact ih _ _ _ h
theorem rd_err (l : List Nat) (h : (rd l).2.1 ≠ 0) : (rd l).1 = 0 ∧ (rd l).2.2 = 0 := rdF_err 10 0 0 l h
theorem rd_ok (l : List Nat) (hl : ∀ z ∈ l, z < 256) (h : (rd l).2.1 = 0) : uint (rd l).1 = l.take (rd l).2.2 ∧ (rd l).2.2 ≤ l.length ∧ (rd l).1 < 18446744073709551616 := by
  refine rd_inv l _ _ hl ?_
  rw [← h]
theorem rd_lt (l : List Nat) (hl : ∀ z ∈ l, z < 256) : (rd l).1 < 18446744073709551616 ∧ (rd l).2.2 ≤ l.length := by
  by_cases h : (rd l).2.1 = 0
  · have := rd_ok l hl h
    exact ⟨this.2.2, this.2.1⟩
  · have := rd_err l h
    omega
theorem rdF_errs : ∀ (f i a : Nat) (l : List Nat), (rdF f i a l).2.1 ≤ 32 := by
  intro f
  induction f with
  | zero => intro i a l; exact Nat.le_refl _
  | succ f ih =>
    intro i a l
    cases l with
    | nil => show 30 ≤ 32; omega
    | cons b l =>
      rw [rdF_cons]
      split
      · exact Nat.le_refl _
      · split
        · show 31 ≤ 32; omega
        · split
          · show 0 ≤ 32; omega
          · exact ih _ _ _
theorem rd_errs (l : List Nat) : (rd l).2.1 ≤ 32 := rdF_errs 10 0 0 l
/-- no number's bytes begin with another one's -/
theorem uint_pre (a b : Nat) (t : List Nat) (ha : a < 18446744073709551616) (hb : b < 18446744073709551616) (h : uint a = uint b ++ t) : a = b := by
  have h1 := rd_uint a [] ha
  rw [List.append_nil, h, rd_uint b t hb] at h1
  simp only [Prod.mk.injEq] at h1
  exact h1.1.symm
theorem uint_pre2 (a b : Nat) (s t : List Nat) (ha : a < 18446744073709551616) (hb : b < 18446744073709551616) (h : uint a ++ s = uint b ++ t) : a = b ∧ s = t := by
  have h1 := rd_uint a s ha
  rw [h, rd_uint b t hb] at h1
  simp only [Prod.mk.injEq] at h1
  obtain rfl := h1.1
  exact ⟨rfl, List.append_cancel_left h⟩
/-- the number as which an int is written -/
def zig (n : Int) : Nat := if 0 ≤ n then 2 * n.toNat else 2 * (-(n + 1)).toNat + 1
def zag (n : Nat) : Int := if n % 2 = 1 then -((n / 2 : Nat) : Int) - 1 else ((n / 2 : Nat) : Int)
theorem zag_zig (n : Int) : zag (zig n) = n := by
  unfold zag zig
  by_cases h : 0 ≤ n
  · rw [if_pos h, if_neg (by omega)]; omega
  · rw [if_neg h, if_pos (by omega)]; omega
theorem zig_zag (n : Nat) : zig (zag n) = n := by
  unfold zag zig
  by_cases h : n % 2 = 1
  · rw [if_pos h, if_neg (by omega)]; omega
  · rw [if_neg h, if_pos (by omega)]; omega
theorem zig_lt (n : Int) (h0 : -9223372036854775808 ≤ n) (h1 : n ≤ 9223372036854775807) : zig n < 18446744073709551616 := by
  unfold zig
  split <;> omega
theorem zig_inj (a b : Int) (h : zig a = zig b) : a = b := by rw [← zag_zig a, h, zag_zig]
end Code
