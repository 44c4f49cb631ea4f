/-
  Plain facts on the CRC's step: no Go in sight. No conditions but those that each fact names.
-/
namespace Sums
def P : Nat := 2197175160
def step (c : Nat) : Nat := if c % 2 = 1 then c / 2 ^^^ P else c / 2
def stepN : Nat → Nat → Nat
  | 0, c => c
  | n + 1, c => stepN n (step c)
theorem step_lt (c : Nat) (h : c < 4294967296) : step c < 4294967296 := by
  unfold step P
  split
  · exact Nat.xor_lt_two_pow (n := 32) (by omega) (by decide)
  · omega
theorem stepN_lt : ∀ n c, c < 4294967296 → stepN n c < 4294967296
  | 0, _, h => h
  | n + 1, c, h => stepN_lt n _ (step_lt c h)
theorem half_xor (a b : Nat) : (a ^^^ b) / 2 = a / 2 ^^^ b / 2 := by
  have := Nat.shiftRight_xor_distrib (a := a) (b := b) (i := 1)
  simpa [Nat.shiftRight_eq_div_pow] using this
theorem xor_xor (a b c d : Nat) : (a ^^^ b) ^^^ (c ^^^ d) = (a ^^^ c) ^^^ (b ^^^ d) := by
  rw [Nat.xor_assoc, ← Nat.xor_assoc b c d, Nat.xor_comm b c, Nat.xor_assoc c b d, ← Nat.xor_assoc]
theorem step_xor (a b : Nat) : step (a ^^^ b) = step a ^^^ step b := by
  unfold step
  have hm : (a ^^^ b) % 2 = (a + b) % 2 := by
    have h := Nat.testBit_xor a b 0
    simp only [Nat.testBit_zero] at h
    by_cases h1 : (a ^^^ b) % 2 = 1 <;> by_cases ha : a % 2 = 1 <;> by_cases hb : b % 2 = 1 <;> simp [h1, ha, hb] at h <;> omega
  rw [hm, half_xor]
  by_cases ha : a % 2 = 1 <;> by_cases hb : b % 2 = 1
  · rw [if_neg (by omega), if_pos ha, if_pos hb, xor_xor, Nat.xor_self, Nat.xor_zero]
  · rw [if_pos (by omega), if_pos ha, if_neg hb, Nat.xor_assoc, Nat.xor_assoc, Nat.xor_comm (b / 2)]
  · rw [if_pos (by omega), if_neg ha, if_pos hb, Nat.xor_assoc]
  · rw [if_neg (by omega), if_neg ha, if_neg hb]
theorem stepN_xor : ∀ n a b, stepN n (a ^^^ b) = stepN n a ^^^ stepN n b
  | 0, _, _ => rfl
  | n + 1, a, b => by simp only [stepN]; rw [step_xor, stepN_xor n]
theorem stepN_zero : ∀ n, stepN n 0 = 0
  | 0 => rfl
  | n + 1 => by simp only [stepN]; rw [show step 0 = 0 from rfl, stepN_zero n]
theorem stepN_add : ∀ n m c, stepN (n + m) c = stepN m (stepN n c)
  | 0, m, c => by simp [stepN]
  | n + 1, m, c => by rw [Nat.succ_add]; simp only [stepN]; exact stepN_add n m _
theorem stepN_succ' (n c : Nat) : stepN (n + 1) c = step (stepN n c) := stepN_add n 1 c
theorem xor_join (k q r : Nat) (h : r < 2 ^ k) : 2 ^ k * q ^^^ r = 2 ^ k * q + r := by
  apply Nat.eq_of_testBit_eq
  intro i
  rw [Nat.testBit_xor, Nat.testBit_two_pow_mul_add _ h, Nat.testBit_two_pow_mul]
  by_cases hi : i < k
  · simp [hi, Nat.not_le.2 hi]
  · have : r.testBit i = false := Nat.testBit_lt_two_pow (Nat.lt_of_lt_of_le h (Nat.pow_le_pow_right (by omega) (by omega)))
    simp [hi, this, Nat.le_of_not_lt hi]
theorem step_double (q : Nat) : step (2 * q) = q := by
  unfold step
  rw [if_neg (by omega)]; omega
theorem stepN_up : ∀ n q, stepN n (2 ^ n * q) = q
  | 0, q => by simp [stepN]
  | n + 1, q => by
      simp only [stepN]
      rw [show 2 ^ (n + 1) * q = 2 * (2 ^ n * q) by rw [Nat.pow_succ, Nat.mul_comm (2 ^ n) 2, Nat.mul_assoc], step_double, stepN_up n]
theorem stepN_split (n c : Nat) : stepN n c = stepN n (c % 2 ^ n) ^^^ c / 2 ^ n := by
  have h : c = 2 ^ n * (c / 2 ^ n) ^^^ c % 2 ^ n := by
    rw [xor_join _ _ _ (Nat.mod_lt _ (Nat.two_pow_pos n))]; exact (Nat.div_add_mod _ _).symm
  conv => lhs; rw [h]
  rw [stepN_xor, stepN_up, Nat.xor_comm]
/-! the table -/
def tab4 : List Nat := [0, 274646895, 549293790, 820201905, 1098587580, 1361435347, 1640403810, 1905808397, 2197175160, 2460548119, 2722870694, 2987750089, 3280807620, 3553878443, 3811616794, 4084100981]
theorem tab4_get : ∀ r < 16, tab4.getD r 0 = stepN 4 r := by decide +kernel
theorem four (c : Nat) : tab4.getD (c % 16) 0 ^^^ c / 16 = stepN 4 c := by
  rw [tab4_get _ (by omega)]
  exact (stepN_split 4 c).symm
/-! step has a way back -/
theorem step_inj (a b : Nat) (ha : a < 4294967296) (hb : b < 4294967296) (h : step a = step b) : a = b := by
  have key : ∀ c, c < 4294967296 → step c = 0 → c = 0 := by
    intro c hc h
    unfold step at h
    split at h
    · exfalso
      have e : c / 2 = P := by
        have := congrArg (· ^^^ P) h
        simpa [Nat.xor_assoc] using this
      unfold P at e; omega
    · omega
  have h1 : step (a ^^^ b) = 0 := by rw [step_xor, h, Nat.xor_self]
  have h2 := key _ (Nat.xor_lt_two_pow (n := 32) ha hb) h1
  have := congrArg (· ^^^ b) h2
  simpa [Nat.xor_assoc] using this
theorem stepN_inj : ∀ n a b, a < 4294967296 → b < 4294967296 → stepN n a = stepN n b → a = b
  | 0, _, _, _, _, h => h
  | n + 1, a, b, ha, hb, h => step_inj a b ha hb (stepN_inj n _ _ (step_lt a ha) (step_lt b hb) h)
/-! the product -/
def mulF : Nat → Nat → Nat → Nat
  | 0, _, _ => 0
  | k + 1, a, b => (if a / 2147483648 = 1 then b else 0) ^^^ mulF k (a * 2 % 4294967296) (step b)
theorem mulF_lt : ∀ k a b, b < 4294967296 → mulF k a b < 4294967296
  | 0, _, _, _ => by simp [mulF]
  | k + 1, a, b, h => by
      simp only [mulF]
      refine Nat.xor_lt_two_pow (n := 32) ?_ (mulF_lt k _ _ (step_lt b h))
      split <;> omega
theorem mulF_zero : ∀ k b, mulF k 0 b = 0
  | 0, _ => rfl
  | k + 1, b => by simp [mulF, mulF_zero k]
theorem mulF_xor : ∀ k a b c, mulF k a (b ^^^ c) = mulF k a b ^^^ mulF k a c
  | 0, _, _, _ => by simp [mulF]
  | k + 1, a, b, c => by
      simp only [mulF]
      rw [step_xor, mulF_xor k]
      split
      · rw [xor_xor]
      · simp
theorem mulF_step : ∀ k a b, mulF k a (step b) = step (mulF k a b)
  | 0, _, _ => by simp [mulF, step]
  | k + 1, a, b => by
      simp only [mulF]
      rw [step_xor, mulF_step k]
      congr 1
      split
      · rfl
      · rfl
theorem mulF_stepN : ∀ n k a b, mulF k a (stepN n b) = stepN n (mulF k a b)
  | 0, _, _, _ => rfl
  | n + 1, k, a, b => by simp only [stepN]; rw [mulF_stepN n, mulF_step]
theorem mulF_one : ∀ k a, k < 32 → a < 4294967296 → mulF (k + 1) a (2 ^ k) = a / 2 ^ (31 - k)
  | 0, a, _, ha => by
      simp only [mulF, Nat.xor_zero]
      have h1 : a / 2147483648 ≤ 1 := by omega
      simp only [Nat.pow_zero, Nat.sub_zero, Nat.reducePow]
      split <;> omega
  | k + 1, a, hk, ha => by
      rw [mulF, show step (2 ^ (k + 1)) = 2 ^ k by rw [Nat.pow_succ, Nat.mul_comm]; exact step_double _, mulF_one k _ (by omega) (Nat.mod_lt _ (by decide))]
      obtain ⟨e, he⟩ : ∃ e, 31 - k = e + 1 := ⟨30 - k, by omega⟩
      have he2 : 31 - (k + 1) = e := by omega
      rw [he, he2]
      have hke : 2 ^ (k + 1) * 2 ^ e = 2147483648 := by rw [← Nat.pow_add, show k + 1 + e = 31 by omega]
      have hr : a * 2 % 4294967296 / 2 ^ (e + 1) = a % 2147483648 / 2 ^ e := by
        rw [show a * 2 % 4294967296 = a % 2147483648 * 2 by omega, Nat.pow_succ, Nat.mul_comm (2 ^ e) 2, ← Nat.div_div_eq_div_mul]
        congr 1; omega
      rw [hr]
      have hlt : a % 2147483648 / 2 ^ e < 2 ^ (k + 1) := by
        rw [Nat.div_lt_iff_lt_mul (Nat.two_pow_pos e), hke]
        exact Nat.mod_lt _ (by decide)
      have hd : a / 2 ^ e = 2 ^ (k + 1) * (a / 2147483648) + a % 2147483648 / 2 ^ e := by
        have h := Nat.div_add_mod a 2147483648
        conv => lhs; rw [← h, ← hke, Nat.mul_comm (2 ^ (k + 1)) (2 ^ e), Nat.mul_assoc, Nat.mul_add_div (Nat.two_pow_pos e)]
        rw [Nat.mul_comm (2 ^ e) (2 ^ (k + 1)), hke]
      rw [hd]
      by_cases h1 : a / 2147483648 = 1
      · rw [if_pos h1, h1, Nat.mul_one]
        have := xor_join (k + 1) 1 _ hlt
        simpa using this
      · have h0 : a / 2147483648 = 0 := by omega
        rw [if_neg h1, h0]; simp
theorem mul_pow (a m : Nat) (ha : a < 4294967296) : mulF 32 a (stepN m 2147483648) = stepN m a := by
  rw [mulF_stepN]
  congr 1
  have := mulF_one 31 a (by decide) ha
  simpa using this
/-! how often a number can be doubled -/
def cnt : Nat → Nat → Nat
  | 0, _ => 0
  | n + 1, a => cnt n a + (if a * 2 ^ n % 4294967296 = 0 then 0 else 1)
theorem cnt_shift (a : Nat) : ∀ n, cnt n (a * 2 % 4294967296) + (if a % 4294967296 = 0 then 0 else 1) = cnt n a + (if a * 2 ^ n % 4294967296 = 0 then 0 else 1)
  | 0 => by simp [cnt]
  | n + 1 => by
      have ih := cnt_shift a n
      have e : a * 2 % 4294967296 * 2 ^ n % 4294967296 = a * 2 ^ (n + 1) % 4294967296 := by
        rw [Nat.mod_mul_mod, Nat.mul_assoc, Nat.pow_succ, Nat.mul_comm 2]
      simp only [cnt]
      rw [e]
      omega
theorem cnt_less (a : Nat) (h0 : a ≠ 0) (h : a < 4294967296) : cnt 32 (a * 2 % 4294967296) < cnt 32 a := by
  have h1 := cnt_shift a 32
  rw [if_neg (by omega), if_pos (show a * 2 ^ 32 % 4294967296 = 0 by omega)] at h1
  omega
/-! the sum of a text -/
def crcF (c : Nat) (l : List Nat) : Nat := l.foldl (fun c b => stepN 8 (c ^^^ b)) c
theorem crcF_nil (c : Nat) : crcF c [] = c := rfl
theorem crcF_cons (c b : Nat) (l : List Nat) : crcF c (b :: l) = crcF (stepN 8 (c ^^^ b)) l := by unfold crcF; rw [List.foldl_cons]
def crcL (l : List Nat) : Nat := crcF 4294967295 l ^^^ 4294967295
def Byt (l : List Nat) : Prop := ∀ b ∈ l, b < 256
theorem crcF_lt (l : List Nat) (c : Nat) (hb : Byt l) (h : c < 4294967296) : crcF c l < 4294967296 := by
  induction l generalizing c with
  | nil => exact h
  | cons b l ih =>
      rw [crcF_cons]
      exact ih _ (fun x hx => hb x (List.mem_cons_of_mem _ hx)) (stepN_lt 8 _ (Nat.xor_lt_two_pow (n := 32) h (by have := hb b (List.mem_cons_self ..); omega)))
theorem crcL_lt (l : List Nat) (h : Byt l) : crcL l < 4294967296 := Nat.xor_lt_two_pow (n := 32) (crcF_lt l _ h (by decide)) (by decide)
theorem crcF_append (a b : List Nat) (c : Nat) : crcF c (a ++ b) = crcF (crcF c a) b := by
  unfold crcF; rw [List.foldl_append]
theorem crcF_from (l : List Nat) (c : Nat) : crcF c l = stepN (8 * l.length) c ^^^ crcF 0 l := by
  induction l generalizing c with
  | nil => rw [crcF_nil, crcF_nil, Nat.xor_zero]; rfl
  | cons b l ih =>
      rw [crcF_cons, crcF_cons, List.length_cons, ih, ih (stepN 8 (0 ^^^ b)), Nat.zero_xor, stepN_xor, stepN_xor, ← stepN_add, show 8 * (l.length + 1) = 8 + 8 * l.length by omega, Nat.xor_assoc]
theorem crc_join (a b : List Nat) : stepN (8 * b.length) (crcL a) ^^^ crcL b = crcL (a ++ b) := by
  unfold crcL
  rw [crcF_append, crcF_from b (crcF _ a), crcF_from b 4294967295, stepN_xor]
  generalize stepN (8 * b.length) (crcF 4294967295 a) = x
  generalize stepN (8 * b.length) 4294967295 = y
  generalize crcF 0 b = z
  rw [Nat.xor_assoc x y, ← Nat.xor_assoc y (y ^^^ z), ← Nat.xor_assoc y y z, Nat.xor_self, Nat.zero_xor, ← Nat.xor_assoc]
end Sums
