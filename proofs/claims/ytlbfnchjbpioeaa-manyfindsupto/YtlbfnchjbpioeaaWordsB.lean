/-
  Plain facts on words of eight bytes, continued: capitals made small, the first mark, the number of marks, the last mark. No Go in sight.
-/
import Derived.Test.YtlbfnchjbpioeaaWords
namespace Swar
theorem lane_lower : ∀ b < 256, (b ||| (((if b < 91 then 128 else 0) &&& (255 - (if b < 65 then 128 else 0))) / 4)) = small b := by decide +kernel
theorem jn_map_mul (c : Nat) (f : Nat → Nat) : ∀ l : List Nat, jn (l.map fun b => c * f b) = c * jn (l.map f)
  | [] => rfl
  | b :: l => by
      have := jn_map_mul c f l
      simp only [List.map_cons, jn]
      rw [this, Nat.mul_add, ← Nat.mul_assoc, ← Nat.mul_assoc, Nat.mul_comm c 256]
theorem lower_eq (w : Nat) (hw : w < 18446744073709551616) : w ||| ((belowL w 91 &&& (18446744073709551615 - belowL w 65)) / 4) = lowerL w := by
  have hl := cut_length 8 w
  have hb := cut_byt 8 w
  have hj : jn (cut 8 w) = w := jn_cut 8 w hw
  unfold belowL lowerL
  generalize cut 8 w = l at hl hb hj
  have e9 : 18446744073709551615 = jn (l.map fun _ => 255) := by rw [jn_const l hl]
  have ew : w = jn (l.map fun b => b) := by rw [jn_id, hj]
  rw [e9, ew]
  have q1 : ∀ b : Nat, (if b < 91 then 128 else 0) < 256 := fun b => by split <;> omega
  have q2 : ∀ b : Nat, (if b < 65 then 128 else 0) ≤ 255 := fun b => by split <;> omega
  rw [(jn_map_sub (fun _ => 255) (fun b => if b < 65 then 128 else 0) l (fun b _ => q2 b)).1,
    jn_map_and l _ _ (fun b _ => q1 b) (fun b _ => by omega)]
  have q3 : ∀ b : Nat, ((if b < 91 then 128 else 0) &&& (255 - (if b < 65 then 128 else 0))) = 4 * (((if b < 91 then 128 else 0) &&& (255 - (if b < 65 then 128 else 0))) / 4) := by
    intro b
    by_cases h1 : b < 91 <;> by_cases h2 : b < 65 <;> simp [h1, h2]
  have q4 : ∀ b : Nat, (((if b < 91 then 128 else 0) &&& (255 - (if b < 65 then 128 else 0))) / 4) < 256 := by
    intro b
    by_cases h1 : b < 91 <;> by_cases h2 : b < 65 <;> simp [h1, h2]
  rw [jn_congr (g := fun b => 4 * (((if b < 91 then 128 else 0) &&& (255 - (if b < 65 then 128 else 0))) / 4)) (fun b _ => q3 b), jn_map_mul,
    Nat.mul_div_cancel_left _ (by omega), jn_map_or l _ _ (fun b h => hb b h) (fun b _ => q4 b)]
  exact jn_congr (fun b h => lane_lower b (hb b h))

/-! ### the first mark -/
/-- how many noughts stand below the lowest bit that is set, of so many bits -/
def tz : Nat → Nat → Nat
  | 0, _ => 0
  | n + 1, x => if x % 2 = 1 then 0 else 1 + tz n (x / 2)
theorem tz_zero : ∀ n, tz n 0 = n
  | 0 => rfl
  | n + 1 => by simp [tz, tz_zero n]; omega
theorem and_even (a b : Nat) : (2 * a) &&& (2 * b) = 2 * (a &&& b) := by
  apply Nat.eq_of_testBit_eq
  intro i
  cases i with
  | zero => simp
  | succ i =>
    have h1 : 2 * a / 2 = a := by omega
    have h2 : 2 * b / 2 = b := by omega
    have h3 : 2 * (a &&& b) / 2 = a &&& b := by omega
    rw [Nat.testBit_and, Nat.testBit_succ, Nat.testBit_succ, Nat.testBit_succ, h1, h2, h3, Nat.testBit_and]
theorem and_odd (a b : Nat) : (2 * a + 1) &&& (2 * b + 1) = 2 * (a &&& b) + 1 := by
  apply Nat.eq_of_testBit_eq
  intro i
  cases i with
  | zero => simp
  | succ i =>
    have h1 : (2 * a + 1) / 2 = a := by omega
    have h2 : (2 * b + 1) / 2 = b := by omega
    have h3 : (2 * (a &&& b) + 1) / 2 = a &&& b := by omega
    rw [Nat.testBit_and, Nat.testBit_succ, Nat.testBit_succ, Nat.testBit_succ, h1, h2, h3, Nat.testBit_and]
theorem and_rest (n q : Nat) (h : q < 2 ^ n) : q &&& (2 ^ n - 1 - q) = 0 := by
  apply Nat.eq_of_testBit_eq
  intro i
  have e : 2 ^ n - 1 - q = 2 ^ n - (q + 1) := by omega
  rw [Nat.testBit_and, e, Nat.testBit_two_pow_sub_succ h]
  cases q.testBit i <;> simp
theorem low_bit : ∀ (n x : Nat), 0 < x → x < 2 ^ n → x &&& (2 ^ n - x) = 2 ^ tz n x ∧ tz n x < n
  | 0, x, h0, h => by simp at h; omega
  | n + 1, x, h0, h => by
      rw [Nat.pow_succ] at h ⊢
      by_cases hx : x % 2 = 1
      · obtain ⟨q, rfl⟩ : ∃ q, x = 2 * q + 1 := ⟨x / 2, by omega⟩
        have e : 2 ^ n * 2 - (2 * q + 1) = 2 * (2 ^ n - 1 - q) + 1 := by omega
        rw [e, and_odd, and_rest n q (by omega)]
        simp [tz]
      · obtain ⟨q, rfl⟩ : ∃ q, x = 2 * q := ⟨x / 2, by omega⟩
        have e : 2 ^ n * 2 - 2 * q = 2 * (2 ^ n - q) := by omega
        have ih := low_bit n q (by omega) (by omega)
        rw [e, and_even, ih.1]
        have e2 : 2 * q / 2 = q := by omega
        simp only [tz, hx, if_false, e2]
        refine ⟨?_, by omega⟩
        rw [Nat.pow_add, Nat.pow_one]
theorem tz_up : ∀ (k n x : Nat), tz (k + n) (2 ^ k * x) = k + tz n x
  | 0, n, x => by simp
  | k + 1, n, x => by
      have e : k + 1 + n = (k + n) + 1 := by omega
      have e2 : 2 ^ (k + 1) * x = 2 * (2 ^ k * x) := by rw [Nat.pow_succ, Nat.mul_comm (2 ^ k) 2, Nat.mul_assoc]
      rw [e, e2]
      have h1 : ¬ (2 * (2 ^ k * x)) % 2 = 1 := by omega
      have h2 : 2 * (2 ^ k * x) / 2 = 2 ^ k * x := by omega
      simp only [tz, h1, if_false, h2]
      rw [tz_up k n x]; omega
theorem tz_mark (n x : Nat) : tz (8 + n) (128 + 256 * x) = 7 := by
  have e : 128 + 256 * x = 2 ^ 7 * (1 + 2 * x) := by omega
  have e2 : 8 + n = 7 + (n + 1) := by omega
  rw [e, e2, tz_up]
  have : (1 + 2 * x) % 2 = 1 := by omega
  simp [tz, this]
theorem and_128 : ∀ b < 256, b &&& 128 = if 128 ≤ b then 128 else 0 := by decide +kernel
theorem tz_marks : ∀ l : List Nat, Byt l → tz (8 * l.length) (jn (l.map fun b => b &&& 128)) / 8 = l.findIdx (fun b => 128 ≤ b)
  | [], _ => by simp [tz, jn]
  | b :: l, h => by
      have hb := h b (List.mem_cons_self ..)
      have ih := tz_marks l (fun x hx => h x (List.mem_cons_of_mem _ hx))
      have e : 8 * (b :: l).length = 8 + 8 * l.length := by simp; omega
      rw [e, List.map_cons, jn, and_128 b hb, List.findIdx_cons]
      by_cases hm : 128 ≤ b
      · simp only [hm, if_true, decide_true, cond_true]
        rw [tz_mark]
      · simp only [hm, if_false, decide_false, cond_false]
        have e3 : 0 + 256 * jn (l.map fun b => b &&& 128) = 2 ^ 8 * jn (l.map fun b => b &&& 128) := by omega
        rw [e3, tz_up, ← ih]
        omega
theorem marks_eq (m : Nat) (hm : m < 18446744073709551616) : m &&& 9259542123273814144 = jn ((cut 8 m).map fun b => b &&& 128) := by
  have hl := cut_length 8 m
  have hb := cut_byt 8 m
  have hj : jn (cut 8 m) = m := jn_cut 8 m hm
  generalize cut 8 m = l at hl hb hj
  have e8 : 9259542123273814144 = jn (l.map fun _ => 128) := by rw [jn_const l hl]
  have ew : m = jn (l.map fun b => b) := by rw [jn_id, hj]
  rw [e8, ew, jn_map_and l _ _ (fun b h => hb b h) (fun _ _ => by omega)]
theorem first_eq (m : Nat) (hm : m < 18446744073709551616) : tz 64 (m &&& 9259542123273814144) / 8 = firstL m := by
  have h := tz_marks (cut 8 m) (cut_byt 8 m)
  rw [cut_length] at h
  rw [marks_eq m hm, h]
  rfl
theorem firstL_le (m : Nat) : firstL m ≤ 8 := by
  unfold firstL
  have := List.findIdx_le_length (p := fun b => decide (128 ≤ b)) (xs := cut 8 m)
  rwa [cut_length] at this

/-! ### the number of marks -/
def oc (x : Nat) : Nat :=
  let a := ((x / 2) &&& 6148914691236517205) + (x &&& 6148914691236517205)
  let b := ((a / 4) &&& 3689348814741910323) + (a &&& 3689348814741910323)
  let c := (b / 16 + b) &&& 1085102592571150095
  let d := c + c / 256
  let e := d + d / 65536
  let f := e + e / 4294967296
  f &&& 127
def ocChk (a b c d e f g h : Bool) : Bool :=
  let v := fun t : Bool => bif t then 128 else 0
  let u := fun t : Bool => bif t then 1 else 0
  Nat.beq (oc (jn [v a, v b, v c, v d, v e, v f, v g, v h])) (u a + u b + u c + u d + u e + u f + u g + u h)
theorem ocChk_all : ∀ a b c d e f g h : Bool, ocChk a b c d e f g h = true := by decide +kernel
theorem v_eq (x : Nat) (hx : x < 256) : x &&& 128 = bif decide (128 ≤ x) then 128 else 0 := by
  rw [and_128 x hx]; by_cases h : 128 ≤ x <;> simp [h]
theorem ones_eq (m : Nat) (hm : m < 18446744073709551616) : oc (m &&& 9259542123273814144) = onesL m := by
  rw [marks_eq m hm]
  unfold onesL
  have hl := cut_length 8 m
  have hb := cut_byt 8 m
  generalize cut 8 m = l at hl hb
  match l, hl with
  | [a, b, c, d, e, f, g, i], _ =>
    have h := ocChk_all (decide (128 ≤ a)) (decide (128 ≤ b)) (decide (128 ≤ c)) (decide (128 ≤ d)) (decide (128 ≤ e)) (decide (128 ≤ f)) (decide (128 ≤ g)) (decide (128 ≤ i))
    have h2 := Nat.eq_of_beq_eq_true h
    simp only [List.map_cons, List.map_nil]
    rw [v_eq a (hb a (by simp)), v_eq b (hb b (by simp)), v_eq c (hb c (by simp)), v_eq d (hb d (by simp)), v_eq e (hb e (by simp)), v_eq f (hb f (by simp)), v_eq g (hb g (by simp)), v_eq i (hb i (by simp))]
    rw [h2]
    have u : ∀ x : Nat, (bif decide (128 ≤ x) then 1 else 0) = if 128 ≤ x then 1 else 0 := fun x => by by_cases h : 128 ≤ x <;> simp [h]
    simp only [u, List.countP_cons, List.countP_nil, decide_eq_true_eq]
    omega
theorem onesL_le (m : Nat) : onesL m ≤ 8 := by
  unfold onesL
  have := List.countP_le_length (p := fun b => decide (128 ≤ b)) (l := cut 8 m)
  rwa [cut_length] at this
theorem jn_lt8 (l : List Nat) (hl : l.length = 8) (h : Byt l) : jn l < 18446744073709551616 := by
  have := jn_lt l h
  rw [hl] at this
  simpa using this
theorem zerosL_lt (w : Nat) : zerosL w < 18446744073709551616 := by
  unfold zerosL
  exact jn_lt8 _ (by simp [cut_length]) (Byt.map (fun b _ => by split <;> omega))
theorem belowL_lt (w c : Nat) : belowL w c < 18446744073709551616 := by
  unfold belowL
  exact jn_lt8 _ (by simp [cut_length]) (Byt.map (fun b _ => by split <;> omega))
theorem equalL_lt (a b : Nat) : equalL a b < 18446744073709551616 := by rw [← equal_eq]; exact zerosL_lt _
theorem small_lt (b : Nat) (h : b < 256) : small b < 256 := by unfold small; split <;> omega
theorem lowerL_lt (w : Nat) : lowerL w < 18446744073709551616 := by
  unfold lowerL
  exact jn_lt8 _ (by simp [cut_length]) (Byt.map (fun b h => small_lt b (cut_byt 8 w b h)))
theorem spreadL_lt (c : Nat) (h : c < 256) : spreadL c < 18446744073709551616 := by rw [← spread_eq]; omega
end Swar
