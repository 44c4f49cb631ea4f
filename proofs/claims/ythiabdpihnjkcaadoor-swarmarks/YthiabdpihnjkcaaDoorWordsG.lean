/-
  Plain facts on words: one byte changed, the first mark and the number of marks from a byte on. No Go in sight.
-/
import Derived.Test.YthiabdpihnjkcaaDoorWordsE
namespace Swar
theorem cut_or (n : Nat) : ∀ (a b : Nat), cut n (a ||| b) = List.zipWith (· ||| ·) (cut n a) (cut n b) := by
  induction n with
  | zero => intro a b; rfl
  | succ n ih =>
    intro a b
    have ea : a = a % 256 + 256 * (a / 256) := by omega
    have eb : b = b % 256 + 256 * (b / 256) := by omega
    have h := or_lane (a % 256) (b % 256) (a / 256) (b / 256) (by omega) (by omega)
    rw [← ea, ← eb] at h
    have hlt : a % 256 ||| b % 256 < 256 := Nat.or_lt_two_pow (n := 8) (by omega) (by omega)
    simp only [cut, List.zipWith_cons_cons]
    rw [← ih]
    congr 1 <;> (try congr 1) <;> omega
theorem byt_or (a b j : Nat) (hj : j < 8) : byt (a ||| b) j = byt a j ||| byt b j := by
  have h := cut_get 8 (a ||| b) j hj
  rw [cut_or, List.getElem?_zipWith, cut_get 8 a j hj, cut_get 8 b j hj] at h
  simp only [Option.some.injEq] at h
  exact h.symm
theorem mask_byt : ∀ r < 8, ∀ j < 8, byt (18446744073709551615 - 255 * 256 ^ r) j = if j = r then 0 else 255 := by decide +kernel
theorem one_byt (b r j : Nat) (hb : b < 256) (hr : r < 8) (hj : j < 8) : byt (b * 256 ^ r) j = if j = r then b else 0 := by
  unfold byt
  have h1 : r = 0 ∨ r = 1 ∨ r = 2 ∨ r = 3 ∨ r = 4 ∨ r = 5 ∨ r = 6 ∨ r = 7 := by omega
  have h2 : j = 0 ∨ j = 1 ∨ j = 2 ∨ j = 3 ∨ j = 4 ∨ j = 5 ∨ j = 6 ∨ j = 7 := by omega
  rcases h1 with rfl | rfl | rfl | rfl | rfl | rfl | rfl | rfl <;> rcases h2 with rfl | rfl | rfl | rfl | rfl | rfl | rfl | rfl <;> simp <;> omega
def othL (v b r : Nat) : Nat := (v &&& (18446744073709551615 - 255 * 256 ^ r)) ||| (b * 256 ^ r)
def farL (r : Nat) : Nat := 18446744073709551615 - 255 * 256 ^ r
theorem oth_byt (v b r j : Nat) (hb : b < 256) (hr : r < 8) (hj : j < 8) : byt (othL v b r) j = if j = r then b else byt v j := by
  unfold othL
  rw [byt_or _ _ _ hj, byt_and _ _ _ hj, mask_byt r hr j hj, one_byt b r j hb hr hj]
  by_cases h : j = r
  · simp [h]
  · have e : byt v j &&& 255 = byt v j := by
      have h1 : byt v j &&& 255 = byt v j % 256 := Nat.and_two_pow_sub_one_eq_mod (byt v j) 8
      have h2 := byt_lt v j
      omega
    simp [h, e]
theorem pow_le7 (r : Nat) (hr : r < 8) : 256 ^ r ≤ 72057594037927936 := by
  have h : 256 ^ r ≤ 256 ^ 7 := Nat.pow_le_pow_right (by omega) (by omega)
  have e : (256 : Nat) ^ 7 = 72057594037927936 := by decide
  omega
theorem oth_lt (v b r : Nat) (hv : v < 18446744073709551616) (hb : b < 256) (hr : r < 8) : othL v b r < 18446744073709551616 := by
  unfold othL
  have h1 := pow_le7 r hr
  have h2 : v &&& (18446744073709551615 - 255 * 256 ^ r) ≤ v := Nat.and_le_left
  have h3 : b * 256 ^ r ≤ 255 * 256 ^ r := Nat.mul_le_mul_right _ (by omega)
  have h4 : (v &&& (18446744073709551615 - 255 * 256 ^ r)) ||| (b * 256 ^ r) < 2 ^ 64 := Nat.or_lt_two_pow (by omega) (by omega)
  omega
theorem far_lt (r : Nat) : farL r < 18446744073709551616 := by unfold farL; omega
theorem far_byt (r j : Nat) (hr : r < 8) (hj : j < 8) : byt (farL r) j = if j = r then 0 else 255 := mask_byt r hr j hj
theorem and_lt (a b : Nat) (ha : a < 18446744073709551616) : a &&& b < 18446744073709551616 := Nat.lt_of_le_of_lt Nat.and_le_left ha
theorem far_zeros (v b r : Nat) (hb : b < 256) (hr : r < 8) : zerosL (othL v b r) &&& farL r = zerosL v &&& farL r := by
  refine word_ext _ _ (and_lt _ _ (zerosL_lt _)) (and_lt _ _ (zerosL_lt _)) (fun j hj => ?_)
  rw [byt_and _ _ _ hj, byt_and _ _ _ hj, far_byt r j hr hj, byt_zeros _ _ hj, byt_zeros _ _ hj, oth_byt v b r j hb hr hj]
  by_cases h : j = r <;> simp [h]
theorem far_lower (v b r : Nat) (hb : b < 256) (hr : r < 8) : lowerL (othL v b r) &&& farL r = lowerL v &&& farL r := by
  refine word_ext _ _ (and_lt _ _ (lowerL_lt _)) (and_lt _ _ (lowerL_lt _)) (fun j hj => ?_)
  rw [byt_and _ _ _ hj, byt_and _ _ _ hj, far_byt r j hr hj, byt_lower _ _ hj, byt_lower _ _ hj, oth_byt v b r j hb hr hj]
  by_cases h : j = r <;> simp [h]
theorem first_congr (a b : Nat) (h : ∀ j, j < 8 → (128 ≤ byt a j ↔ 128 ≤ byt b j)) : firstL a = firstL b := by
  have s := firstL_spec b
  refine firstL_of a _ s.1 (fun i hi => ?_) (fun h8 => (h _ h8).2 (s.2.2 h8))
  have h1 := s.2.1 i hi
  have h2 := h i (by omega)
  omega
theorem low7_byt : ∀ j < 8, byt 9223372036854775807 j = if j = 7 then 127 else 255 := by decide +kernel
theorem bit62_byt : ∀ j < 8, byt 4611686018427387904 j = if j = 7 then 64 else 0 := by decide +kernel
theorem and_64_or : ∀ x < 256, ∀ y < 256, ((x &&& 127) ||| (y &&& 64)) < 128 := by
  intro x _ y _
  have h1 : x &&& 127 ≤ 127 := Nat.and_le_right
  have h2 : y &&& 64 ≤ 64 := Nat.and_le_right
  exact Nat.or_lt_two_pow (n := 7) (by omega) (by omega)
theorem first_free (e x : Nat) : firstL ((e &&& 9223372036854775807) ||| (x &&& 4611686018427387904)) = firstL (e &&& 9223372036854775807) := by
  refine first_congr _ _ (fun j hj => ?_)
  rw [byt_or _ _ _ hj, byt_and _ _ _ hj, byt_and _ _ _ hj, low7_byt j hj, bit62_byt j hj]
  by_cases h : j = 7
  · have h1 := and_64_or (byt e j) (byt_lt _ _) (byt x j) (byt_lt _ _)
    have h2 : byt e j &&& 127 ≤ 127 := Nat.and_le_right
    simp only [h, if_true] at h1 h2 ⊢
    omega
  · simp [h]
theorem mk_byt : ∀ j < 8, byt 9259542123273814144 j = 128 := by decide +kernel
theorem equal_self (v : Nat) : equalL v v = 9259542123273814144 :=
  word_ext _ _ (equalL_lt _ _) (by omega) (fun j hj => by rw [byt_equal _ _ _ hj, mk_byt j hj, if_pos rfl])
/-- the first mark from byte j on, and how many there are -/
def fromF (m j : Nat) : Nat := j + ((cut 8 m).drop j).findIdx (fun b => 128 ≤ b)
def fromN (m j : Nat) : Nat := ((cut 8 m).drop j).countP (fun b => 128 ≤ b)
theorem fromF_8 (m : Nat) : fromF m 8 = 8 := by unfold fromF; rw [List.drop_of_length_le (by simp [cut_length])]; rfl
theorem fromN_8 (m : Nat) : fromN m 8 = 0 := by unfold fromN; rw [List.drop_of_length_le (by simp [cut_length])]; rfl
theorem fromF_0 (m : Nat) : fromF m 0 = firstL m := by simp [fromF, firstL]
theorem fromN_0 (m : Nat) : fromN m 0 = onesL m := rfl
theorem drop_byt (m j : Nat) (hj : j < 8) : (cut 8 m).drop j = byt m j :: (cut 8 m).drop (j + 1) := by
  have hl : j < (cut 8 m).length := by simpa [cut_length] using hj
  have e := cut_get 8 m j hj
  rw [List.getElem?_eq_getElem hl] at e
  rw [List.drop_eq_getElem_cons hl, Option.some.inj e]
theorem fromF_step (m j : Nat) (hj : j < 8) : fromF m j = if 128 ≤ byt m j then j else fromF m (j + 1) := by
  unfold fromF
  rw [drop_byt m j hj, List.findIdx_cons]
  by_cases h : 128 ≤ byt m j
  · simp [h]
  · simp only [h, decide_false, cond_false, if_false]; omega
theorem fromN_step (m j : Nat) (hj : j < 8) : fromN m j = fromN m (j + 1) + if 128 ≤ byt m j then 1 else 0 := by
  unfold fromN
  rw [drop_byt m j hj, List.countP_cons]
  simp
theorem fromN_le (m j : Nat) : fromN m j ≤ 8 := by
  unfold fromN
  have h1 := List.countP_le_length (p := fun b => decide (128 ≤ b)) (l := (cut 8 m).drop j)
  have h2 : ((cut 8 m).drop j).length ≤ 8 := by simp [cut_length]
  omega
end Swar
