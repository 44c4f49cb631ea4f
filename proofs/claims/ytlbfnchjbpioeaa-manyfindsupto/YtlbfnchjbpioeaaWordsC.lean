/-
  Plain facts on words of eight bytes, continued: the bytes of a word one by one, marks made of answers. No Go in sight.
-/
import Derived.Test.YtlbfnchjbpioeaaWordsB
namespace Swar
/-- byte k of a word -/
def byt (v k : Nat) : Nat := v / 256 ^ k % 256
theorem byt_lt (v k : Nat) : byt v k < 256 := Nat.mod_lt _ (by omega)
theorem cut8 (v : Nat) : cut 8 v = [byt v 0, byt v 1, byt v 2, byt v 3, byt v 4, byt v 5, byt v 6, byt v 7] := by
  simp only [cut, byt, Nat.div_div_eq_div_mul, Nat.reduceMul, Nat.reducePow, Nat.div_one]
/-- marks made of answers -/
def markL (bs : List Bool) : Nat := jn (bs.map fun b => if b then 128 else 0)
theorem markL_zeros (v : Nat) : zerosL v = markL [byt v 0 == 0, byt v 1 == 0, byt v 2 == 0, byt v 3 == 0, byt v 4 == 0, byt v 5 == 0, byt v 6 == 0, byt v 7 == 0] := by
  unfold zerosL markL; rw [cut8]; simp
theorem markL_equal (a b : Nat) : equalL a b = markL [byt a 0 == byt b 0, byt a 1 == byt b 1, byt a 2 == byt b 2, byt a 3 == byt b 3, byt a 4 == byt b 4, byt a 5 == byt b 5, byt a 6 == byt b 6, byt a 7 == byt b 7] := by
  unfold equalL markL; rw [cut8, cut8]; simp
theorem markL_below (v c : Nat) : belowL v c = markL [decide (byt v 0 < c), decide (byt v 1 < c), decide (byt v 2 < c), decide (byt v 3 < c), decide (byt v 4 < c), decide (byt v 5 < c), decide (byt v 6 < c), decide (byt v 7 < c)] := by
  unfold belowL markL; rw [cut8]; simp
/-- marks of the answers from j on -/
def markFrom (bs : List Bool) (j : Nat) : Nat := markL (bs.drop j)
theorem markFrom_step (bs : List Bool) (j : Nat) (h : j < bs.length) : markFrom bs j = (if bs.getD j false then 128 else 0) + 256 * markFrom bs (j + 1) := by
  unfold markFrom markL
  rw [List.drop_eq_getElem_cons h, List.map_cons, jn]
  have e : bs.getD j false = bs[j] := by simp [List.getD, h]
  rw [e]
theorem markFrom_all (bs : List Bool) : markFrom bs bs.length = 0 := by simp [markFrom, markL, jn]
theorem markFrom_lt (bs : List Bool) (j : Nat) : markFrom bs j < 256 ^ (bs.length - j) := by
  unfold markFrom markL
  have := jn_lt ((bs.drop j).map fun b => if b then 128 else 0) (by
    intro x hx
    obtain ⟨y, _, rfl⟩ := List.mem_map.1 hx
    split <;> omega)
  simpa using this
/-- the bytes made small, from j on -/
def lowFrom (v j : Nat) : Nat := jn (((cut 8 v).drop j).map small)
theorem lowFrom_8 (v : Nat) : lowFrom v 8 = 0 := by
  unfold lowFrom; rw [List.drop_of_length_le (by simp [cut_length])]; rfl
theorem lowFrom_0 (v : Nat) : lowFrom v 0 = lowerL v := rfl
theorem cut_get : ∀ (n v j : Nat), j < n → (cut n v)[j]? = some (byt v j)
  | 0, _, _, h => by omega
  | n + 1, v, 0, _ => by simp [cut, byt]
  | n + 1, v, j + 1, h => by
      simp only [cut, List.getElem?_cons_succ]
      rw [cut_get n (v / 256) j (by omega)]
      simp only [byt, Nat.div_div_eq_div_mul]
      rw [Nat.pow_succ, Nat.mul_comm]
theorem lowFrom_step (v j : Nat) (h : j < 8) : lowFrom v j = small (byt v j) + 256 * lowFrom v (j + 1) := by
  unfold lowFrom
  have hl : j < (cut 8 v).length := by simpa [cut_length] using h
  rw [List.drop_eq_getElem_cons hl, List.map_cons, jn]
  have e := cut_get 8 v j h
  rw [List.getElem?_eq_getElem hl] at e
  rw [Option.some.inj e]
theorem lowFrom_lt (v j : Nat) : lowFrom v j < 256 ^ (8 - j) := by
  unfold lowFrom
  have := jn_lt (((cut 8 v).drop j).map small) (Byt.map (fun b hb => small_lt b (cut_byt 8 v b (List.mem_of_mem_drop hb))))
  simpa [cut_length] using this
theorem pow_lt56 (j : Nat) (h0 : 0 < j) (h8 : j ≤ 8) (x : Nat) (hx : x < 256 ^ (8 - j)) : x < 72057594037927936 := by
  have h : 256 ^ (8 - j) ≤ 256 ^ 7 := Nat.pow_le_pow_right (by omega) (by omega)
  have e : (256 : Nat) ^ 7 = 72057594037927936 := by decide
  omega
/-- the first mark among the bytes from j on -/
theorem firstL_step (m : Nat) : firstL m = if 128 ≤ byt m 0 then 0 else if 128 ≤ byt m 1 then 1 else if 128 ≤ byt m 2 then 2 else if 128 ≤ byt m 3 then 3 else if 128 ≤ byt m 4 then 4 else if 128 ≤ byt m 5 then 5 else if 128 ≤ byt m 6 then 6 else if 128 ≤ byt m 7 then 7 else 8 := by
  unfold firstL
  rw [cut8]
  simp only [List.findIdx_cons, List.findIdx_nil]
  by_cases h0 : 128 ≤ byt m 0 <;> by_cases h1 : 128 ≤ byt m 1 <;> by_cases h2 : 128 ≤ byt m 2 <;> by_cases h3 : 128 ≤ byt m 3 <;> by_cases h4 : 128 ≤ byt m 4 <;> by_cases h5 : 128 ≤ byt m 5 <;> by_cases h6 : 128 ≤ byt m 6 <;> by_cases h7 : 128 ≤ byt m 7 <;> simp [h0, h1, h2, h3, h4, h5, h6, h7]
theorem firstL_spec (m : Nat) : firstL m ≤ 8 ∧ (∀ j, j < firstL m → byt m j < 128) ∧ (firstL m < 8 → 128 ≤ byt m (firstL m)) := by
  have hle := firstL_le m
  refine ⟨hle, ?_, ?_⟩
  · intro j hj
    unfold firstL at hj
    have hj8 : j < 8 := by
      have := List.findIdx_le_length (p := fun b => decide (128 ≤ b)) (xs := cut 8 m)
      rw [cut_length] at this; omega
    have h := List.not_of_lt_findIdx hj
    have e := cut_get 8 m j hj8
    have hl : j < (cut 8 m).length := by simpa [cut_length] using hj8
    rw [List.getElem?_eq_getElem hl] at e
    rw [Option.some.inj e] at h
    simpa using h
  · intro h8
    unfold firstL at h8 ⊢
    have hl : (cut 8 m).findIdx (fun b => 128 ≤ b) < (cut 8 m).length := by simpa [cut_length] using h8
    have h := List.findIdx_getElem (w := hl)
    have e := cut_get 8 m _ h8
    rw [List.getElem?_eq_getElem hl] at e
    rw [Option.some.inj e] at h
    simpa using h
theorem firstL_of (m j : Nat) (hj : j ≤ 8) (h1 : ∀ i, i < j → byt m i < 128) (h2 : j < 8 → 128 ≤ byt m j) : firstL m = j := by
  have s := firstL_spec m
  rcases Nat.lt_trichotomy (firstL m) j with h | h | h
  · have a := s.2.2 (by omega); have b := h1 _ h; omega
  · exact h
  · have a := s.2.1 _ h; have b := h2 (by omega); omega
/-- how many of the first j bytes are marked -/
def onesTo (m j : Nat) : Nat := ((cut 8 m).take j).countP (fun b => 128 ≤ b)
theorem onesTo_0 (m : Nat) : onesTo m 0 = 0 := rfl
theorem onesTo_8 (m : Nat) : onesTo m 8 = onesL m := by
  unfold onesTo onesL; rw [List.take_of_length_le (by simp [cut_length])]
theorem onesTo_step (m j : Nat) (h : j < 8) : onesTo m (j + 1) = onesTo m j + if 128 ≤ byt m j then 1 else 0 := by
  unfold onesTo
  have hl : j < (cut 8 m).length := by simpa [cut_length] using h
  have e := cut_get 8 m j h
  rw [List.getElem?_eq_getElem hl] at e
  rw [List.take_succ_eq_append_getElem hl, List.countP_append, Option.some.inj e]
  simp
theorem onesTo_le (m j : Nat) : onesTo m j ≤ 8 := by
  unfold onesTo
  have h1 := List.countP_le_length (p := fun b => decide (128 ≤ b)) (l := (cut 8 m).take j)
  have h2 : ((cut 8 m).take j).length ≤ 8 := by simp [cut_length]; omega
  omega
/-- so many times a byte -/
def spreadTo (c j : Nat) : Nat := jn (List.replicate j c)
theorem spreadTo_step (c j : Nat) : spreadTo c (j + 1) = c + 256 * spreadTo c j := by simp [spreadTo, List.replicate_succ, jn]
theorem spreadTo_8 (c : Nat) : spreadTo c 8 = spreadL c := rfl
theorem spreadTo_lt (c j : Nat) (h : c < 256) : spreadTo c j < 256 ^ j := by
  unfold spreadTo
  have := jn_lt (List.replicate j c) (by intro b hb; rw [List.eq_of_mem_replicate hb]; exact h)
  simpa using this
end Swar
