/-
  Plain facts on looking for bytes by words of eight: where a byte stands first, and what words tell of it. No Go in sight.
-/
import Derived.Test.YtlbfnchjbpioeaaWordsC
namespace Swar
theorem cut_jn : ∀ l : List Nat, Byt l → cut l.length (jn l) = l
  | [], _ => rfl
  | b :: l, h => by
      have hb := h b (List.mem_cons_self ..)
      have ih := cut_jn l (fun x hx => h x (List.mem_cons_of_mem _ hx))
      simp only [List.length_cons, jn, cut]
      have e1 : (b + 256 * jn l) % 256 = b := by omega
      have e2 : (b + 256 * jn l) / 256 = jn l := by omega
      rw [e1, e2, ih]
theorem byt_jn (l : List Nat) (hl : l.length = 8) (h : Byt l) (j : Nat) (hj : j < 8) : l[j]? = some (byt (jn l) j) := by
  have e := cut_jn l h
  rw [hl] at e
  have g := cut_get 8 (jn l) j hj
  rw [e] at g
  exact g
theorem byt_ldL (s : ByteArray) (a : Int) (j : Nat) (hj : j < 8) : byt (ldL s a) j = cell s (a + j) := by
  have h := byt_jn ((List.range' 0 8).map fun k : Nat => cell s (a + (k : Int))) (by simp) (Byt.map fun b _ => cell_lt _ _) j hj
  rw [List.getElem?_map, List.getElem?_range' hj] at h
  simp only [Option.map_some, Option.some.injEq] at h
  have e : (0 + 1 * j : Nat) = j := by omega
  rw [e] at h
  exact h.symm
theorem byt_spread (c j : Nat) (hc : c < 256) (hj : j < 8) : byt (spreadL c) j = c := by
  have h := byt_jn (List.replicate 8 c) (by simp) (by intro b hb; rw [List.eq_of_mem_replicate hb]; exact hc) j hj
  rw [List.getElem?_replicate, if_pos hj] at h
  exact (Option.some.inj h).symm
theorem byt_equal (a b j : Nat) (hj : j < 8) : byt (equalL a b) j = if byt a j = byt b j then 128 else 0 := by
  have h := byt_jn (List.zipWith (fun x y => if x = y then 128 else 0) (cut 8 a) (cut 8 b)) (by simp [cut_length]) (by
    intro x hx
    obtain ⟨i, hi, rfl⟩ := List.getElem_of_mem hx
    rw [List.getElem_zipWith]
    split <;> omega) j hj
  rw [List.getElem?_zipWith, cut_get 8 a j hj, cut_get 8 b j hj] at h
  simp only [Option.some.injEq] at h
  exact h.symm
theorem byt_lower (v j : Nat) (hj : j < 8) : byt (lowerL v) j = small (byt v j) := by
  have h := byt_jn ((cut 8 v).map small) (by simp [cut_length]) (Byt.map fun b hb => small_lt b (cut_byt 8 v b hb)) j hj
  rw [List.getElem?_map, cut_get 8 v j hj] at h
  exact (Option.some.inj h).symm
theorem byt_zeros (v j : Nat) (hj : j < 8) : byt (zerosL v) j = if byt v j = 0 then 128 else 0 := by
  have h := byt_jn ((cut 8 v).map fun b => if b = 0 then 128 else 0) (by simp [cut_length]) (Byt.map fun b hb => by split <;> omega) j hj
  rw [List.getElem?_map, cut_get 8 v j hj] at h
  exact (Option.some.inj h).symm
theorem byt_below (v c j : Nat) (hj : j < 8) : byt (belowL v c) j = if byt v j < c then 128 else 0 := by
  have h := byt_jn ((cut 8 v).map fun b => if b < c then 128 else 0) (by simp [cut_length]) (Byt.map fun b hb => by split <;> omega) j hj
  rw [List.getElem?_map, cut_get 8 v j hj] at h
  exact (Option.some.inj h).symm
/-- words are one if their bytes are -/
theorem word_ext (a b : Nat) (ha : a < 18446744073709551616) (hb : b < 18446744073709551616) (h : ∀ j < 8, byt a j = byt b j) : a = b := by
  have ea : jn (cut 8 a) = a := jn_cut 8 a ha
  have eb : jn (cut 8 b) = b := jn_cut 8 b hb
  rw [← ea, ← eb]
  congr 1
  rw [cut8, cut8, h 0 (by omega), h 1 (by omega), h 2 (by omega), h 3 (by omega), h 4 (by omega), h 5 (by omega), h 6 (by omega), h 7 (by omega)]

/-- the first of so many places, from one on, of which it is so; -1: none -/
def fnd (P : Nat → Bool) : Nat → Nat → Int
  | _, 0 => -1
  | f, k + 1 => if P f then (f : Int) else fnd P (f + 1) k
theorem fnd_hit (P : Nat → Bool) (f k : Nat) (hk : 0 < k) (h : P f = true) : fnd P f k = f := by
  obtain ⟨m, rfl⟩ : ∃ m, k = m + 1 := ⟨k - 1, by omega⟩
  simp [fnd, h]
theorem fnd_skip (P : Nat → Bool) : ∀ (j f k : Nat), j ≤ k → (∀ i, i < j → P (f + i) = false) → fnd P f k = fnd P (f + j) (k - j)
  | 0, f, k, _, _ => by simp
  | j + 1, f, k, hk, h => by
      obtain ⟨m, rfl⟩ : ∃ m, k = m + 1 := ⟨k - 1, by omega⟩
      have h0 := h 0 (by omega)
      simp only [Nat.add_zero] at h0
      have ih := fnd_skip P j (f + 1) m (by omega) (fun i hi => by
        have := h (i + 1) (by omega)
        rwa [show f + (i + 1) = f + 1 + i by omega] at this)
      simp only [fnd, h0]
      rw [show f + (j + 1) = f + 1 + j by omega, show m + 1 - (j + 1) = m - j by omega, ← ih]
      rfl
theorem fnd_none (P : Nat → Bool) (f k : Nat) (h : ∀ i, i < k → P (f + i) = false) : fnd P f k = -1 := by
  rw [fnd_skip P k f k (Nat.le_refl _) h]
  simp [fnd]
theorem fnd_congr (P Q : Nat → Bool) : ∀ (k f : Nat), (∀ i, i < k → P (f + i) = Q (f + i)) → fnd P f k = fnd Q f k
  | 0, _, _ => rfl
  | k + 1, f, h => by
      have h0 := h 0 (by omega)
      simp only [Nat.add_zero] at h0
      have ih := fnd_congr P Q k (f + 1) (fun i hi => by
        have := h (i + 1) (by omega)
        rwa [show f + (i + 1) = f + 1 + i by omega] at this)
      simp only [fnd, h0, ih]
theorem fnd_spec (P : Nat → Bool) : ∀ (k f : Nat), (fnd P f k = -1 ∧ ∀ i, i < k → P (f + i) = false) ∨ ∃ i, i < k ∧ fnd P f k = ((f + i : Nat) : Int) ∧ P (f + i) = true ∧ ∀ j, j < i → P (f + j) = false
  | 0, f => .inl ⟨rfl, fun i hi => by omega⟩
  | k + 1, f => by
      by_cases h : P f = true
      · exact .inr ⟨0, by omega, by simp [fnd, h], by simpa using h, fun j hj => by omega⟩
      · have h' : P f = false := by simpa using h
        have e : fnd P f (k + 1) = fnd P (f + 1) k := by simp [fnd, h']
        rcases fnd_spec P k (f + 1) with ⟨h1, h2⟩ | ⟨i, hi, h1, h2, h3⟩
        · refine .inl ⟨by rw [e, h1], fun i hi => ?_⟩
          cases i with
          | zero => simpa using h'
          | succ i => have := h2 i (by omega); rwa [show f + (i + 1) = f + 1 + i by omega]
        · refine .inr ⟨i + 1, by omega, by rw [e, h1]; congr 1; omega, by rwa [show f + (i + 1) = f + 1 + i by omega], fun j hj => ?_⟩
          cases j with
          | zero => simpa using h'
          | succ j => have := h3 j (by omega); rwa [show f + (j + 1) = f + 1 + j by omega]
theorem fnd_bounds (P : Nat → Bool) (k f : Nat) : -1 ≤ fnd P f k ∧ fnd P f k < ((f + k : Nat) : Int) := by
  rcases fnd_spec P k f with ⟨h, _⟩ | ⟨i, hi, h, _⟩ <;> rw [h] <;> omega

/-- where a byte stands first, from a place on -/
def idxL (s : ByteArray) (c f : Nat) : Int := fnd (fun p => bt s p == c) f (s.size - f)
/-- what one word tells: the first of eight places that hold the byte -/
def hitL (s : ByteArray) (c a : Nat) : Nat := firstL (equalL (ldL s a) (spreadL c))
theorem mark_iff (s : ByteArray) (c a j : Nat) (hc : c < 256) (hj : j < 8) : 128 ≤ byt (equalL (ldL s a) (spreadL c)) j ↔ bt s (a + j) = c := by
  rw [byt_equal _ _ _ hj, byt_ldL s a j hj, byt_spread c j hc hj, show ((a : Int) + (j : Int)) = ((a + j : Nat) : Int) by omega, cell_nat]
  by_cases h : bt s (a + j) = c <;> simp [h]
theorem hit_le (s : ByteArray) (c a : Nat) : hitL s c a ≤ 8 := firstL_le _
theorem hit_miss (s : ByteArray) (c a : Nat) (hc : c < 256) (j : Nat) (hj : j < hitL s c a) : bt s (a + j) ≠ c := by
  have h8 := hit_le s c a
  have h := (firstL_spec (equalL (ldL s a) (spreadL c))).2.1 j hj
  intro e
  have := (mark_iff s c a j hc (by omega)).2 e
  omega
theorem hit_found (s : ByteArray) (c a : Nat) (hc : c < 256) (h : hitL s c a < 8) : bt s (a + hitL s c a) = c :=
  (mark_iff s c a _ hc h).1 ((firstL_spec (equalL (ldL s a) (spreadL c))).2.2 h)
theorem idx_found (s : ByteArray) (c a : Nat) (hc : c < 256) (h8 : hitL s c a < 8) (hn : a + hitL s c a < s.size) : idxL s c a = ((a + hitL s c a : Nat) : Int) := by
  unfold idxL
  rw [fnd_skip _ (hitL s c a) a _ (by omega) (fun i hi => by simpa using hit_miss s c a hc i hi)]
  exact fnd_hit _ _ _ (by omega) (by simpa using hit_found s c a hc h8)
theorem idx_next (s : ByteArray) (c a : Nat) (hc : c < 256) (ha : a < s.size) (h : ¬ (hitL s c a < 8 ∧ a + hitL s c a < s.size)) : idxL s c a = idxL s c (a + 8) := by
  unfold idxL
  have miss : ∀ i, i < 8 → a + i < s.size → (bt s (a + i) == c) = false := by
    intro i hi hn
    by_cases hh : i < hitL s c a
    · simpa using hit_miss s c a hc i hh
    · exfalso
      exact h ⟨by omega, by omega⟩
  by_cases h8 : a + 8 ≤ s.size
  · rw [fnd_skip _ 8 a _ (by omega) (fun i hi => miss i hi (by omega))]
    congr 1
  · rw [fnd_none _ a _ (fun i hi => miss i (by omega) (by omega)), show s.size - (a + 8) = 0 by omega]
    rfl
theorem idx_out (s : ByteArray) (c a : Nat) (h : s.size ≤ a) : idxL s c a = -1 := by
  unfold idxL; rw [show s.size - a = 0 by omega]; rfl
theorem idx_step (s : ByteArray) (c a : Nat) (h : a < s.size) : idxL s c a = if bt s a = c then (a : Int) else idxL s c (a + 1) := by
  unfold idxL
  obtain ⟨m, hm⟩ : ∃ m, s.size - a = m + 1 := ⟨s.size - a - 1, by omega⟩
  rw [hm, show s.size - (a + 1) = m by omega]
  by_cases hb : bt s a = c <;> simp [fnd, hb]
theorem idx_bounds (s : ByteArray) (c f : Nat) : -1 ≤ idxL s c f ∧ idxL s c f < (s.size : Int) ∨ s.size ≤ f := by
  have := fnd_bounds (fun p => bt s p == c) (s.size - f) f
  unfold idxL
  omega
end Swar
