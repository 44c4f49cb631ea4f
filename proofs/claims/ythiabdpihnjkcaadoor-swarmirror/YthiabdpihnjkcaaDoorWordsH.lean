/-
  Plain facts on the last mark and on where a byte stands last. No Go in sight.
-/
import Derived.Test.YthiabdpihnjkcaaDoorWordsE
namespace Swar
/-- how many bits a number has -/
def blen (n : Nat) : Nat := if n = 0 then 0 else n.log2 + 1
theorem blen_of (n k : Nat) (h1 : 2 ^ k ≤ n) (h2 : n < 2 ^ (k + 1)) : blen n = k + 1 := by
  have h0 : n ≠ 0 := by have := Nat.two_pow_pos k; omega
  unfold blen
  rw [if_neg h0, (Nat.log2_eq_iff h0).2 ⟨h1, h2⟩]
/-- one behind the last mark; 0: none -/
def lastL : List Nat → Nat
  | [] => 0
  | b :: l => if lastL l ≠ 0 then lastL l + 1 else if 128 ≤ b then 1 else 0
theorem lastL_le : ∀ l : List Nat, lastL l ≤ l.length
  | [] => Nat.le_refl _
  | b :: l => by
      have := lastL_le l
      simp only [lastL, List.length_cons]
      split
      · omega
      · split <;> omega
theorem marks_last : ∀ l : List Nat, Byt l → (lastL l = 0 → jn (l.map fun b => b &&& 128) = 0) ∧ (lastL l ≠ 0 → 2 ^ (8 * lastL l - 1) ≤ jn (l.map fun b => b &&& 128) ∧ jn (l.map fun b => b &&& 128) < 2 ^ (8 * lastL l))
  | [], _ => ⟨fun _ => rfl, fun h => by simp [lastL] at h⟩
  | b :: l, h => by
      have hb := h b (List.mem_cons_self ..)
      have ih := marks_last l (fun x hx => h x (List.mem_cons_of_mem _ hx))
      have hm := and_128 b hb
      simp only [List.map_cons, jn]
      by_cases h0 : lastL l = 0
      · have e := ih.1 h0
        rw [e]
        by_cases hbm : 128 ≤ b
        · rw [if_pos hbm] at hm
          have e2 : lastL (b :: l) = 1 := by simp [lastL, h0, hbm]
          rw [e2, hm]
          exact ⟨fun h => by omega, fun _ => by decide⟩
        · rw [if_neg hbm] at hm
          have e2 : lastL (b :: l) = 0 := by simp [lastL, h0, hbm]
          rw [e2, hm]
          exact ⟨fun _ => rfl, fun h => by omega⟩
      · have ⟨i1, i2⟩ := ih.2 h0
        have e2 : lastL (b :: l) = lastL l + 1 := by simp [lastL, h0]
        rw [e2]
        refine ⟨fun h => by omega, fun _ => ?_⟩
        generalize jn (l.map fun b => b &&& 128) = x at *
        have p1 : 2 ^ (8 * (lastL l + 1) - 1) = 2 ^ (8 * lastL l - 1) * 256 := by
          rw [show 8 * (lastL l + 1) - 1 = (8 * lastL l - 1) + 8 by omega, Nat.pow_add]
        have p2 : 2 ^ (8 * (lastL l + 1)) = 2 ^ (8 * lastL l) * 256 := by
          rw [show 8 * (lastL l + 1) = 8 * lastL l + 8 by omega, Nat.pow_add]
        have hlt : b &&& 128 < 256 := Nat.lt_of_le_of_lt Nat.and_le_left hb
        rw [p1, p2]
        omega
theorem last_eq (m : Nat) (hm : m < 18446744073709551616) : blen (m &&& 9259542123273814144) / 8 = lastL (cut 8 m) := by
  rw [marks_eq m hm]
  have h := marks_last (cut 8 m) (cut_byt 8 m)
  by_cases h0 : lastL (cut 8 m) = 0
  · rw [h.1 h0, h0]; rfl
  · have ⟨h1, h2⟩ := h.2 h0
    have e : 8 * lastL (cut 8 m) - 1 + 1 = 8 * lastL (cut 8 m) := by omega
    rw [blen_of _ (8 * lastL (cut 8 m) - 1) h1 (by rw [e]; exact h2), e]
    omega
theorem last_spec : ∀ l : List Nat, (∀ j x, lastL l ≤ j → l[j]? = some x → x < 128) ∧ (lastL l ≠ 0 → ∃ x, l[lastL l - 1]? = some x ∧ 128 ≤ x)
  | [] => ⟨fun j x _ h => by simp at h, fun h => by simp [lastL] at h⟩
  | b :: l => by
      have ih := last_spec l
      by_cases h0 : lastL l = 0
      · by_cases hb : 128 ≤ b
        · have e : lastL (b :: l) = 1 := by simp [lastL, h0, hb]
          rw [e]
          refine ⟨fun j x hj hx => ?_, fun _ => ⟨b, rfl, hb⟩⟩
          obtain ⟨i, rfl⟩ : ∃ i, j = i + 1 := ⟨j - 1, by omega⟩
          exact ih.1 i x (by omega) (by simpa using hx)
        · have e : lastL (b :: l) = 0 := by simp [lastL, h0, hb]
          rw [e]
          refine ⟨fun j x hj hx => ?_, fun h => by omega⟩
          cases j with
          | zero => simp at hx; omega
          | succ i => exact ih.1 i x (by omega) (by simpa using hx)
      · have e : lastL (b :: l) = lastL l + 1 := by simp [lastL, h0]
        rw [e]
        refine ⟨fun j x hj hx => ?_, fun _ => ?_⟩
        · obtain ⟨i, rfl⟩ : ∃ i, j = i + 1 := ⟨j - 1, by omega⟩
          exact ih.1 i x (by omega) (by simpa using hx)
        · obtain ⟨x, h1, h2⟩ := ih.2 h0
          refine ⟨x, ?_, h2⟩
          rw [show lastL l + 1 - 1 = (lastL l - 1) + 1 by omega]
          simpa using h1
/-- the last of the places below n of which it is so; -1: none -/
def bck (P : Nat → Bool) : Nat → Int
  | 0 => -1
  | n + 1 => if P n then (n : Int) else bck P n
theorem bck_skip (P : Nat → Bool) : ∀ (j n : Nat), (∀ i, n ≤ i → i < n + j → P i = false) → bck P (n + j) = bck P n
  | 0, n, _ => rfl
  | j + 1, n, h => by
      have h0 := h (n + j) (by omega) (by omega)
      rw [show n + (j + 1) = (n + j) + 1 by omega]
      simp only [bck, h0]
      exact bck_skip P j n (fun i h1 h2 => h i h1 (by omega))
theorem bck_hit (P : Nat → Bool) (n : Nat) (h : P n = true) : bck P (n + 1) = n := by simp [bck, h]
def lstL (s : ByteArray) (c n : Nat) : Int := bck (fun p => bt s p == c) n
/-- what the word that ends at a place tells -/
def fhit (s : ByteArray) (c e : Nat) : Nat := lastL (cut 8 (equalL (ldL s ((e : Int) - 8)) (spreadL c)))
theorem fmark_iff (s : ByteArray) (c e j : Nat) (hc : c < 256) (hj : j < 8) : 128 ≤ byt (equalL (ldL s ((e : Int) - 8)) (spreadL c)) j ↔ cell s ((e : Int) - 8 + j) = c := by
  rw [byt_equal _ _ _ hj, byt_ldL s _ j hj, byt_spread c j hc hj]
  by_cases h : cell s ((e : Int) - 8 + j) = c <;> simp [h]
theorem fhit_le (s : ByteArray) (c e : Nat) : fhit s c e ≤ 8 := by
  have := lastL_le (cut 8 (equalL (ldL s ((e : Int) - 8)) (spreadL c)))
  rw [cut_length] at this
  exact this
theorem fhit_miss (s : ByteArray) (c e j : Nat) (hc : c < 256) (hj : j < 8) (h : fhit s c e ≤ j) : cell s ((e : Int) - 8 + j) ≠ c := by
  intro hh
  have h1 := (fmark_iff s c e j hc hj).2 hh
  have h2 := (last_spec (cut 8 (equalL (ldL s ((e : Int) - 8)) (spreadL c)))).1 j _ h (cut_get 8 _ j hj)
  omega
theorem fhit_found (s : ByteArray) (c e : Nat) (hc : c < 256) (h : fhit s c e ≠ 0) : cell s ((e : Int) - 8 + ((fhit s c e - 1 : Nat) : Int)) = c := by
  have h8 := fhit_le s c e
  obtain ⟨x, h1, h2⟩ := (last_spec (cut 8 (equalL (ldL s ((e : Int) - 8)) (spreadL c)))).2 h
  have h3 := cut_get 8 (equalL (ldL s ((e : Int) - 8)) (spreadL c)) (fhit s c e - 1) (by omega)
  have h4 : x = byt (equalL (ldL s ((e : Int) - 8)) (spreadL c)) (fhit s c e - 1) := by
    unfold fhit at h3 ⊢
    rw [h1] at h3
    exact Option.some.inj h3
  exact (fmark_iff s c e _ hc (by omega)).1 (by omega)
/-- found: byte fhit - 1 of that word, if it is a place of the text -/
theorem lst_found (s : ByteArray) (c e : Nat) (hc : c < 256) (h : fhit s c e ≠ 0) (h2 : 8 ≤ e + (fhit s c e - 1)) : lstL s c e = ((e + (fhit s c e - 1) - 8 : Nat) : Int) := by
  have h8 := fhit_le s c e
  have hf := fhit_found s c e hc h
  unfold lstL
  have e1 : e = (e + (fhit s c e - 1) - 8 + 1) + (8 - fhit s c e) := by omega
  have hm : ∀ i, e + (fhit s c e - 1) - 8 + 1 ≤ i → i < e + (fhit s c e - 1) - 8 + 1 + (8 - fhit s c e) → (bt s i == c) = false := by
    intro i h1 h3
    have := fhit_miss s c e (i + 8 - e) hc (by omega) (by omega)
    rw [show ((e : Int) - 8 + ((i + 8 - e : Nat) : Int)) = ((i : Nat) : Int) by omega, cell_nat] at this
    simpa using this
  have s1 := bck_skip (fun p => bt s p == c) (8 - fhit s c e) (e + (fhit s c e - 1) - 8 + 1) hm
  rw [← e1] at s1
  rw [s1]
  refine bck_hit _ _ ?_
  rw [show ((e : Int) - 8 + ((fhit s c e - 1 : Nat) : Int)) = ((e + (fhit s c e - 1) - 8 : Nat) : Int) by omega, cell_nat] at hf
  simpa using hf
theorem lst_next (s : ByteArray) (c e : Nat) (hc : c < 256) (h : ¬ (fhit s c e ≠ 0 ∧ 8 ≤ e + (fhit s c e - 1))) : lstL s c e = lstL s c (e - 8) := by
  unfold lstL
  have hm : ∀ i, e - 8 ≤ i → i < e - 8 + (e - (e - 8)) → (bt s i == c) = false := by
    intro i h1 h3
    by_cases hh : fhit s c e ≤ i + 8 - e
    · have := fhit_miss s c e (i + 8 - e) hc (by omega) hh
      rw [show ((e : Int) - 8 + ((i + 8 - e : Nat) : Int)) = ((i : Nat) : Int) by omega, cell_nat] at this
      simpa using this
    · exfalso
      exact h ⟨by omega, by omega⟩
  have s1 := bck_skip (fun p => bt s p == c) (e - (e - 8)) (e - 8) hm
  rw [show e - 8 + (e - (e - 8)) = e by omega] at s1
  exact s1
theorem lst_0 (s : ByteArray) (c : Nat) : lstL s c 0 = -1 := rfl
theorem lst_step (s : ByteArray) (c n : Nat) : lstL s c (n + 1) = if bt s n = c then (n : Int) else lstL s c n := by
  unfold lstL
  by_cases h : bt s n = c <;> simp [bck, h]
end Swar
