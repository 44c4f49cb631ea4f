/-
  The sequences that the walk over numbers hands out: what holds of each. No conditions but those that each fact names.
-/
import Derived.Test.YtchjmhgalbkjkaaLzB
set_option linter.unusedVariables false
namespace Lz
theorem lens_ok : ∀ (l : List Nat) (n i room m j : Nat), (∀ z ∈ l, z < 256) → lens l n i room = (0, m, j) → n ≤ m ∧ m ≤ room ∧ i < j ∧ j ≤ i + l.length ∧ m ≤ n + 255 * (j - i)
  | [], n, i, room, m, j, _, h => by simp [lens] at h
  | c :: l, n, i, room, m, j, hb, h => by
    have hc := hb c (by simp)
    unfold lens at h
    split at h
    · simp at h
    · split at h
      · have := lens_ok l _ _ _ _ _ (fun z hz => hb z (by simp [hz])) h
        simp only [List.length_cons]
        omega
      · simp at h
        simp only [List.length_cons]
        omega
theorem counted_ok (bs : List Nat) (hb : ∀ z ∈ bs, z < 256) (i n : Nat) (more : Bool) (room m j : Nat) (hi : i ≤ bs.length) (h : counted bs i n more room = (0, m, j)) : n ≤ m ∧ m ≤ room ∧ i ≤ j ∧ j ≤ bs.length ∧ m ≤ n + 255 * (j - i) := by
  unfold counted at h
  split at h
  · simp at h
  · split at h
    · have := lens_ok _ _ _ _ _ _ (fun z hz => hb z (List.mem_of_mem_drop hz)) h
      simp at this
      omega
    · simp at h
      omega
theorem getD_byte (bs : List Nat) (hb : ∀ z ∈ bs, z < 256) (i : Nat) : bs.getD i 0 < 256 := by
  rw [List.getD_eq_getElem?_getD]
  cases h : bs[i]? with
  | none => simp
  | some b => exact hb b (List.mem_of_getElem? h)
/-- a sequence that may be -/
def Fine (bs : List Nat) (ahead said most : Nat) (x : Sq) : Prop :=
  (x.len = 0 ∧ x.off = 0 ∨ 0 < x.len ∧ 0 < x.off ∧ x.off ≤ ahead + (said + x.many)) ∧ x.off ≤ 65535 ∧ x.frm + x.many ≤ bs.length ∧ said + x.many + x.len ≤ most ∧ said + x.many + x.len ≤ 256 * bs.length
theorem next_ok (bs : List Nat) (hb : ∀ z ∈ bs, z < 256) (i said ahead most : Nat) (hs : said ≤ most) (h256 : said ≤ 256 * i) (hi : i ≤ bs.length) (hc : (next bs i said ahead most).code = 0) :
    Fine bs ahead said most (seqOf i (next bs i said ahead most)) ∧ (0 < (next bs i said ahead most).len → i < (next bs i said ahead most).nxt ∧ (next bs i said ahead most).nxt ≤ bs.length ∧ said + (next bs i said ahead most).many + (next bs i said ahead most).len ≤ 256 * (next bs i said ahead most).nxt) := by
  unfold next at hc ⊢
  split
  · rename_i h
    rw [if_pos h] at hc
    simp at hc
  · rename_i h
    rw [if_neg h] at hc
    have hB := getD_byte bs hb i
    generalize hcc : counted bs (i + 1) (bs.getD i 0 / 16) (bs.getD i 0 / 16 == 15) (most - said) = c at hc ⊢
    obtain ⟨e, n, j⟩ := c
    unfold nextB at hc ⊢
    by_cases h41 : e = 41
    · rw [if_pos h41] at hc
      simp at hc
    rw [if_neg h41] at hc ⊢
    by_cases h0 : e ≠ 0
    · rw [if_pos h0] at hc
      simp at hc
    rw [if_neg h0] at hc ⊢
    have he : e = 0 := by omega
    subst he
    obtain ⟨o1, o2, o3, o4, o5⟩ := counted_ok bs hb _ _ _ _ _ _ (by omega) hcc
    by_cases h1 : bs.length < j + n
    · rw [if_pos h1] at hc
      simp at hc
    rw [if_neg h1] at hc ⊢
    by_cases h2 : j + n = bs.length
    · rw [if_pos h2]
      refine ⟨⟨.inl ⟨rfl, rfl⟩, Nat.zero_le _, ?_, ?_, ?_⟩, fun h => absurd h (by simp)⟩ <;> simp only [seqOf] <;> omega
    rw [if_neg h2] at hc ⊢
    by_cases h3 : j + n + 1 = bs.length
    · rw [if_pos h3] at hc
      simp at hc
    rw [if_neg h3] at hc ⊢
    have hO : offAt bs (j + n) ≤ 65535 := by
      have h1 := getD_byte bs hb (j + n)
      have h2 := getD_byte bs hb (j + n + 1)
      unfold offAt
      omega
    by_cases h4 : offAt bs (j + n) = 0 ∨ ahead + said + n < offAt bs (j + n)
    · rw [if_pos h4] at hc
      simp at hc
    rw [if_neg h4] at hc ⊢
    generalize hdd : counted bs (j + n + 2) (bs.getD i 0 % 16 + 4) (bs.getD i 0 % 16 == 15) (most - said - n) = d at hc ⊢
    obtain ⟨e2, m, q⟩ := d
    unfold nextC at hc ⊢
    by_cases k41 : e2 = 41
    · rw [if_pos k41] at hc
      simp at hc
    rw [if_neg k41] at hc ⊢
    by_cases k0 : e2 ≠ 0
    · rw [if_pos k0] at hc
      simp at hc
    rw [if_neg k0]
    have he : e2 = 0 := by omega
    subst he
    obtain ⟨p1, p2, p3, p4, p5⟩ := counted_ok bs hb _ _ _ _ _ _ (by omega) hdd
    simp only [Fine, seqOf]
    omega
theorem nextC_place (bs : List Nat) (token frm many off : Nat) (m : Nat × Nat × Nat) (h : (nextC bs token frm many off m).code = 0) : (nextC bs token frm many off m).place = 0 := by
  unfold nextC at h ⊢
  split
  · rename_i h1
    rw [if_pos h1] at h
    simp at h
  · rename_i h1
    rw [if_neg h1] at h
    split
    · rename_i h2
      rw [if_pos h2] at h
      simp at h
    · rfl
theorem nextB_place (bs : List Nat) (token low said ahead most : Nat) (c : Nat × Nat × Nat) (h : (nextB bs token low said ahead most c).code = 0) : (nextB bs token low said ahead most c).place = 0 := by
  unfold nextB at h ⊢
  by_cases h1 : c.1 = 41
  · rw [if_pos h1] at h
    simp at h
  rw [if_neg h1] at h ⊢
  by_cases h2 : c.1 ≠ 0
  · rw [if_pos h2] at h
    simp at h
  rw [if_neg h2] at h ⊢
  by_cases h3 : bs.length < c.2.2 + c.2.1
  · rw [if_pos h3] at h
    simp at h
  rw [if_neg h3] at h ⊢
  by_cases h4 : c.2.2 + c.2.1 = bs.length
  · rw [if_pos h4]
  rw [if_neg h4] at h ⊢
  by_cases h5 : c.2.2 + c.2.1 + 1 = bs.length
  · rw [if_pos h5] at h
    simp at h
  rw [if_neg h5] at h ⊢
  by_cases h6 : offAt bs (c.2.2 + c.2.1) = 0 ∨ ahead + said + c.2.1 < offAt bs (c.2.2 + c.2.1)
  · rw [if_pos h6] at h
    simp at h
  rw [if_neg h6] at h ⊢
  exact nextC_place _ _ _ _ _ _ h
theorem next_place (bs : List Nat) (i said ahead most : Nat) (h : (next bs i said ahead most).code = 0) : (next bs i said ahead most).place = 0 := by
  unfold next at h ⊢
  split
  · rename_i h1
    rw [if_pos h1] at h
    simp at h
  · rename_i h1
    rw [if_neg h1] at h
    exact nextB_place _ _ _ _ _ _ _ h
/-- how many bytes sequences say -/
def total : List Sq → Nat
  | [] => 0
  | x :: l => x.many + x.len + total l
theorem total_append : ∀ (a b : List Sq), total (a ++ b) = total a + total b
  | [], b => by simp [total]
  | x :: a, b => by rw [List.cons_append, total, total, total_append a b]; omega
theorem walk_ok (bs : List Nat) (hb : ∀ z ∈ bs, z < 256) (ahead most : Nat) : ∀ (f i said : Nat), said ≤ most → said ≤ 256 * i → i ≤ bs.length → ∀ (pre : List Sq) (x : Sq) (post : List Sq), (walk bs ahead most f i said).1 = pre ++ x :: post → Fine bs ahead (said + total pre) most x
  | 0, i, said, _, _, _, pre, x, post, h => by simp [walk] at h
  | f + 1, i, said, hs, h256, hi, pre, x, post, h => by
    rw [walk] at h
    split at h
    · simp at h
    · rename_i hc
      have hc' : (next bs i said ahead most).code = 0 := by omega
      obtain ⟨hF, hN⟩ := next_ok bs hb i said ahead most hs h256 hi hc'
      split at h
      · cases pre with
        | nil =>
          simp only [List.nil_append, List.cons.injEq] at h
          rw [← h.1]
          simpa [total] using hF
        | cons y pre =>
          simp only [List.cons_append, List.cons.injEq] at h
          have := h.2
          simp at this
      · rename_i hl
        have hl' : 0 < (next bs i said ahead most).len := by omega
        obtain ⟨n1, n2, n3⟩ := hN hl'
        cases pre with
        | nil =>
          simp only [List.nil_append, List.cons.injEq] at h
          rw [← h.1]
          simpa [total] using hF
        | cons y pre =>
          simp only [List.cons_append, List.cons.injEq] at h
          have hm : said + (next bs i said ahead most).many + (next bs i said ahead most).len ≤ most := by
            have := hF.2.2.2.1
            simpa [seqOf] using this
          have := walk_ok bs hb ahead most f _ _ hm n3 n2 pre x post h.2
          rw [show said + total (y :: pre) = said + (next bs i said ahead most).many + (next bs i said ahead most).len + total pre by rw [← h.1, total]; simp [seqOf]; omega]
          exact this
theorem walk_pre (bs : List Nat) (hb : ∀ z ∈ bs, z < 256) (ahead most f : Nat) (pre : List Sq) (x : Sq) (h : pre ++ [x] <+: (walk bs ahead most f 0 0).1) : Fine bs ahead (total pre) most x := by
  obtain ⟨t, ht⟩ := h
  have := walk_ok bs hb ahead most f 0 0 (Nat.zero_le _) (Nat.zero_le _) (Nat.zero_le _) pre x t (by rw [← ht]; simp)
  simpa using this
theorem grow_pre (off : Nat) : ∀ (k : Nat) (l : List Nat), ∃ t, grow off k l = l ++ t ∧ t.length = k
  | 0, l => ⟨[], by simp [grow], rfl⟩
  | k + 1, l => by
    obtain ⟨t, h1, h2⟩ := grow_pre off k (l ++ [l.getD (l.length - off) 0])
    exact ⟨l.getD (l.length - off) 0 :: t, by rw [grow, h1, List.append_assoc]; rfl, by simp [h2]⟩
theorem grow_byte (off : Nat) : ∀ (k : Nat) (l : List Nat), (∀ z ∈ l, z < 256) → ∀ z ∈ grow off k l, z < 256
  | 0, l, h => h
  | k + 1, l, h => by
    rw [grow]
    refine grow_byte off k _ ?_
    intro z hz
    rcases List.mem_append.1 hz with hz | hz
    · exact h z hz
    · obtain rfl : z = _ := by simpa using hz
      exact getD_byte l h _
theorem say_byte (bs out : List Nat) (x : Sq) (hb : ∀ z ∈ bs, z < 256) (ho : ∀ z ∈ out, z < 256) : ∀ z ∈ say bs out x, z < 256 := by
  refine grow_byte _ _ _ ?_
  intro z hz
  rcases List.mem_append.1 hz with hz | hz
  · exact ho z hz
  · exact hb z (List.mem_of_mem_drop (List.mem_of_mem_take hz))
theorem says_byte (bs : List Nat) (hb : ∀ z ∈ bs, z < 256) : ∀ (l : List Sq) (bef : List Nat), (∀ z ∈ bef, z < 256) → ∀ z ∈ says bs bef l, z < 256
  | [], _, h => h
  | x :: l, bef, h => says_byte bs hb l _ (say_byte bs bef x hb h)
theorem say_pre (bs out : List Nat) (x : Sq) (h : x.frm + x.many ≤ bs.length) : ∃ t, say bs out x = out ++ t ∧ t.length = x.many + x.len := by
  obtain ⟨t, h1, h2⟩ := grow_pre x.off x.len (out ++ (bs.drop x.frm).take x.many)
  refine ⟨(bs.drop x.frm).take x.many ++ t, by rw [say, h1, List.append_assoc], ?_⟩
  rw [List.length_append, List.length_take, List.length_drop, h2]
  omega
/-- so far as the walk has come, the text ahead stands there, and as many bytes behind it as were told -/
theorem says_pre (bs : List Nat) (hb : ∀ z ∈ bs, z < 256) (ahead most f : Nat) (bef : List Nat) : ∀ (n : Nat) (pre : List Sq), pre.length = n → pre <+: (walk bs ahead most f 0 0).1 → ∃ t, says bs bef pre = bef ++ t ∧ t.length = total pre
  | 0, pre, hn, _ => by
    obtain rfl : pre = [] := List.length_eq_zero_iff.1 hn
    exact ⟨[], by simp [says], rfl⟩
  | n + 1, pre, hn, h => by
    rcases List.eq_nil_or_concat pre with rfl | ⟨p, x, rfl⟩
    · simp at hn
    · rw [List.concat_eq_append] at hn h ⊢
      have hp : p <+: (walk bs ahead most f 0 0).1 := (List.prefix_append p [x]).trans h
      obtain ⟨t, h1, h2⟩ := says_pre bs hb ahead most f bef n p (by simp at hn; omega) hp
      have hF := walk_pre bs hb ahead most f p x h
      obtain ⟨u, h3, h4⟩ := say_pre bs (says bs bef p) x hF.2.2.1
      refine ⟨t ++ u, by rw [says_snoc, h3, h1, List.append_assoc], ?_⟩
      rw [List.length_append, h2, h4, total_append]
      simp [total]
end Lz
