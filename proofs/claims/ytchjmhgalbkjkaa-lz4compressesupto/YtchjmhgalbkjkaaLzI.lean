/-
  A packed text that is laid out of pieces, cut: what is read of it. Conditions: as each says.
-/
import Derived.Test.YtchjmhgalbkjkaaLzH
namespace Lz
theorem head_cut (bs t : List Nat) (m b i said ahead most : Nat) (hb : bs.drop i = (16 * min m 15 + min b 15) :: (lenb m ++ t)) (hr : m + said ≤ most) :
    next bs i said ahead most = nextB bs i (min b 15) said ahead most (0, m, i + 1 + beh m) ∧ bs.drop (i + 1 + beh m) = t ∧ i + 1 + beh m + t.length = bs.length := by
  have hi : i < bs.length := drop_in bs _ i hb (by simp)
  have h0 : bs.getD i 0 = 16 * min m 15 + min b 15 := by
    have := getD_drop bs i 0
    rw [Nat.add_zero, hb] at this
    rw [this]
    rfl
  have h1 : bs.drop (i + 1) = lenb m ++ t := by
    rw [← List.drop_drop, hb]
    simp
  have h2 : bs.drop (i + 1 + beh m) = t := by
    have := drop_more bs _ _ _ h1
    rwa [lenb_length] at this
  refine ⟨?_, h2, ?_⟩
  · unfold next
    rw [if_neg (by omega), h0, tok_hi, tok_lo]
    have := counted_enc bs _ (i + 1) m 0 (most - said) h1 (by omega)
    simp only [Nat.add_zero] at this
    rw [this]
  · have := drop_len bs _ i hb (by omega)
    simp only [List.length_cons, List.length_append, lenb_length] at this
    omega
theorem early_cut (bs : List Nat) (m b i said ahead most j : Nat) (hj : j < beh m) (hb : bs.drop i = (16 * min m 15 + min b 15) :: (lenb m).take j) (hr : m + said ≤ most) :
    next bs i said ahead most = ⟨30, bs.length, 0, 0, 0, 0, 0⟩ := by
  have hi : i < bs.length := drop_in bs _ i hb (by simp)
  have h0 : bs.getD i 0 = 16 * min m 15 + min b 15 := by
    have := getD_drop bs i 0
    rw [Nat.add_zero, hb] at this
    rw [this]
    rfl
  have h1 : bs.drop (i + 1) = (lenb m).take j := by
    rw [← List.drop_drop, hb]
    simp
  unfold next
  rw [if_neg (by omega), h0, tok_hi, tok_lo]
  have := counted_cut bs (i + 1) m 0 (most - said) j hj h1 (by omega)
  simp only [Nat.add_zero] at this
  rw [this]
  unfold nextB
  simp
theorem take_two (o1 o2 : Nat) (t : List Nat) (k : Nat) (h : 2 ≤ k) : ([o1, o2] ++ t).take k = [o1, o2] ++ t.take (k - 2) := by
  obtain ⟨k, rfl⟩ : ∃ n, k = n + 2 := ⟨k - 2, by omega⟩
  simp
theorem next_cut (ts : List Nat) (x : Pc) (i said ahead most j : Nat) (hj : j < (enc1 x).length) (hi : i ≤ ts.length) (hb : ts.drop i = (enc1 x).take j) (h4 : 4 ≤ x.len) (h1 : 1 ≤ x.off) (h2 : x.off ≤ 65535) (h3 : x.off ≤ ahead + said + x.lit.length) (hr : said + x.lit.length + x.len ≤ most) :
    next ts i said ahead most = ⟨30, ts.length, 0, 0, 0, 0, 0⟩ ∨ (ts.drop i = (16 * min x.lit.length 15 + min (x.len - 4) 15) :: (lenb x.lit.length ++ x.lit) ∧ next ts i said ahead most = ⟨0, 0, i + 1 + beh x.lit.length, x.lit.length, 0, 0, ts.length⟩) := by
  have hlen := drop_len ts _ i hb hi
  rw [List.length_take, Nat.min_eq_left (by omega)] at hlen
  have hex : enc1 x = (16 * min x.lit.length 15 + min (x.len - 4) 15) :: (lenb x.lit.length ++ (x.lit ++ ([x.off % 256, x.off / 256] ++ lenb (x.len - 4)))) := by
    simp [enc1, lits]
  rw [enc1_length x h4] at hj
  unfold sz at hj
  rw [if_pos (by omega)] at hj
  rw [hex] at hb
  by_cases c0 : j = 0
  · left
    unfold next
    rw [if_pos (by omega)]
  obtain ⟨j, rfl⟩ : ∃ k, j = k + 1 := ⟨j - 1, by omega⟩
  rw [List.take_succ_cons, List.take_append, lenb_length] at hb
  by_cases c1 : j < beh x.lit.length
  · left
    rw [show j - beh x.lit.length = 0 by omega, List.take_zero, List.append_nil] at hb
    exact early_cut ts _ _ i said ahead most j c1 hb (by omega)
  rw [List.take_of_length_le (by rw [lenb_length]; omega)] at hb
  obtain ⟨e1, e2, e3⟩ := head_cut ts _ _ _ i said ahead most hb (by omega)
  rw [e1]
  unfold nextB
  simp only
  rw [if_neg (by omega), if_neg (by simp)]
  by_cases c2 : j < beh x.lit.length + x.lit.length
  · left
    rw [if_pos (by omega)]
  rw [if_neg (by omega)]
  by_cases c3 : j = beh x.lit.length + x.lit.length
  · right
    rw [if_pos (by omega), show j - beh x.lit.length = x.lit.length by omega, List.take_left] at *
    refine ⟨hb, ?_⟩
    simp only [Part.mk.injEq, true_and]
    omega
  rw [if_neg (by omega)]
  left
  by_cases c4 : j = beh x.lit.length + x.lit.length + 1
  · rw [if_pos (by omega)]
  rw [if_neg (by omega)]
  rw [List.take_append, List.take_of_length_le (by omega), take_two _ _ _ _ (by omega)] at e2
  have e4 := drop_more ts _ _ _ e2
  have e5 : ts.drop (i + 1 + beh x.lit.length + x.lit.length + 2) = (lenb (x.len - 4)).take (j - beh x.lit.length - x.lit.length - 2) := by
    rw [← List.drop_drop, e4]; simp
  have e6 : offAt ts (i + 1 + beh x.lit.length + x.lit.length) = x.off := by
    unfold offAt
    have a := getD_drop ts (i + 1 + beh x.lit.length + x.lit.length) 0
    have b := getD_drop ts (i + 1 + beh x.lit.length + x.lit.length) 1
    rw [e4] at a b
    rw [Nat.add_zero] at a
    rw [a, b]
    show x.off % 256 + 256 * (x.off / 256) = x.off
    omega
  rw [e6, if_neg (by omega)]
  have := counted_cut ts _ (x.len - 4) 4 (most - said - x.lit.length) _ (by omega) e5 (by omega)
  rw [this]
  unfold nextC
  simp
theorem last_cut (ts e : List Nat) (i said ahead most j : Nat) (hj : j < (lits e 0).length) (hi : i ≤ ts.length) (hb : ts.drop i = (lits e 0).take j) (hr : said + e.length ≤ most) :
    next ts i said ahead most = ⟨30, ts.length, 0, 0, 0, 0, 0⟩ := by
  have hlen := drop_len ts _ i hb hi
  rw [List.length_take, Nat.min_eq_left (by omega)] at hlen
  rw [lits_length] at hj
  unfold lits at hb
  by_cases c0 : j = 0
  · unfold next
    rw [if_pos (by omega)]
  obtain ⟨j, rfl⟩ : ∃ k, j = k + 1 := ⟨j - 1, by omega⟩
  rw [List.take_succ_cons, List.take_append, lenb_length] at hb
  by_cases c1 : j < beh e.length
  · rw [show j - beh e.length = 0 by omega, List.take_zero, List.append_nil] at hb
    exact early_cut ts _ _ i said ahead most j c1 hb (by omega)
  rw [List.take_of_length_le (by rw [lenb_length]; omega)] at hb
  obtain ⟨e1, e2, e3⟩ := head_cut ts _ _ _ i said ahead most hb (by omega)
  rw [e1]
  unfold nextB
  simp only
  rw [if_neg (by omega), if_neg (by simp), if_pos (by omega)]
/-- cut anywhere: too short, or an end that says what the text says so far -/
theorem walk_cut (ts e : List Nat) (ahead most : Nat) : ∀ (l : List Pc) (f i said j : Nat) (bef : List Nat), i ≤ ts.length → ts.drop i = (enc l ++ lits e 0).take j → okP (ahead + said) l → said + tot l + e.length ≤ most → l.length < f →
      (walk ts ahead most f i said).2 = (30, ts.length) ∨ ((walk ts ahead most f i said).2 = (0, 0) ∧ says ts bef (walk ts ahead most f i said).1 <+: sayP bef l ++ e ∧ (says ts bef (walk ts ahead most f i said).1).length = bef.length + total (walk ts ahead most f i said).1)
  | _, 0, _, _, _, _, _, _, _, _, hf => by omega
  | [], f + 1, i, said, j, bef, hi, hb, _, hr, _ => by
    simp only [tot, Nat.add_zero] at hr
    rw [enc, List.nil_append] at hb
    by_cases hj : j < (lits e 0).length
    · left
      rw [walk, last_cut ts e i said ahead most j hj hi hb hr, if_pos (by simp)]
    · rw [List.take_of_length_le (by omega)] at hb
      right
      rw [walk, next_last ts e i said ahead most hb hr, if_neg (by simp), if_pos rfl]
      obtain ⟨_, e2, _⟩ := head_enc ts e [] 0 i 0 0 e.length (by rw [hb]; simp) (by omega)
      have hs : says ts bef [seqOf i ⟨0, 0, i + 1 + beh e.length, e.length, 0, 0, ts.length⟩] = bef ++ e := by
        simp only [says_cons, say, seqOf, grow]
        rw [e2]
        simp [says]
      refine ⟨rfl, ?_, ?_⟩
      · rw [hs]; exact List.prefix_refl _
      · rw [hs]; simp [total, seqOf]
  | x :: l, f + 1, i, said, j, bef, hi, hb, ho, hr, hf => by
    obtain ⟨o1, o2, o3, o4, o5⟩ := ho
    simp only [tot] at hr
    simp only [List.length_cons] at hf
    rw [enc, List.append_assoc, List.take_append] at hb
    by_cases hj : j < (enc1 x).length
    · rw [show j - (enc1 x).length = 0 by omega, List.take_zero, List.append_nil] at hb
      rcases next_cut ts x i said ahead most j hj hi hb o1 o2 o3 o4 (by omega) with h | ⟨h1, h2⟩
      · left
        rw [walk, h, if_pos (by simp)]
      · right
        rw [walk, h2, if_neg (by simp), if_pos rfl]
        obtain ⟨_, e2, _⟩ := head_cut ts _ _ _ i 0 0 x.lit.length h1 (by omega)
        have hs : says ts bef [seqOf i ⟨0, 0, i + 1 + beh x.lit.length, x.lit.length, 0, 0, ts.length⟩] = bef ++ x.lit := by
          simp only [says_cons, say, seqOf, grow]
          rw [e2]
          simp [says]
        refine ⟨rfl, ?_, ?_⟩
        · rw [hs, sayP]
          obtain ⟨t1, g1, _⟩ := grow_pre x.off x.len (bef ++ x.lit)
          obtain ⟨t2, g2, _⟩ := sayP_pre l (grow x.off x.len (bef ++ x.lit))
          rw [g2, g1]
          exact ⟨t1 ++ (t2 ++ e), by simp⟩
        · rw [hs]; simp [total, seqOf]
    · rw [List.take_of_length_le (by omega)] at hb
      have hn := next_enc ts _ x i said ahead most hb o1 o2 o3 o4 (by omega)
      have hd := drop_more ts _ _ _ hb
      have hlen := drop_len ts _ i hb hi
      rw [List.length_append] at hlen
      have hin : (ts.drop (i + 1 + beh x.lit.length)).take x.lit.length = x.lit := by
        have hb3 : ts.drop i = lits x.lit (x.len - 4) ++ ([x.off % 256, x.off / 256] ++ (lenb (x.len - 4) ++ (enc l ++ lits e 0).take (j - (enc1 x).length))) := by
          rw [hb]; simp [enc1]
        obtain ⟨_, e2, _⟩ := head_enc ts _ _ _ i 0 0 x.lit.length hb3 (by omega)
        rw [e2, List.take_left]
      rw [enc1_length x o1] at hd hlen
      rw [walk, hn]
      simp only
      rw [if_neg (by simp), if_neg (by omega)]
      have IH := walk_cut ts e ahead most l f (i + sz x.lit.length x.len) (said + x.lit.length + x.len) (j - sz x.lit.length x.len) (grow x.off x.len (bef ++ x.lit)) (by omega) hd (by rw [show ahead + (said + x.lit.length + x.len) = ahead + said + x.lit.length + x.len by omega]; exact o5) (by omega) (by omega)
      rcases IH with h | ⟨h1, h2, h3⟩
      · exact .inl h
      · right
        refine ⟨h1, ?_, ?_⟩
        · rw [says_cons]
          simp only [say, seqOf]
          rw [hin]
          exact h2
        · rw [says_cons]
          simp only [say, seqOf]
          rw [hin, h3]
          obtain ⟨t1, g1, g2⟩ := grow_pre x.off x.len (bef ++ x.lit)
          rw [g1]
          simp only [List.length_append, total]
          omega
theorem nextC_place41 (bs : List Nat) (token frm many off : Nat) (m : Nat × Nat × Nat) (h : (nextC bs token frm many off m).code = 41) : (nextC bs token frm many off m).place = token := by
  unfold nextC at h ⊢
  by_cases h1 : m.1 = 41
  · rw [if_pos h1]
  · rw [if_neg h1] at h ⊢
    by_cases h2 : m.1 ≠ 0
    · rw [if_pos h2] at h
      cases h
    · rw [if_neg h2] at h
      cases h
theorem nextB_place41 (bs : List Nat) (token low said ahead most : Nat) (c : Nat × Nat × Nat) (h : (nextB bs token low said ahead most c).code = 41) : (nextB bs token low said ahead most c).place = token := by
  unfold nextB at h ⊢
  by_cases h1 : c.1 = 41
  · rw [if_pos h1]
  rw [if_neg h1] at h ⊢
  by_cases h2 : c.1 ≠ 0
  · rw [if_pos h2] at h
    cases h
  rw [if_neg h2] at h ⊢
  by_cases h3 : bs.length < c.2.2 + c.2.1
  · rw [if_pos h3] at h
    cases h
  rw [if_neg h3] at h ⊢
  by_cases h4 : c.2.2 + c.2.1 = bs.length
  · rw [if_pos h4] at h
    cases h
  rw [if_neg h4] at h ⊢
  by_cases h5 : c.2.2 + c.2.1 + 1 = bs.length
  · rw [if_pos h5] at h
    cases h
  rw [if_neg h5] at h ⊢
  by_cases h6 : offAt bs (c.2.2 + c.2.1) = 0 ∨ ahead + said + c.2.1 < offAt bs (c.2.2 + c.2.1)
  · rw [if_pos h6] at h
    cases h
  rw [if_neg h6] at h ⊢
  exact nextC_place41 _ _ _ _ _ _ h
theorem next_place41 (bs : List Nat) (i said ahead most : Nat) (h : (next bs i said ahead most).code = 41) : (next bs i said ahead most).place = i := by
  unfold next at h ⊢
  by_cases h1 : bs.length ≤ i
  · rw [if_pos h1] at h
    cases h
  rw [if_neg h1] at h ⊢
  exact nextB_place41 _ _ _ _ _ _ _ h
/-- too little room shows at a sequence's place -/
theorem walk_place (bs : List Nat) (ahead m1 m2 : Nat) (h : m1 ≤ m2) : ∀ (f i said : Nat), (walk bs ahead m1 f i said).2.1 = 41 → (walk bs ahead m2 f i said).2.1 = 0 → ∃ x ∈ (walk bs ahead m2 f i said).1, (walk bs ahead m1 f i said).2.2 = x.token
  | 0, i, said, h1, _ => by simp [walk] at h1
  | f + 1, i, said, h1, h2 => by
    by_cases hc : (next bs i said ahead m1).code = 41
    · have hp : (next bs i said ahead m1).place = i := next_place41 bs i said ahead m1 hc
      have h3 : (walk bs ahead m1 (f + 1) i said).2.2 = i := by
        rw [walk, if_pos (by rw [hc]; simp)]
        exact hp
      rw [h3]
      rw [walk] at h2 ⊢
      split at h2
      · rename_i h0
        exact absurd h2 h0
      · rename_i h0
        rw [if_neg h0]
        split
        · exact ⟨_, List.mem_singleton_self _, rfl⟩
        · exact ⟨_, List.mem_cons_self .., rfl⟩
    · have hn := next_more bs i said ahead m1 m2 h hc
      rw [walk] at h1 h2 ⊢
      rw [hn] at h2 ⊢
      split at h1
      · rename_i h0
        rw [if_pos h0] at h2
        exact absurd h2 h0
      · rename_i h0
        rw [if_neg h0] at h2 ⊢
        split at h1
        · cases h1
        · rename_i h9
          rw [if_neg h9] at h2 ⊢
          obtain ⟨x, hx, he⟩ := walk_place bs ahead m1 m2 h f _ _ h1 h2
          refine ⟨x, List.mem_cons_of_mem _ hx, ?_⟩
          rw [walk, if_neg h0, if_neg h9]
          exact he
end Lz
