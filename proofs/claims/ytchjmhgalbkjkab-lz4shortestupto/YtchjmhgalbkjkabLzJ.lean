/-
  A packed text that is laid out of pieces, cut: what is read of it, by as many steps as it has bytes. Conditions: as it says.
-/
import Derived.Test.YtchjmhgalbkjkabLzI
namespace Lz
/-- cut anywhere: too short, or an end that says what the text says so far -/
theorem walk_cut2 (ts e : List Nat) (ahead most : Nat) : ∀ (l : List Pc) (f i said j : Nat) (bef : List Nat), i ≤ ts.length → ts.drop i = (enc l ++ lits e 0).take j → okP (ahead + said) l → said + tot l + e.length ≤ most → ts.length - i < f →
      (walk ts ahead most f i said).2 = (30, ts.length) ∨ ((walk ts ahead most f i said).2 = (0, 0) ∧ says ts bef (walk ts ahead most f i said).1 <+: sayP bef l ++ e ∧ (says ts bef (walk ts ahead most f i said).1).length = bef.length + total (walk ts ahead most f i said).1)
  | _, 0, _, _, _, _, _, _, _, _, hf => by omega
  | [], f + 1, i, said, j, bef, hi, hb, _, hr, _ => by
    simp only [tot, Nat.add_zero] at hr
    rw [enc, List.nil_append] at hb
    by_cases hj : j < (lits e 0).length
    · left
      rw [walk, last_cut ts e i said ahead most j hj hi hb hr, if_pos (by simp)]
    · rw [List.take_of_length_le (by omega)] at hb
      right
      rw [walk, next_last ts e i said ahead most hb hr, if_neg (by simp), if_pos rfl]
      obtain ⟨_, e2, _⟩ := head_enc ts e [] 0 i 0 0 e.length (by rw [hb]; simp) (by omega)
      have hs : says ts bef [seqOf i ⟨0, 0, i + 1 + beh e.length, e.length, 0, 0, ts.length⟩] = bef ++ e := by
        simp only [says_cons, say, seqOf, grow]
        rw [e2]
        simp [says]
      refine ⟨rfl, ?_, ?_⟩
      · rw [hs]; exact List.prefix_refl _
      · rw [hs]; simp [total, seqOf]
  | x :: l, f + 1, i, said, j, bef, hi, hb, ho, hr, hf => by
    obtain ⟨o1, o2, o3, o4, o5⟩ := ho
    simp only [tot] at hr
    rw [enc, List.append_assoc, List.take_append] at hb
    by_cases hj : j < (enc1 x).length
    · rw [show j - (enc1 x).length = 0 by omega, List.take_zero, List.append_nil] at hb
      rcases next_cut ts x i said ahead most j hj hi hb o1 o2 o3 o4 (by omega) with h | ⟨h1, h2⟩
      · left
        rw [walk, h, if_pos (by simp)]
      · right
        rw [walk, h2, if_neg (by simp), if_pos rfl]
        obtain ⟨_, e2, _⟩ := head_cut ts _ _ _ i 0 0 x.lit.length h1 (by omega)
        have hs : says ts bef [seqOf i ⟨0, 0, i + 1 + beh x.lit.length, x.lit.length, 0, 0, ts.length⟩] = bef ++ x.lit := by
          simp only [says_cons, say, seqOf, grow]
          rw [e2]
          simp [says]
        refine ⟨rfl, ?_, ?_⟩
        · rw [hs, sayP]
          obtain ⟨t1, g1, _⟩ := grow_pre x.off x.len (bef ++ x.lit)
          obtain ⟨t2, g2, _⟩ := sayP_pre l (grow x.off x.len (bef ++ x.lit))
          rw [g2, g1]
          exact ⟨t1 ++ (t2 ++ e), by simp⟩
        · rw [hs]; simp [total, seqOf]
    · rw [List.take_of_length_le (by omega)] at hb
      have hn := next_enc ts _ x i said ahead most hb o1 o2 o3 o4 (by omega)
      have hd := drop_more ts _ _ _ hb
      have hlen := drop_len ts _ i hb hi
      rw [List.length_append] at hlen
      have hin : (ts.drop (i + 1 + beh x.lit.length)).take x.lit.length = x.lit := by
        have hb3 : ts.drop i = lits x.lit (x.len - 4) ++ ([x.off % 256, x.off / 256] ++ (lenb (x.len - 4) ++ (enc l ++ lits e 0).take (j - (enc1 x).length))) := by
          rw [hb]; simp [enc1]
        obtain ⟨_, e2, _⟩ := head_enc ts _ _ _ i 0 0 x.lit.length hb3 (by omega)
        rw [e2, List.take_left]
      rw [enc1_length x o1] at hd hlen
      rw [walk, hn]
      simp only
      rw [if_neg (by simp), if_neg (by omega)]
      have hsz1 : 1 ≤ sz x.lit.length x.len := by unfold sz; omega
      have IH := walk_cut2 ts e ahead most l f (i + sz x.lit.length x.len) (said + x.lit.length + x.len) (j - sz x.lit.length x.len) (grow x.off x.len (bef ++ x.lit)) (by omega) hd (by rw [show ahead + (said + x.lit.length + x.len) = ahead + said + x.lit.length + x.len by omega]; exact o5) (by omega) (by omega)
      rcases IH with h | ⟨h1, h2, h3⟩
      · exact .inl h
      · right
        refine ⟨h1, ?_, ?_⟩
        · rw [says_cons]
          simp only [say, seqOf]
          rw [hin]
          exact h2
        · rw [says_cons]
          simp only [say, seqOf]
          rw [hin, h3]
          obtain ⟨t1, g1, g2⟩ := grow_pre x.off x.len (bef ++ x.lit)
          rw [g1]
          simp only [List.length_append, total]
          omega
end Lz
