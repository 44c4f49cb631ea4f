/-
  The parts of a packing by true copies, one by one. Conditions: as each says.
-/
import Derived.Test.YtchjmhgalbkjkabCopB
namespace Go.Proofs.Ytchjmhgalbkjkab
open Go.RowKit Go.Shelf
set_option linter.unusedVariables false
theorem pcs_at (bs : List Nat) : ∀ (l : List Lz.Cp) (i j : Nat) (c : Lz.Cp), l[j]? = some c → Lz.tru bs i l → (Lz.pcs bs i l)[j]? = some ⟨(bs.take c.at_).drop (Lz.restOf i (l.take j)), c.off, c.cnt⟩ ∧ Lz.restOf i (l.take j) ≤ c.at_ ∧ Lz.Tru bs c ∧ Lz.restOf i (l.take (j + 1)) = c.at_ + c.cnt
  | [], i, j, c, h, _ => by simp at h
  | a :: l, i, 0, c, h, ht => by
    simp only [List.getElem?_cons_zero, Option.some.injEq] at h
    subst h
    obtain ⟨h1, h2, h3⟩ := ht
    simp only [Lz.pcs, List.getElem?_cons_zero, List.take_zero, Lz.restOf, List.take_succ_cons]
    exact ⟨trivial, h1, h2, trivial⟩
  | a :: l, i, j + 1, c, h, ht => by
    simp only [List.getElem?_cons_succ] at h
    obtain ⟨h1, h2, h3⟩ := ht
    have := pcs_at bs l (a.at_ + a.cnt) j c h h3
    simp only [Lz.pcs, List.getElem?_cons_succ, List.take_succ_cons, Lz.restOf]
    exact this
theorem ptsP_at : ∀ (l : List Lz.Pc) (i j : Nat) (y : Lz.Pc), l[j]? = some y → ∃ tok, (ptsP i l)[j]? = some (tok, nums y.lit, y.off, y.len)
  | [], i, j, y, h => by simp at h
  | a :: l, i, 0, y, h => by
    simp only [List.getElem?_cons_zero, Option.some.injEq] at h
    subst h
    exact ⟨i, by simp [ptsP]⟩
  | a :: l, i, j + 1, y, h => by
    simp only [List.getElem?_cons_succ] at h
    obtain ⟨tok, h1⟩ := ptsP_at l (i + (Lz.enc1 a).length) j y h
    exact ⟨tok, by simpa [ptsP] using h1⟩
theorem pcs_length (bs : List Nat) : ∀ (l : List Lz.Cp) (i : Nat), (Lz.pcs bs i l).length = l.length
  | [], i => rfl
  | a :: l, i => by rw [Lz.pcs, List.length_cons, List.length_cons, pcs_length bs l]
theorem restOf_snoc (c : Lz.Cp) : ∀ (l : List Lz.Cp) (i : Nat), Lz.restOf i (l ++ [c]) = c.at_ + c.cnt
  | [], i => rfl
  | a :: l, i => by rw [List.cons_append, Lz.restOf, restOf_snoc c l]
/-- all parts -/
def partsC (s : ByteArray) (cs : List Lz.Cp) : List Pt := ptsP 0 (Lz.pcs (Sums.bl s) 0 cs) ++ [((Lz.enc (Lz.pcs (Sums.bl s) 0 cs)).length, lastT s cs, 0, 0)]
theorem partsC_length (s : ByteArray) (cs : List Lz.Cp) : (partsC s cs).length = cs.length + 1 := by
  unfold partsC
  rw [List.length_append, ptsP_length, pcs_length, List.length_singleton]
/-- what the part behind so many is -/
structure PartIs (s : ByteArray) (cs : List Lz.Cp) (j : Nat) (x : Pt) : Prop where
  lit : Lz.restOf 0 (cs.take j) + x.2.1.size ≤ s.size ∧ s.extract (Lz.restOf 0 (cs.take j)) (Lz.restOf 0 (cs.take j) + x.2.1.size) = x.2.1
  is_ : (∃ c, cs[j]? = some c ∧ x.2.2.1 = c.off ∧ x.2.2.2 = c.cnt ∧ Lz.restOf 0 (cs.take j) + x.2.1.size = c.at_ ∧ Lz.Tru (Sums.bl s) c ∧ Lz.restOf 0 (cs.take (j + 1)) = c.at_ + c.cnt) ∨ (j = cs.length ∧ x.2.2.1 = 0 ∧ x.2.2.2 = 0 ∧ Lz.restOf 0 (cs.take j) + x.2.1.size = s.size)
theorem part_is (s : ByteArray) (cs : List Lz.Cp) (h : Lz.tru (Sums.bl s) 0 cs) (j : Nat) (x : Pt) (hx : (partsC s cs)[j]? = some x) : PartIs s cs j x := by
  have hlen : (ptsP 0 (Lz.pcs (Sums.bl s) 0 cs)).length = cs.length := by rw [ptsP_length, pcs_length]
  have hlt := (List.getElem?_eq_some_iff.1 hx).1
  rw [partsC_length] at hlt
  unfold partsC at hx
  by_cases hj : j < cs.length
  · rw [List.getElem?_append_left (by omega)] at hx
    obtain ⟨c, hc⟩ : ∃ c, cs[j]? = some c := ⟨_, List.getElem?_eq_getElem hj⟩
    obtain ⟨h1, h2, h3, h4⟩ := pcs_at (Sums.bl s) cs 0 j c hc h
    obtain ⟨tok, h5⟩ := ptsP_at _ 0 j _ h1
    rw [h5] at hx
    cases hx
    obtain ⟨t1, t2, t3, t4, t5, t6, t7⟩ := h3
    rw [Sums.bl_length] at t5 t6
    have hn : nums (((Sums.bl s).take c.at_).drop (Lz.restOf 0 (cs.take j))) = s.extract (Lz.restOf 0 (cs.take j)) c.at_ := by
      apply Sums.bl_inj
      rw [Sums.bl_extract, bl_nums]
      intro z hz
      exact Sums.bl_byt s z (List.mem_of_mem_take (List.mem_of_mem_drop hz))
    have hsz : (s.extract (Lz.restOf 0 (cs.take j)) c.at_).size = c.at_ - Lz.restOf 0 (cs.take j) := by rw [ByteArray.size_extract]; omega
    have hsum : Lz.restOf 0 (cs.take j) + (s.extract (Lz.restOf 0 (cs.take j)) c.at_).size = c.at_ := by omega
    refine ⟨?_, .inl ⟨c, hc, rfl, rfl, ?_, ⟨t1, t2, t3, t4, by rw [Sums.bl_length]; exact t5, by rw [Sums.bl_length]; exact t6, t7⟩, h4⟩⟩
    · simp only [hn, hsum]
      exact ⟨by omega, trivial⟩
    · simp only [hn, hsum]
  · obtain rfl : j = cs.length := by omega
    rw [List.getElem?_append_right (by omega), hlen, Nat.sub_self] at hx
    simp only [List.getElem?_cons_zero, Option.some.injEq] at hx
    subst hx
    have hr := Lz.restOf_le (Sums.bl s) cs 0 (Nat.zero_le _) h
    rw [Sums.bl_length] at hr
    have hsz : (lastT s cs).size = s.size - Lz.restOf 0 cs := by unfold lastT; rw [ByteArray.size_extract]; omega
    have hsum : Lz.restOf 0 cs + (lastT s cs).size = s.size := by omega
    refine ⟨?_, .inr ⟨rfl, rfl, rfl, ?_⟩⟩
    · simp only [List.take_length, hsum]
      exact ⟨Nat.le_refl _, rfl⟩
    · simp only [List.take_length, hsum]
def tokP (l : List Pt) : Nat := l.foldl (fun _ x => x.1) 0
theorem tokP_snoc (l : List Pt) (x : Pt) : tokP (l ++ [x]) = x.1 := by simp [tokP]
/-- the copies' places, as a row -/
def atv (l : List Lz.Cp) : List Value := l.map fun c => .int .i64 (c.at_ : Int)
/-- the parts that are copies -/
def cpP (l : List Pt) : List Pt := l.filter fun x => decide (0 < x.2.2.2)
end Go.Proofs.Ytchjmhgalbkjkab
