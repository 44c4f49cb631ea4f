/-
  The first one of all that All tells. Plain facts.
-/
import Derived.Test.YtlejfeapnnioeaaMnQ
namespace Mn
/-- one more is looked at -/
def lsS (frm : Int) (ln : Nat → Nat) (r : Int × Nat) (x : Nat × Nat) : Int × Nat :=
  if frm ≤ (x.1 : Int) - (ln x.2 : Int) ∧ (r.1 < 0 ∨ (x.1 : Int) - (ln x.2 : Int) < r.1 ∨ ((x.1 : Int) - (ln x.2 : Int) = r.1 ∧ r.2 < ln x.2)) then ((x.1 : Int) - (ln x.2 : Int), ln x.2) else r
def lsF (frm : Int) (ln : Nat → Nat) (l : List (Nat × Nat)) : Int × Nat := l.foldl (lsS frm ln) (-1, 0)
theorem lsF_snoc (frm : Int) (ln : Nat → Nat) (l : List (Nat × Nat)) (x : Nat × Nat) : lsF frm ln (l ++ [x]) = lsS frm ln (lsF frm ln l) x := by
  unfold lsF
  rw [List.foldl_append]
  rfl
structure LsI (frm : Int) (ln : Nat → Nat) (l : List (Nat × Nat)) (r : Int × Nat) : Prop where
  none_ : r.1 < 0 → r = (-1, 0) ∧ ∀ x ∈ l, ¬ frm ≤ (x.1 : Int) - (ln x.2 : Int)
  some_ : 0 ≤ r.1 → (∃ x ∈ l, frm ≤ (x.1 : Int) - (ln x.2 : Int) ∧ r = ((x.1 : Int) - (ln x.2 : Int), ln x.2)) ∧ ∀ x ∈ l, frm ≤ (x.1 : Int) - (ln x.2 : Int) → r.1 < (x.1 : Int) - (ln x.2 : Int) ∨ (r.1 = (x.1 : Int) - (ln x.2 : Int) ∧ ln x.2 ≤ r.2)
theorem LsI.next {frm : Int} {ln : Nat → Nat} {l : List (Nat × Nat)} {r : Int × Nat} (h : LsI frm ln l r) (x : Nat × Nat) (hx : ln x.2 ≤ x.1) : LsI frm ln (l ++ [x]) (lsS frm ln r x) := by
  unfold lsS
  by_cases hc : frm ≤ (x.1 : Int) - (ln x.2 : Int) ∧ (r.1 < 0 ∨ (x.1 : Int) - (ln x.2 : Int) < r.1 ∨ ((x.1 : Int) - (ln x.2 : Int) = r.1 ∧ r.2 < ln x.2))
  · rw [if_pos hc]
    refine ⟨fun h0 => ?_, fun h0 => ⟨⟨x, by simp, hc.1, rfl⟩, fun y hy hf => ?_⟩⟩
    · simp only at h0
      omega
    · rcases List.mem_append.1 hy with hy | hy
      · by_cases hr : r.1 < 0
        · exact absurd hf ((h.none_ hr).2 y hy)
        · have := (h.some_ (by omega)).2 y hy hf
          simp only
          omega
      · simp at hy
        subst hy
        simp
  · rw [if_neg hc]
    refine ⟨fun h0 => ⟨(h.none_ h0).1, fun y hy => ?_⟩, fun h0 => ⟨?_, fun y hy hf => ?_⟩⟩
    · rcases List.mem_append.1 hy with hy | hy
      · exact (h.none_ h0).2 y hy
      · simp at hy
        subst hy
        omega
    · obtain ⟨⟨y, h1, h2⟩, _⟩ := h.some_ h0
      exact ⟨y, by simp [h1], h2⟩
    · rcases List.mem_append.1 hy with hy | hy
      · exact (h.some_ h0).2 y hy hf
      · simp at hy
        subst hy
        omega
theorem lsF_is (frm : Int) (ln : Nat → Nat) : ∀ (l pre : List (Nat × Nat)) (r : Int × Nat), LsI frm ln pre r → (∀ x ∈ l, ln x.2 ≤ x.1) → LsI frm ln (pre ++ l) (l.foldl (lsS frm ln) r)
  | [], pre, r, h, _ => by simpa using h
  | x :: l, pre, r, h, hx => by
    have := lsF_is frm ln l (pre ++ [x]) _ (h.next x (hx x (by simp))) (fun y hy => hx y (by simp [hy]))
    simpa using this
theorem lsF_right (frm : Int) (ln : Nat → Nat) (l : List (Nat × Nat)) (hx : ∀ x ∈ l, ln x.2 ≤ x.1) : LsI frm ln l (lsF frm ln l) := by
  have := lsF_is frm ln l [] (-1, 0) ⟨fun _ => ⟨rfl, by simp⟩, fun h => by simp at h⟩ hx
  rw [List.nil_append] at this
  exact this
theorem all_occ {W : List (List Nat)} (hn : W.Nodup) {T : List Nat} {q v : Nat} (h : (q, v) ∈ allF W T) : (W.getD v []).length ≤ q ∧ Occ W T (q - (W.getD v []).length) v := by
  obtain ⟨k, h1, h2, h3⟩ := mem_all h
  obtain ⟨x, h4, h5, h6⟩ := (mem_wsuf hn _ v).1 h3
  have e : W.getD v [] = x := by rw [List.getD_eq_getElem?_getD, h4]; rfl
  have := suffix_occ (k0 := 0) h4 h6 (by omega : k + 1 ≤ T.length) (by omega) (by rw [List.drop_zero]; exact h5)
  rw [e, h1]
  exact ⟨this.2.2, this.2.1⟩
theorem occ_all {W : List (List Nat)} (hn : W.Nodup) {T : List Nat} {a v : Nat} (h : Occ W T a v) : (a + (W.getD v []).length, v) ∈ allF W T := by
  have hl := occ_len h
  have hs := occ_suffix (Nat.zero_le a) h rfl
  rw [List.drop_zero] at hs
  obtain ⟨_, h1, _, h3⟩ := occ_get h
  unfold allF allK
  rw [List.mem_flatMap]
  refine ⟨a + (W.getD v []).length - 1, by rw [List.mem_range]; omega, ?_⟩
  rw [List.mem_map]
  refine ⟨v, ?_, by show (a + (W.getD v []).length - 1 + 1, v) = _; rw [show a + (W.getD v []).length - 1 + 1 = a + (W.getD v []).length by omega]⟩
  rw [mem_wsuf hn]
  rw [show a + (W.getD v []).length - 1 + 1 = a + (W.getD v []).length by omega]
  exact ⟨_, h1, hs, h3⟩
/-- what First tells and what the law reckons -/
theorem first_ls {W : List (List Nat)} (hn : W.Nodup) {T : List Nat} {frm : Int} {p : Nat} {f : Int} (h : Fs W T frm.toNat p f) :
    (f = -1 → lsF frm (fun j => (W.getD j []).length) (allF W T) = (-1, 0)) ∧ ∀ v : Nat, f = (v : Int) → lsF frm (fun j => (W.getD j []).length) (allF W T) = ((p : Int), (W.getD v []).length) := by
  have hr := lsF_right frm (fun j => (W.getD j []).length) (allF W T) (fun x hx => (all_occ hn (q := x.1) (v := x.2) hx).1)
  obtain ⟨r, hrr⟩ : ∃ r, lsF frm (fun j => (W.getD j []).length) (allF W T) = r := ⟨_, rfl⟩
  rw [hrr] at hr ⊢
  constructor
  · intro hf
    by_cases h0 : r.1 < 0
    · exact (hr.none_ h0).1
    · obtain ⟨⟨x, h1, h2, h3⟩, _⟩ := hr.some_ (by omega)
      have h4 := all_occ hn (q := x.1) (v := x.2) h1
      exact absurd h4.2 (h.none_ hf _ _ (by omega))
  · intro v hv
    obtain ⟨h1, h2, h3⟩ := h.some_ v hv
    have hm := occ_all hn h2
    by_cases h0 : r.1 < 0
    · have := (hr.none_ h0).2 _ hm
      simp only at this
      omega
    · obtain ⟨⟨x, h4, h5, h6⟩, h7⟩ := hr.some_ (by omega)
      have h8 := all_occ hn (q := x.1) (v := x.2) h4
      have h9 := h3 _ _ (by omega) h8.2
      have h10 := h7 _ hm (by simp only; omega)
      simp only at h10
      have h11 : r.1 = (x.1 : Int) - ((W.getD x.2 []).length : Int) := by rw [h6]
      have h12 : r.2 = (W.getD x.2 []).length := by rw [h6]
      apply Prod.ext
      · simp only
        omega
      · simp only
        omega
end Mn
