/-
  What All tells, by words. Conditions: as each says.
-/
import Derived.Test.YtlejfeapnnioeaaMnR
namespace Mn
/-- a list of numbers below m, none twice, has at most m -/
theorem nodup_len : ∀ (m : Nat) (l : List Nat), l.Nodup → (∀ x ∈ l, x < m) → l.length ≤ m
  | 0, l, _, h => by
    cases l with
    | nil => simp
    | cons a t => exact absurd (h a (by simp)) (by omega)
  | m + 1, l, hn, h => by
    have h1 := nodup_len m (l.erase m) (hn.erase m) (fun x hx => by
      have h2 := (hn.mem_erase_iff).1 hx
      have := h x h2.2
      have := h2.1
      omega)
    rw [List.length_erase] at h1
    split at h1 <;> omega
theorem wsuf_down {W : List (List Nat)} (hn : W.Nodup) : ∀ s, (wsuf W s).Pairwise fun a b => (W.getD b []).length < (W.getD a []).length
  | [] => by simp [wsuf]
  | a :: t => by
    have ih := wsuf_down hn t
    rw [wsuf]
    cases e : ixo W (a :: t) with
    | none => exact ih
    | some k =>
      simp only [List.pairwise_cons]
      refine ⟨fun b hb => ?_, ih⟩
      obtain ⟨x, h1, h2, _⟩ := (mem_wsuf hn t b).1 hb
      have h3 := ixo_some W _ _ e
      rw [List.getD_eq_getElem?_getD, List.getD_eq_getElem?_getD, h1, h3]
      have := h2.length_le
      simp
      omega
theorem wsuf_nodup {W : List (List Nat)} (hn : W.Nodup) (s : List Nat) : (wsuf W s).Nodup := by
  unfold List.Nodup
  refine (wsuf_down hn s).imp ?_
  intro a b h e
  subst e
  omega
theorem wsuf_len {W : List (List Nat)} (hn : W.Nodup) (s : List Nat) : (wsuf W s).length ≤ W.length :=
  nodup_len _ _ (wsuf_nodup hn s) fun k hk => by
    obtain ⟨x, h1, _⟩ := (mem_wsuf hn s k).1 hk
    exact (List.getElem?_eq_some_iff.1 h1).1
theorem allK_len {W : List (List Nat)} (hn : W.Nodup) (T : List Nat) : ∀ k, (allK W T k).length ≤ k * W.length
  | 0 => by simp [allK]
  | k + 1 => by
    rw [allK_next, List.length_append, List.length_map, Nat.succ_mul]
    exact Nat.add_le_add (allK_len hn T k) (wsuf_len hn _)
theorem allF_len {W : List (List Nat)} (hn : W.Nodup) (T : List Nat) : (allF W T).length ≤ T.length * W.length := allK_len hn T _
theorem allK_fst {W : List (List Nat)} {T : List Nat} {k : Nat} {x : Nat × Nat} (h : x ∈ allK W T k) : 1 ≤ x.1 ∧ x.1 ≤ k := by
  unfold allK at h
  obtain ⟨i, h1, h2⟩ := List.mem_flatMap.1 h
  obtain ⟨v, _, rfl⟩ := List.mem_map.1 h2
  have := List.mem_range.1 h1
  exact ⟨by simp, by simp; omega⟩
/-- one behind the other -/
def Bhd (W : List (List Nat)) (x y : Nat × Nat) : Prop := x.1 < y.1 ∨ (x.1 = y.1 ∧ (W.getD y.2 []).length < (W.getD x.2 []).length)
theorem allK_pw {W : List (List Nat)} (hn : W.Nodup) (T : List Nat) : ∀ k, (allK W T k).Pairwise (Bhd W)
  | 0 => by simp [allK]
  | k + 1 => by
    rw [allK_next, List.pairwise_append]
    refine ⟨allK_pw hn T k, ?_, ?_⟩
    · rw [List.pairwise_map]
      exact (wsuf_down hn _).imp fun h => .inr ⟨rfl, h⟩
    · intro x hx y hy
      obtain ⟨v, _, rfl⟩ := List.mem_map.1 hy
      have := (allK_fst hx).2
      exact .inl (by simp; omega)
/-- the place and the length of what was told last -/
def lastP (pre : List (Nat × Nat)) : Nat := (pre.getLast?.map fun x => x.1).getD 0
def lastZ (W : List (List Nat)) (pre : List (Nat × Nat)) : Nat := (pre.getLast?.map fun x => (W.getD x.2 []).length).getD 0
theorem last_snoc (W : List (List Nat)) (pre : List (Nat × Nat)) (x : Nat × Nat) : lastP (pre ++ [x]) = x.1 ∧ lastZ W (pre ++ [x]) = (W.getD x.2 []).length := by
  simp [lastP, lastZ]
/-- what a round may take for granted -/
theorem round_ok {W : List (List Nat)} (hn : W.Nodup) {T : List Nat} {pre : List (Nat × Nat)} {q v : Nat} (h : pre ++ [(q, v)] <+: allF W T) :
    v < W.length ∧ q ≤ T.length ∧ pre.length + 1 ≤ T.length * W.length ∧ (lastP pre < q ∨ (lastP pre = q ∧ (W.getD v []).length < lastZ W pre)) := by
  have hm : (q, v) ∈ allF W T := h.subset (by simp)
  obtain ⟨h1, h2⟩ := all_lt hn hm
  have h3 := h.length_le
  have h4 := allF_len hn T
  rw [List.length_append, List.length_singleton] at h3
  refine ⟨h1, h2, by omega, ?_⟩
  have hp : (pre ++ [(q, v)]).Pairwise (Bhd W) := (allK_pw hn T T.length).sublist h.sublist
  rw [List.pairwise_append] at hp
  cases e : pre.getLast? with
  | none =>
    have := (allK_fst hm).1
    simp [lastP, e]
    simp at this
    omega
  | some y =>
    have hy : y ∈ pre := List.mem_of_getLast? e
    have := hp.2.2 y hy (q, v) (by simp)
    simp only [lastP, lastZ, e, Option.map_some, Option.getD_some]
    rcases this with h5 | ⟨h5, h6⟩
    · exact .inl h5
    · exact .inr ⟨h5, h6⟩
/-- the places behind a word, as they were told -/
def plc (l : List (Nat × Nat)) (i : Nat) : List Nat := (l.filter fun x => x.2 == i).map fun x => x.1
theorem plc_snoc (l : List (Nat × Nat)) (q v i : Nat) : plc (l ++ [(q, v)]) i = if v = i then plc l i ++ [q] else plc l i := by
  unfold plc
  rw [List.filter_append, List.map_append]
  by_cases e : v = i
  · subst e
    simp
  · simp [e]
theorem plc_nil (i : Nat) : plc [] i = [] := rfl
theorem plc_len (l : List (Nat × Nat)) (i : Nat) : (plc l i).length ≤ l.length := by
  unfold plc
  rw [List.length_map]
  exact List.length_filter_le _ _
/-- the places behind a word, by its letters alone -/
def plcK (x T : List Nat) (k : Nat) : List Nat := ((List.range k).filter fun j => decide (x <:+ T.take (j + 1))).map (· + 1)
theorem plcK_next (x T : List Nat) (k : Nat) : plcK x T (k + 1) = if x <:+ T.take (k + 1) then plcK x T k ++ [k + 1] else plcK x T k := by
  unfold plcK
  rw [List.range_succ, List.filter_append, List.map_append]
  by_cases h : x <:+ T.take (k + 1)
  · rw [if_pos h]
    simp [h]
  · rw [if_neg h]
    simp [h]
theorem filter_one : ∀ (l : List Nat), l.Nodup → ∀ i, l.filter (fun v => v == i) = if i ∈ l then [i] else []
  | [], _, i => by simp
  | a :: t, hn, i => by
    rw [List.nodup_cons] at hn
    have ih := filter_one t hn.2 i
    by_cases e : a = i
    · subst e
      rw [if_neg hn.1] at ih
      simp [ih]
    · rw [List.filter_cons_of_neg (by simpa using e), ih]
      simp [Ne.symm e]
theorem plc_allK {W : List (List Nat)} (hn : W.Nodup) (T : List Nat) {i : Nat} {x : List Nat} (hx : W[i]? = some x) (h0 : x ≠ []) : ∀ k, plc (allK W T k) i = plcK x T k
  | 0 => by simp [allK, plc, plcK]
  | k + 1 => by
    rw [allK_next, plcK_next, ← plc_allK hn T hx h0 k]
    unfold plc
    rw [List.filter_append, List.map_append, List.filter_map]
    have e : ((fun x : Nat × Nat => x.2 == i) ∘ fun w => (k + 1, w)) = fun v => v == i := rfl
    rw [e, filter_one _ (wsuf_nodup hn _) i]
    have hm : i ∈ wsuf W (T.take (k + 1)) ↔ x <:+ T.take (k + 1) := by
      rw [mem_wsuf hn]
      constructor
      · rintro ⟨y, h1, h2, _⟩
        rw [hx] at h1
        cases h1
        exact h2
      · exact fun h => ⟨x, hx, h, h0⟩
    by_cases h : x <:+ T.take (k + 1)
    · rw [if_pos h, if_pos (hm.2 h)]
      simp
    · rw [if_neg h, if_neg (fun q => h (hm.1 q))]
      simp
theorem plc_allF {W : List (List Nat)} (hn : W.Nodup) (T : List Nat) {i : Nat} {x : List Nat} (hx : W[i]? = some x) (h0 : x ≠ []) : plc (allF W T) i = plcK x T T.length := plc_allK hn T hx h0 _
end Mn
