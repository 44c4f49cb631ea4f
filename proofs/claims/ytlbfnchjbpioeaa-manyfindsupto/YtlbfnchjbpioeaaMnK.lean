/-
  What a set of words tells of a text: where the first one stands. Plain facts; no program is named here.
-/
import Derived.Test.YtlbfnchjbpioeaaMnI
set_option linter.unusedVariables false
namespace Mn
def lf (fold : Bool) (c : Nat) : Nat := if fold then low c else c
theorem small_low (c : Nat) : Swar.small c = low c := by
  unfold Swar.small low
  first | rfl | (split <;> split <;> omega)
theorem bl_fd (fold : Bool) (s : ByteArray) : Sums.bl (fd fold s) = (Sums.bl s).map (lf fold) := by
  apply List.ext_getElem?
  intro i
  have hb : ∀ (s : ByteArray) (i : Nat), i < s.size → (Sums.bl s)[i]? = some (Swar.bt s i) := fun s i hi => by
    have := Sums.bl_get s i hi
    rw [List.getD_eq_getElem?_getD, List.getElem?_eq_getElem (by rw [Sums.bl_length]; exact hi)] at this
    rw [List.getElem?_eq_getElem (by rw [Sums.bl_length]; exact hi), Swar.bt_in hi]
    exact congrArg some this
  by_cases hi : i < s.size
  · rw [List.getElem?_map, hb s i hi, hb _ i (by rw [fd_size]; exact hi)]
    unfold fd lf
    cases fold with
    | false => rfl
    | true =>
      simp only [if_true, Option.map_some]
      rw [Swar.bt_fold, small_low]
  · rw [List.getElem?_eq_none (by rw [Sums.bl_length, fd_size]; omega), List.getElem?_eq_none (by rw [List.length_map, Sums.bl_length]; omega)]
/-- a word stands at a place -/
def Occ (W : List (List Nat)) (T : List Nat) (a j : Nat) : Prop := ∃ x, W[j]? = some x ∧ x <+: T.drop a ∧ x ≠ []
def fstF (ns W : List (List Nat)) : List Nat → List Nat → Nat → Nat → Int → Nat × Int
  | [], _, _, p, f => (p, f)
  | b :: r, st, k, p, f =>
    if f ≠ -1 ∧ p < k + 1 - (suf ns (st ++ [b])).length then (p, f)
    else if lw W (suf ns (st ++ [b])) = -1 then fstF ns W r (suf ns (st ++ [b])) (k + 1) p f
    else if f = -1 ∨ k + 1 - (W.getD (lw W (suf ns (st ++ [b]))).toNat []).length ≤ p then fstF ns W r (suf ns (st ++ [b])) (k + 1) (k + 1 - (W.getD (lw W (suf ns (st ++ [b]))).toNat []).length) (lw W (suf ns (st ++ [b])))
    else fstF ns W r (suf ns (st ++ [b])) (k + 1) p f
/-- of those that end not behind a place -/
structure Fi (W : List (List Nat)) (T : List Nat) (k0 k p : Nat) (f : Int) : Prop where
  none_ : f = -1 → ∀ a j, k0 ≤ a → Occ W T a j → k < a + (W.getD j []).length
  some_ : ∀ w : Nat, f = (w : Int) → k0 ≤ p ∧ Occ W T p w ∧ p + (W.getD w []).length ≤ k ∧ ∀ a j, k0 ≤ a → Occ W T a j → a + (W.getD j []).length ≤ k → p < a ∨ (p = a ∧ (W.getD j []).length ≤ (W.getD w []).length)
  ge : -1 ≤ f
structure Fs (W : List (List Nat)) (T : List Nat) (k0 p : Nat) (f : Int) : Prop where
  none_ : f = -1 → ∀ a j, k0 ≤ a → ¬ Occ W T a j
  some_ : ∀ w : Nat, f = (w : Int) → k0 ≤ p ∧ Occ W T p w ∧ ∀ a j, k0 ≤ a → Occ W T a j → p < a ∨ (p = a ∧ (W.getD j []).length ≤ (W.getD w []).length)
  ge : -1 ≤ f
theorem occ_get {W : List (List Nat)} {T : List Nat} {a j : Nat} (h : Occ W T a j) : Occ W T a j ∧ W[j]? = some (W.getD j []) ∧ W.getD j [] <+: T.drop a ∧ W.getD j [] ≠ [] := by
  obtain ⟨x, h1, h2, h3⟩ := h
  have e : W.getD j [] = x := by rw [List.getD_eq_getElem?_getD, h1]; rfl
  rw [e]
  exact ⟨⟨x, h1, h2, h3⟩, h1, h2, h3⟩
theorem occ_len {W : List (List Nat)} {T : List Nat} {a j : Nat} (h : Occ W T a j) : a + (W.getD j []).length ≤ T.length ∧ 0 < (W.getD j []).length := by
  obtain ⟨_, _, h2, h3⟩ := occ_get h
  have := h2.length_le
  rw [List.length_drop] at this
  have h4 : 0 < (W.getD j []).length := by
    rcases Nat.eq_zero_or_pos (W.getD j []).length with e | e
    · exact absurd (List.length_eq_zero_iff.1 e) h3
    · exact e
  omega
/-- it ends where a beginning of the text does -/
theorem occ_suffix {W : List (List Nat)} {T : List Nat} {a j k0 k : Nat} (ha : k0 ≤ a) (h : Occ W T a j) (hk : a + (W.getD j []).length = k) : W.getD j [] <:+ (T.take k).drop k0 := by
  obtain ⟨_, _, h2, h3⟩ := occ_get h
  have hl := occ_len h
  have e : W.getD j [] = ((T.drop a).take (W.getD j []).length) := List.prefix_iff_eq_take.1 h2
  refine ⟨((T.take k).drop k0).take (a - k0), ?_⟩
  conv => lhs; rw [e]
  have e2 : (T.drop a).take (W.getD j []).length = ((T.take k).drop k0).drop (a - k0) := by
    rw [List.drop_drop, show k0 + (a - k0) = a by omega, List.take_drop, hk]
  rw [e2, List.take_append_drop]
theorem suffix_occ {W : List (List Nat)} {T x : List Nat} {j k0 k : Nat} (hj : W[j]? = some x) (h0 : x ≠ []) (hk : k ≤ T.length) (hk0 : k0 ≤ k) (h : x <:+ (T.take k).drop k0) : k0 ≤ k - x.length ∧ Occ W T (k - x.length) j ∧ x.length ≤ k := by
  have hl := h.length_le
  rw [List.length_drop, List.length_take] at hl
  obtain ⟨y, hy⟩ := h
  have hyl := congrArg List.length hy
  rw [List.length_append, List.length_drop, List.length_take] at hyl
  refine ⟨by omega, ⟨x, hj, ?_, h0⟩, by omega⟩
  have e : x = ((T.take k).drop k0).drop y.length := by rw [← hy, List.drop_left]
  rw [List.drop_drop, show k0 + y.length = k - x.length by omega, List.drop_take] at e
  have h9 := List.take_prefix (k - (k - x.length)) (T.drop (k - x.length))
  rw [← e] at h9
  exact h9
theorem seg_next (T : List Nat) (k0 k : Nat) (hk : k < T.length) (hk0 : k0 ≤ k) : (T.take (k + 1)).drop k0 = (T.take k).drop k0 ++ [T.getD k 0] := by
  rw [take_snoc T k hk, List.drop_append_of_le_length (by rw [List.length_take]; omega)]
section
variable {ns W : List (List Nat)} {T : List Nat} {k0 k p : Nat} {f : Int}
theorem Fi.start (W : List (List Nat)) (T : List Nat) (k0 : Nat) : Fi W T k0 k0 0 (-1) :=
  ⟨fun _ a j ha h => by have := (occ_len h).2; omega, fun w h => by omega, by omega⟩
/-- no word ends there -/
theorem Fi.pass (h : Fi W T k0 k p f) (hn : lw W ((T.take (k + 1)).drop k0) = -1) : Fi W T k0 (k + 1) p f := by
  have hno : ∀ a j, k0 ≤ a → Occ W T a j → a + (W.getD j []).length ≠ k + 1 := fun a j ha ho e => by
    obtain ⟨_, h1, _, h3⟩ := occ_get ho
    exact lw_none hn _ (occ_suffix ha ho e) h3 (List.mem_of_getElem? h1)
  refine ⟨fun hf a j ha ho => ?_, fun w hw => ?_, h.ge⟩
  · have := h.none_ hf a j ha ho
    have := hno a j ha ho
    omega
  · obtain ⟨h1, h2, h3, h4⟩ := h.some_ w hw
    exact ⟨h1, h2, by omega, fun a j ha ho hl => h4 a j ha ho (by have := hno a j ha ho; omega)⟩
/-- one does, and it is better -/
theorem Fi.take (h : Fi W T k0 k p f) (hk : k < T.length) (hk0 : k0 ≤ k) {w : Nat} {x : List Nat} (hw : lw W ((T.take (k + 1)).drop k0) = (w : Int)) (hx : W[w]? = some x) (hb : f = -1 ∨ k + 1 - x.length ≤ p) : Fi W T k0 (k + 1) (k + 1 - x.length) (w : Int) := by
  rcases lw_cases W ((T.take (k + 1)).drop k0) with ⟨e, _⟩ | ⟨w2, x2, e, hx2, _, hs, h0⟩
  · omega
  · have e2 : w2 = w := by omega
    subst e2
    rw [hx] at hx2
    simp only [Option.some.injEq] at hx2
    subst hx2
    have hg : W.getD w2 [] = x := by rw [List.getD_eq_getElem?_getD, hx]; rfl
    obtain ⟨o1, o2, o3⟩ := suffix_occ hx h0 (by omega) (by omega) hs
    refine ⟨fun hf => by omega, fun w hw2 => ?_, by omega⟩
    have e3 : w = w2 := by omega
    subst e3
    rw [hg]
    refine ⟨o1, o2, by omega, fun a j ha ho hl => ?_⟩
    obtain ⟨_, h1, _, h3⟩ := occ_get ho
    by_cases e : a + (W.getD j []).length = k + 1
    · have := lw_max hw hx _ (occ_suffix ha ho e) (List.mem_of_getElem? h1) h3
      omega
    · rcases hb with hb | hb
      · have := h.none_ hb a j ha ho
        omega
      · by_cases hf : f = -1
        · have := h.none_ hf a j ha ho
          omega
        · have hge := h.ge
          obtain ⟨v, hv⟩ := Int.eq_ofNat_of_zero_le (show 0 ≤ f by omega)
          obtain ⟨_, _, q3, q4⟩ := h.some_ v hv
          rcases q4 a j ha ho (by omega) with q | ⟨q, q5⟩
          · left
            omega
          · have hlj := (occ_len ho).2
            omega
/-- one does, and it is not -/
theorem Fi.worse (h : Fi W T k0 k p f) (hk : k < T.length) (hk0 : k0 ≤ k) {w : Nat} {x : List Nat} (hw : lw W ((T.take (k + 1)).drop k0) = (w : Int)) (hx : W[w]? = some x) (hf : f ≠ -1) (hb : p < k + 1 - x.length) : Fi W T k0 (k + 1) p f := by
  refine ⟨fun h0 => absurd h0 hf, fun v hv => ?_, h.ge⟩
  obtain ⟨h1, h2, h3, h4⟩ := h.some_ v hv
  refine ⟨h1, h2, by omega, fun a j ha ho hl => ?_⟩
  by_cases e : a + (W.getD j []).length = k + 1
  · obtain ⟨_, k1, _, k3⟩ := occ_get ho
    have := lw_max hw hx _ (occ_suffix ha ho e) (List.mem_of_getElem? k1) k3
    left
    omega
  · exact h4 a j ha ho (by omega)
/-- none that is still to come can be better -/
theorem Fi.cut (h : Fi W T k0 k p f) (ht : Tr ns) (hW : ∀ x ∈ W, x ∈ ns) (hk : k < T.length) (hk0 : k0 ≤ k) (hf : f ≠ -1) (hb : p < k + 1 - (suf ns ((T.take (k + 1)).drop k0)).length) : Fs W T k0 p f := by
  refine ⟨fun h0 => absurd h0 hf, fun v hv => ?_, h.ge⟩
  obtain ⟨h1, h2, h3, h4⟩ := h.some_ v hv
  refine ⟨h1, h2, fun a j ha ho => ?_⟩
  by_cases hl : a + (W.getD j []).length ≤ k
  · exact h4 a j ha ho hl
  · by_cases hap : p < a
    · exact .inl hap
    · exfalso
      obtain ⟨_, k1, k2, k3⟩ := occ_get ho
      have hpl := (occ_len h2).2
      have hseg : (T.take (k + 1)).drop a ∈ ns := by
        have e : (T.take (k + 1)).drop a = (W.getD j []).take (k + 1 - a) := by
          rw [List.prefix_iff_eq_take.1 k2, List.take_take, List.drop_take]
          congr 1
          omega
        rw [e]
        exact ht.clos ((W.getD j []).drop (k + 1 - a)) _ (by rw [List.take_append_drop]; exact hW _ (List.mem_of_getElem? k1))
      have hsuf : (T.take (k + 1)).drop a <:+ (T.take (k + 1)).drop k0 := by
        have : (T.take (k + 1)).drop a = ((T.take (k + 1)).drop k0).drop (a - k0) := by rw [List.drop_drop, show k0 + (a - k0) = a by omega]
        rw [this]
        exact List.drop_suffix _ _
      have := suf_max ns _ _ hsuf hseg
      rw [List.length_drop, List.length_take] at this
      omega
theorem Fi.done (h : Fi W T k0 T.length p f) : Fs W T k0 p f := by
  refine ⟨fun hf a j ha ho => ?_, fun v hv => ?_, h.ge⟩
  · have := h.none_ hf a j ha ho
    have := (occ_len ho).1
    omega
  · obtain ⟨h1, h2, h3, h4⟩ := h.some_ v hv
    exact ⟨h1, h2, fun a j ha ho => h4 a j ha ho (occ_len ho).1⟩
end
theorem fst_right {ns W : List (List Nat)} (ht : Tr ns) (hW : ∀ x ∈ W, x ∈ ns) (T : List Nat) (k0 : Nat) : ∀ (r : List Nat) (k p : Nat) (f : Int), r = T.drop k → k0 ≤ k → k ≤ T.length → Fi W T k0 k p f → Fs W T k0 (fstF ns W r (suf ns ((T.take k).drop k0)) k p f).1 (fstF ns W r (suf ns ((T.take k).drop k0)) k p f).2
  | [], k, p, f, hr, h0, hk, h => by
    have : k = T.length := by
      have := congrArg List.length hr
      simp at this
      omega
    subst this
    exact h.done
  | b :: r, k, p, f, hr, h0, hk, h => by
    have hkl : k < T.length := by
      have := congrArg List.length hr
      simp at this
      omega
    have hbe : b = T.getD k 0 ∧ r = T.drop (k + 1) := by
      rw [List.drop_eq_getElem_cons hkl] at hr
      simp only [List.cons.injEq] at hr
      rw [List.getD_eq_getElem?_getD, List.getElem?_eq_getElem hkl]
      exact hr
    have hst : suf ns (suf ns ((T.take k).drop k0) ++ [b]) = suf ns ((T.take (k + 1)).drop k0) := by
      rw [seg_next T k0 k hkl h0, ← hbe.1, ← suf_step ht]
    have ih := fst_right ht hW T k0 r (k + 1)
    unfold fstF
    rw [hst, lw_suf hW]
    by_cases c1 : f ≠ -1 ∧ p < k + 1 - (suf ns ((T.take (k + 1)).drop k0)).length
    · rw [if_pos c1]
      exact h.cut ht hW hkl h0 c1.1 c1.2
    · rw [if_neg c1]
      by_cases c2 : lw W ((T.take (k + 1)).drop k0) = -1
      · rw [if_pos c2]
        exact ih p f hbe.2 (by omega) (by omega) (h.pass c2)
      · rw [if_neg c2]
        have hlt := @lw_lt W ((T.take (k + 1)).drop k0)
        obtain ⟨w, hw⟩ := Int.eq_ofNat_of_zero_le (show 0 ≤ lw W ((T.take (k + 1)).drop k0) by omega)
        have hwl : w < W.length := by omega
        have hx : W[w]? = some (W.getD w []) := by rw [List.getD_eq_getElem?_getD, List.getElem?_eq_getElem hwl]; rfl
        have hwt : (lw W ((T.take (k + 1)).drop k0)).toNat = w := by omega
        rw [hwt]
        by_cases c3 : f = -1 ∨ k + 1 - (W.getD w []).length ≤ p
        · rw [if_pos c3]
          have := h.take hkl h0 hw hx c3
          rw [← hw] at this
          exact ih _ _ hbe.2 (by omega) (by omega) this
        · rw [if_neg c3]
          exact ih p f hbe.2 (by omega) (by omega) (h.worse hkl h0 hw hx (fun e => c3 (.inl e)) (by omega))
end Mn
