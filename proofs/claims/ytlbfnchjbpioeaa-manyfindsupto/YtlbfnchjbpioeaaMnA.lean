/-
  Words found at one time: beginnings, tails, what a text ends with. Plain facts; no program is named here.
-/
set_option linter.unusedVariables false
namespace Mn
/-- place of a text in a list of such -/
def ixo : List (List Nat) → List Nat → Option Nat
  | [], _ => none
  | x :: l, s => if x = s then some 0 else (ixo l s).map (· + 1)
theorem ixo_some : ∀ (l : List (List Nat)) (s : List Nat) (k : Nat), ixo l s = some k → l[k]? = some s
  | [], s, k, h => by simp [ixo] at h
  | x :: l, s, k, h => by
    unfold ixo at h
    split at h
    · rename_i e
      simp at h
      subst h
      simp [e]
    · cases e : ixo l s with
      | none => rw [e] at h; simp at h
      | some j =>
        rw [e] at h
        simp at h
        subst h
        simpa using ixo_some l s j e
theorem ixo_none : ∀ (l : List (List Nat)) (s : List Nat), ixo l s = none → s ∉ l
  | [], s, _ => by simp
  | x :: l, s, h => by
    unfold ixo at h
    split at h
    · simp at h
    · rename_i e
      have := ixo_none l s (by cases k : ixo l s with | none => rfl | some j => rw [k] at h; simp at h)
      simp only [List.mem_cons, not_or]
      exact ⟨fun q => e q.symm, this⟩
theorem ixo_mem {l : List (List Nat)} {s : List Nat} (h : s ∈ l) : ∃ k, ixo l s = some k := by
  cases e : ixo l s with
  | none => exact absurd h (ixo_none l s e)
  | some k => exact ⟨k, rfl⟩
theorem mem_of_ixo {l : List (List Nat)} {s : List Nat} {k : Nat} (h : ixo l s = some k) : s ∈ l := List.mem_of_getElem? (ixo_some l s k h)
theorem ixo_not {l : List (List Nat)} {s : List Nat} (h : s ∉ l) : ixo l s = none := by
  cases e : ixo l s with
  | none => rfl
  | some k => exact absurd (mem_of_ixo e) h
theorem ixo_get : ∀ (l : List (List Nat)) (s : List Nat) (k : Nat), l.Nodup → l[k]? = some s → ixo l s = some k
  | [], s, k, _, h => by simp at h
  | x :: l, s, k, hn, h => by
    unfold ixo
    cases k with
    | zero =>
      simp at h
      rw [if_pos h]
    | succ k =>
      simp at h
      have hm := List.mem_of_getElem? h
      rw [List.nodup_cons] at hn
      rw [if_neg (fun e => hn.1 (by rw [e]; exact hm)), ixo_get l s k hn.2 h]
      rfl
theorem ixo_append : ∀ (l m : List (List Nat)) (s : List Nat), ixo (l ++ m) s = match ixo l s with | some k => some k | none => (ixo m s).map (· + l.length)
  | [], m, s => by simp [ixo]
  | x :: l, m, s => by
    simp only [List.cons_append, ixo, List.length_cons]
    by_cases e : x = s
    · simp [e]
    · rw [if_neg e, if_neg e, ixo_append l m s]
      cases ixo l s with
      | none => cases ixo m s <;> simp; omega
      | some k => simp
def ix (ns : List (List Nat)) (s : List Nat) : Nat := (ixo ns s).getD 0
def ixw (W : List (List Nat)) (s : List Nat) : Int := match ixo W s with | some k => (k : Int) | none => -1
theorem ix_get {ns : List (List Nat)} {s : List Nat} (h : s ∈ ns) : ns[ix ns s]? = some s := by
  obtain ⟨k, hk⟩ := ixo_mem h
  rw [ix, hk]
  exact ixo_some ns s k hk
theorem ix_lt {ns : List (List Nat)} {s : List Nat} (h : s ∈ ns) : ix ns s < ns.length := (List.getElem?_eq_some_iff.1 (ix_get h)).1
theorem ix_of {ns : List (List Nat)} (hn : ns.Nodup) {s : List Nat} {i : Nat} (h : ns[i]? = some s) : ix ns s = i := by rw [ix, ixo_get ns s i hn h]; rfl
theorem ix_not {ns : List (List Nat)} {s : List Nat} (h : s ∉ ns) : ix ns s = 0 := by rw [ix, ixo_not h]; rfl
theorem ix_getD {ns : List (List Nat)} {s : List Nat} (h : s ∈ ns) : ns.getD (ix ns s) [] = s := by rw [List.getD_eq_getElem?_getD, ix_get h]; rfl
theorem getD_mem {ns : List (List Nat)} {i : Nat} (h : i < ns.length) : ns.getD i [] ∈ ns := by
  rw [List.getD_eq_getElem?_getD, List.getElem?_eq_getElem h]
  exact List.getElem_mem h
theorem ix_self {ns : List (List Nat)} (hn : ns.Nodup) {i : Nat} (h : i < ns.length) : ix ns (ns.getD i []) = i := by
  apply ix_of hn
  rw [List.getD_eq_getElem?_getD, List.getElem?_eq_getElem h]
  rfl
theorem ix_inj {ns : List (List Nat)} {s t : List Nat} (hs : s ∈ ns) (ht : t ∈ ns) (h : ix ns s = ix ns t) : s = t := by
  have a := ix_get hs
  rw [h, ix_get ht] at a
  simpa using a.symm
theorem ixw_mem {W : List (List Nat)} {s : List Nat} (h : s ∈ W) : ∃ k : Nat, ixw W s = (k : Int) ∧ W[k]? = some s ∧ ixo W s = some k := by
  obtain ⟨k, hk⟩ := ixo_mem h
  exact ⟨k, by rw [ixw, hk], ixo_some W s k hk, hk⟩
theorem ixw_not {W : List (List Nat)} {s : List Nat} (h : s ∉ W) : ixw W s = -1 := by rw [ixw, ixo_not h]
/-- a tree of beginnings -/
structure Tr (ns : List (List Nat)) : Prop where
  nod : ns.Nodup
  root : ns[0]? = some []
  clo : ∀ s b, s ++ [b] ∈ ns → s ∈ ns
theorem Tr.zero {ns : List (List Nat)} (h : Tr ns) : [] ∈ ns := List.mem_of_getElem? h.root
theorem Tr.ix0 {ns : List (List Nat)} (h : Tr ns) : ix ns [] = 0 := ix_of h.nod h.root
theorem Tr.pos {ns : List (List Nat)} (h : Tr ns) {s : List Nat} (hs : s ∈ ns) (h0 : s ≠ []) : ix ns s ≠ 0 := fun e => h0 (ix_inj hs h.zero (e.trans h.ix0.symm))
theorem Tr.one : Tr [[]] := ⟨by simp, rfl, fun s b h => by simp at h⟩
theorem Tr.clos {ns : List (List Nat)} (h : Tr ns) : ∀ (t s : List Nat), s ++ t ∈ ns → s ∈ ns
  | [], s, hs => by simpa using hs
  | b :: t, s, hs => by
    have := h.clos t (s ++ [b]) (by simpa using hs)
    exact h.clo s b this
/-- the longest of them with which a text ends -/
def suf (ns : List (List Nat)) : List Nat → List Nat
  | [] => []
  | a :: t => if (a :: t) ∈ ns then a :: t else suf ns t
theorem suf_mem {ns : List (List Nat)} (h : [] ∈ ns) : ∀ s, suf ns s ∈ ns
  | [] => h
  | a :: t => by
    unfold suf
    split
    · assumption
    · exact suf_mem h t
theorem suf_self {ns : List (List Nat)} {s : List Nat} (h : s ∈ ns) : suf ns s = s := by
  cases s with
  | nil => rfl
  | cons a t => rw [suf, if_pos h]
theorem suf_len (ns : List (List Nat)) : ∀ s, (suf ns s).length ≤ s.length
  | [] => Nat.le_refl _
  | a :: t => by
    unfold suf
    split
    · exact Nat.le_refl _
    · have := suf_len ns t
      simp
      omega
theorem suf_step {ns : List (List Nat)} (h : Tr ns) : ∀ (s : List Nat) (b : Nat), suf ns (s ++ [b]) = suf ns (suf ns s ++ [b])
  | [], b => rfl
  | a :: t, b => by
    by_cases e : (a :: t) ∈ ns
    · rw [suf_self e]
    · have e2 : (a :: (t ++ [b])) ∉ ns := fun q => e (h.clo (a :: t) b q)
      rw [List.cons_append, suf, if_neg e2, suf_step h t b]
      conv => rhs; rw [suf, if_neg e]
theorem suf_skip {ns : List (List Nat)} (h : Tr ns) (s : List Nat) (b : Nat) (h0 : s ≠ []) (hn : s ++ [b] ∉ ns) : suf ns (s ++ [b]) = suf ns (suf ns s.tail ++ [b]) := by
  cases s with
  | nil => exact absurd rfl h0
  | cons a t =>
    have hn' : (a :: (t ++ [b])) ∉ ns := hn
    rw [List.tail_cons, List.cons_append, suf, if_neg hn', suf_step h t b]
theorem suf_tail {ns : List (List Nat)} (h : Tr ns) (s : List Nat) (b : Nat) (h0 : s ≠ []) : suf ns (s ++ [b]).tail = suf ns (suf ns s.tail ++ [b]) := by
  cases s with
  | nil => exact absurd rfl h0
  | cons a t =>
    rw [List.tail_cons, List.cons_append, List.tail_cons, suf_step h t b]
theorem suf_max (ns : List (List Nat)) : ∀ (s x : List Nat), x <:+ s → x ∈ ns → x.length ≤ (suf ns s).length
  | [], x, h, _ => by rw [List.suffix_nil.1 h]; exact Nat.zero_le _
  | a :: t, x, h, hx => by
    unfold suf
    split
    · exact h.length_le
    · rename_i e
      rcases List.suffix_cons_iff.1 h with rfl | h
      · exact absurd hx e
      · exact suf_max ns t x h hx
theorem suf_suffix (ns : List (List Nat)) : ∀ s, suf ns s <:+ s
  | [] => List.suffix_refl _
  | a :: t => by
    unfold suf
    split
    · exact List.suffix_refl _
    · exact (suf_suffix ns t).trans (List.suffix_cons a t)
/-- the longest word with which a text ends -/
def lw (W : List (List Nat)) : List Nat → Int
  | [] => -1
  | a :: t => match ixo W (a :: t) with | some k => (k : Int) | none => lw W t
def wsuf (W : List (List Nat)) : List Nat → List Nat
  | [] => []
  | a :: t => match ixo W (a :: t) with | some k => k :: wsuf W t | none => wsuf W t
theorem lw_suf {ns W : List (List Nat)} (hW : ∀ x ∈ W, x ∈ ns) : ∀ s, lw W (suf ns s) = lw W s
  | [] => rfl
  | a :: t => by
    by_cases e : (a :: t) ∈ ns
    · rw [suf_self e]
    · rw [suf, if_neg e, lw_suf hW t, lw, ixo_not (fun q => e (hW _ q))]
theorem wsuf_suf {ns W : List (List Nat)} (hW : ∀ x ∈ W, x ∈ ns) : ∀ s, wsuf W (suf ns s) = wsuf W s
  | [] => rfl
  | a :: t => by
    by_cases e : (a :: t) ∈ ns
    · rw [suf_self e]
    · rw [suf, if_neg e, wsuf_suf hW t, wsuf, ixo_not (fun q => e (hW _ q))]
theorem lw_word {W : List (List Nat)} {s : List Nat} (h : s ∈ W) (h0 : s ≠ []) : lw W s = ixw W s := by
  cases s with
  | nil => exact absurd rfl h0
  | cons a t =>
    obtain ⟨k, h1, _, h3⟩ := ixw_mem h
    rw [h1, lw, h3]
theorem lw_not {W : List (List Nat)} {s : List Nat} (h : s ∉ W) (h0 : s ≠ []) : lw W s = lw W s.tail := by
  cases s with
  | nil => exact absurd rfl h0
  | cons a t => rw [lw, ixo_not h, List.tail_cons]
theorem lw_cases (W : List (List Nat)) : ∀ s, (lw W s = -1 ∧ wsuf W s = []) ∨ ∃ k : Nat, ∃ x, lw W s = (k : Int) ∧ W[k]? = some x ∧ wsuf W s = k :: wsuf W x.tail ∧ x <:+ s ∧ x ≠ []
  | [] => .inl ⟨rfl, rfl⟩
  | a :: t => by
    cases e : ixo W (a :: t) with
    | none =>
      rw [lw, wsuf, e]
      rcases lw_cases W t with h | ⟨k, x, h1, h2, h3, h4, h5⟩
      · exact .inl h
      · exact .inr ⟨k, x, h1, h2, h3, h4.trans (List.suffix_cons a t), h5⟩
    | some k =>
      rw [lw, wsuf, e]
      exact .inr ⟨k, a :: t, rfl, ixo_some W _ k e, rfl, List.suffix_refl _, by simp⟩
theorem lw_none {W : List (List Nat)} : ∀ {s : List Nat}, lw W s = -1 → ∀ x, x <:+ s → x ≠ [] → x ∉ W
  | [], _, x, h, h0, _ => h0 (List.suffix_nil.1 h)
  | a :: t, h, x, hx, h0, hm => by
    rw [lw] at h
    cases e : ixo W (a :: t) with
    | some k => rw [e] at h; simp at h
    | none =>
      rw [e] at h
      rcases List.suffix_cons_iff.1 hx with rfl | hx
      · exact ixo_none _ _ e hm
      · exact lw_none h x hx h0 hm
theorem lw_max {W : List (List Nat)} : ∀ {s : List Nat} {k : Nat} {y : List Nat}, lw W s = (k : Int) → W[k]? = some y → ∀ x, x <:+ s → x ∈ W → x ≠ [] → x.length ≤ y.length
  | [], k, y, h, _, x, hx, _, h0 => absurd (List.suffix_nil.1 hx) h0
  | a :: t, k, y, h, hy, x, hx, hm, h0 => by
    rw [lw] at h
    cases e : ixo W (a :: t) with
    | some j =>
      rw [e] at h
      have hj : j = k := by simp at h; omega
      subst hj
      rw [ixo_some W _ j e] at hy
      simp at hy
      rw [← hy]
      exact hx.length_le
    | none =>
      rw [e] at h
      rcases List.suffix_cons_iff.1 hx with rfl | hx
      · exact absurd hm (ixo_none _ _ e)
      · exact lw_max h hy x hx hm h0
theorem lw_lt {W : List (List Nat)} {s : List Nat} : -1 ≤ lw W s ∧ lw W s < (W.length : Int) := by
  rcases lw_cases W s with ⟨h, _⟩ | ⟨k, x, h, h2, _⟩
  · rw [h]; omega
  · rw [h]
    have := (List.getElem?_eq_some_iff.1 h2).1
    omega
theorem mem_wsuf {W : List (List Nat)} (hn : W.Nodup) : ∀ (s : List Nat) (k : Nat), k ∈ wsuf W s ↔ ∃ x, W[k]? = some x ∧ x <:+ s ∧ x ≠ []
  | [], k => by
    simp only [wsuf, List.not_mem_nil, false_iff, not_exists, not_and]
    intro x _ h h0
    exact h0 (List.suffix_nil.1 h)
  | a :: t, k => by
    rw [wsuf]
    cases e : ixo W (a :: t) with
    | none =>
      simp only []
      rw [mem_wsuf hn t k]
      constructor
      · rintro ⟨x, h1, h2, h3⟩
        exact ⟨x, h1, h2.trans (List.suffix_cons a t), h3⟩
      · rintro ⟨x, h1, h2, h3⟩
        rcases List.suffix_cons_iff.1 h2 with rfl | h2
        · exact absurd (List.mem_of_getElem? h1) (ixo_none _ _ e)
        · exact ⟨x, h1, h2, h3⟩
    | some j =>
      simp only [List.mem_cons]
      rw [mem_wsuf hn t k]
      constructor
      · rintro (rfl | ⟨x, h1, h2, h3⟩)
        · exact ⟨_, ixo_some W _ _ e, List.suffix_refl _, by simp⟩
        · exact ⟨x, h1, h2.trans (List.suffix_cons a t), h3⟩
      · rintro ⟨x, h1, h2, h3⟩
        rcases List.suffix_cons_iff.1 h2 with rfl | h2
        · have := ixo_get W _ k hn h1
          rw [e] at this
          simp at this
          exact .inl this.symm
        · exact .inr ⟨x, h1, h2, h3⟩
/-- gone over in width -/
structure Bf (ns Q : List (List Nat)) (k b : Nat) : Prop where
  nod : Q.Nodup
  sub : ∀ s ∈ Q, s ∈ ns
  root : Q[0]? = some []
  mem : ∀ s c, s ++ [c] ∈ ns → (s ++ [c] ∈ Q ↔ (s ∈ Q.take k ∨ (Q[k]? = some s ∧ c < b)))
  srt : ∀ (i j : Nat) (x y : List Nat), i ≤ j → Q[i]? = some x → Q[j]? = some y → x.length ≤ y.length
  kle : k ≤ Q.length
theorem Bf.start {ns : List (List Nat)} (h : Tr ns) : Bf ns [[]] 0 0 := by
  refine ⟨by simp, ?_, rfl, ?_, ?_, by simp⟩
  · intro s hs
    simp at hs
    rw [hs]
    exact h.zero
  · intro s c _
    simp
  · intro i j x y hij hx hy
    have hi := (List.getElem?_eq_some_iff.1 hx).1
    have hj := (List.getElem?_eq_some_iff.1 hy).1
    simp at hi hj
    subst hi
    subst hj
    rw [hx] at hy
    simp at hy
    rw [hy]
    exact Nat.le_refl _
theorem mem_take {l : List (List Nat)} {k j : Nat} {s : List Nat} (h : l[j]? = some s) (hj : j < k) : s ∈ l.take k := by
  apply List.mem_of_getElem? (i := j)
  rw [List.getElem?_take, if_pos hj]
  exact h
theorem take_mem {l : List (List Nat)} {k : Nat} {s : List Nat} (h : s ∈ l.take k) : ∃ j : Nat, j < k ∧ l[j]? = some s := by
  obtain ⟨j, hj⟩ := List.getElem?_of_mem h
  rw [List.getElem?_take] at hj
  split at hj
  · exact ⟨j, by assumption, hj⟩
  · simp at hj
theorem snoc_cases (s : List Nat) : s = [] ∨ ∃ t c, s = t ++ [c] := by
  rcases List.eq_nil_or_concat s with h | ⟨t, c, h⟩
  · exact .inl h
  · exact .inr ⟨t, c, by rw [h, List.concat_eq_append]⟩
theorem Bf.short {ns Q : List (List Nat)} {k b : Nat} (h : Bf ns Q k b) (ht : Tr ns) {a : List Nat} (ha : Q[k]? = some a) : ∀ (m : Nat) (s : List Nat), s.length = m → s ∈ ns → s.length < a.length → s ∈ Q.take k
  | 0, s, hm, hs, hl => by
    have : s = [] := List.length_eq_zero_iff.1 hm
    subst this
    have hk : k ≠ 0 := fun e => by
      subst e
      rw [h.root] at ha
      simp at ha
      rw [← ha] at hl
      simp at hl
    exact mem_take h.root (by omega)
  | m + 1, s, hm, hs, hl => by
    rcases snoc_cases s with rfl | ⟨t, c, rfl⟩
    · simp at hm
    · have htl : t.length = m := by simpa using hm
      have h1 := h.short ht ha m t htl (ht.clo t c hs) (by simp at hl; omega)
      have h2 := (h.mem t c hs).2 (.inl h1)
      obtain ⟨j, hj⟩ := List.getElem?_of_mem h2
      by_cases hjk : j < k
      · exact mem_take hj hjk
      · have := h.srt k j _ _ (by omega) ha hj
        omega
theorem Bf.same {ns Q : List (List Nat)} {k b : Nat} (h : Bf ns Q k b) (ht : Tr ns) {a : List Nat} (ha : Q[k]? = some a) (s : List Nat) (hs : s ∈ ns) (hl : s.length ≤ a.length) : s ∈ Q := by
  rcases snoc_cases s with rfl | ⟨t, c, rfl⟩
  · exact List.mem_of_getElem? h.root
  · exact (h.mem t c hs).2 (.inl (h.short ht ha _ t rfl (ht.clo t c hs) (by simp at hl; omega)))
theorem Bf.notyet {ns Q : List (List Nat)} {k b : Nat} (h : Bf ns Q k b) {a : List Nat} (ha : Q[k]? = some a) : a ∉ Q.take k := fun hm => by
  obtain ⟨j, hj, hq⟩ := take_mem hm
  have h1 := ixo_get Q a j h.nod hq
  rw [ixo_get Q a k h.nod ha] at h1
  simp at h1
  omega
theorem Bf.fresh {ns Q : List (List Nat)} {k b : Nat} (h : Bf ns Q k b) {a : List Nat} (ha : Q[k]? = some a) (hc : a ++ [b] ∈ ns) : a ++ [b] ∉ Q := fun hm => by
  rcases (h.mem a b hc).1 hm with h1 | ⟨_, h2⟩
  · exact h.notyet ha h1
  · omega
theorem snoc_inj {s t : List Nat} {b c : Nat} : s ++ [b] = t ++ [c] ↔ s = t ∧ b = c := by
  constructor
  · intro h
    have := List.append_inj' h rfl
    exact ⟨this.1, by simpa using this.2⟩
  · rintro ⟨rfl, rfl⟩
    rfl
theorem Bf.push {ns Q : List (List Nat)} {k b : Nat} (h : Bf ns Q k b) {a : List Nat} (ha : Q[k]? = some a) (hc : a ++ [b] ∈ ns) : Bf ns (Q ++ [a ++ [b]]) k (b + 1) := by
  have hl := (List.getElem?_eq_some_iff.1 ha).1
  have hf := h.fresh ha hc
  have htk : (Q ++ [a ++ [b]]).take k = Q.take k := List.take_append_of_le_length (by omega)
  have hgk : ∀ j, j < Q.length → (Q ++ [a ++ [b]])[j]? = Q[j]? := fun j hj => List.getElem?_append_left hj
  refine ⟨?_, ?_, ?_, ?_, ?_, by simp; omega⟩
  · rw [List.nodup_append]
    refine ⟨h.nod, by simp, ?_⟩
    intro x hx y hy
    simp at hy
    subst hy
    exact fun e => hf (e ▸ hx)
  · intro s hs
    rcases List.mem_append.1 hs with hs | hs
    · exact h.sub s hs
    · simp at hs
      rw [hs]
      exact hc
  · rw [hgk 0 (by omega)]
    exact h.root
  · intro s c hs
    rw [htk, hgk k hl, List.mem_append, h.mem s c hs]
    simp only [List.mem_singleton, snoc_inj]
    constructor
    · rintro ((h1 | ⟨h1, h2⟩) | ⟨rfl, rfl⟩)
      · exact .inl h1
      · exact .inr ⟨h1, by omega⟩
      · exact .inr ⟨ha, by omega⟩
    · rintro (h1 | ⟨h1, h2⟩)
      · exact .inl (.inl h1)
      · by_cases e : c = b
        · rw [ha] at h1
          simp at h1
          exact .inr ⟨h1.symm, e⟩
        · exact .inl (.inr ⟨h1, by omega⟩)
  · intro i j x y hij hx hy
    have hall : ∀ z ∈ Q, z.length ≤ a.length + 1 := fun z hz => by
      rcases snoc_cases z with rfl | ⟨t, c, rfl⟩
      · simp
      · rcases (h.mem t c (h.sub _ hz)).1 hz with h1 | ⟨h1, _⟩
        · obtain ⟨m, hm, hq⟩ := take_mem h1
          have := h.srt m k t a (by omega) hq ha
          simp
          omega
        · rw [ha] at h1
          simp at h1
          rw [h1]
          simp
    by_cases hj : j < Q.length
    · rw [hgk j hj] at hy
      rw [hgk i (by omega)] at hx
      exact h.srt i j x y hij hx hy
    · have hj2 := (List.getElem?_eq_some_iff.1 hy).1
      simp at hj2
      have hje : j = Q.length := by omega
      subst hje
      simp at hy
      rw [← hy]
      by_cases hi : i < Q.length
      · rw [hgk i hi] at hx
        have := hall x (List.mem_of_getElem? hx)
        simp
        omega
      · have hi2 := (List.getElem?_eq_some_iff.1 hx).1
        simp at hi2
        have hie : i = Q.length := by omega
        subst hie
        simp at hx
        rw [← hx]
        exact Nat.le_refl _
theorem Bf.skip {ns Q : List (List Nat)} {k b : Nat} (h : Bf ns Q k b) {a : List Nat} (ha : Q[k]? = some a) (hc : a ++ [b] ∉ ns) : Bf ns Q k (b + 1) := by
  refine ⟨h.nod, h.sub, h.root, ?_, h.srt, h.kle⟩
  intro s c hs
  rw [h.mem s c hs]
  constructor
  · rintro (h1 | ⟨h1, h2⟩)
    · exact .inl h1
    · exact .inr ⟨h1, by omega⟩
  · rintro (h1 | ⟨h1, h2⟩)
    · exact .inl h1
    · by_cases e : c = b
      · rw [ha] at h1
        simp at h1
        rw [← h1, e] at hs
        exact absurd hs hc
      · exact .inr ⟨h1, by omega⟩
theorem Bf.turn {ns Q : List (List Nat)} {k : Nat} (h : Bf ns Q k 256) (hb : ∀ s c, s ++ [c] ∈ ns → c < 256) {a : List Nat} (ha : Q[k]? = some a) : Bf ns Q (k + 1) 0 := by
  have hl := (List.getElem?_eq_some_iff.1 ha).1
  refine ⟨h.nod, h.sub, h.root, ?_, h.srt, by omega⟩
  intro s c hs
  rw [h.mem s c hs]
  have ht : Q.take (k + 1) = Q.take k ++ [a] := by
    rw [List.take_add_one, ha]
    rfl
  rw [ht, List.mem_append, List.mem_singleton]
  constructor
  · rintro (h1 | ⟨h1, h2⟩)
    · exact .inl (.inl h1)
    · rw [ha] at h1
      simp at h1
      exact .inl (.inr h1.symm)
  · rintro ((h1 | h1) | ⟨_, h2⟩)
    · exact .inl h1
    · exact .inr ⟨by rw [ha, h1], hb s c hs⟩
    · omega
theorem Bf.done {ns Q : List (List Nat)} {b : Nat} (h : Bf ns Q Q.length b) (ht : Tr ns) : ∀ (m : Nat) (s : List Nat), s.length = m → s ∈ ns → s ∈ Q
  | 0, s, hm, _ => by
    have : s = [] := List.length_eq_zero_iff.1 hm
    subst this
    exact List.mem_of_getElem? h.root
  | m + 1, s, hm, hs => by
    rcases snoc_cases s with rfl | ⟨t, c, rfl⟩
    · exact List.mem_of_getElem? h.root
    · have h1 := h.done ht m t (by simpa using hm) (ht.clo t c hs)
      exact (h.mem t c hs).2 (.inl (by rw [List.take_length]; exact h1))
theorem Bf.len {ns Q : List (List Nat)} {k b : Nat} (h : Bf ns Q k b) : Q.length ≤ ns.length := by
  have : ∀ (Q ns : List (List Nat)), Q.Nodup → (∀ s ∈ Q, s ∈ ns) → Q.length ≤ ns.length := by
    intro Q
    induction Q with
    | nil => intro ns _ _; simp
    | cons x Q ih =>
      intro ns hn hs
      rw [List.nodup_cons] at hn
      have := ih (ns.erase x) hn.2 (fun s hq => by
        have hne : s ≠ x := fun e => hn.1 (e ▸ hq)
        exact (List.mem_erase_of_ne hne).2 (hs s (by simp [hq])))
      have hx : x ∈ ns := hs x (by simp)
      rw [List.length_erase_of_mem hx] at this
      have : 0 < ns.length := List.length_pos_of_mem hx
      simp
      omega
  exact this Q ns h.nod h.sub
end Mn
