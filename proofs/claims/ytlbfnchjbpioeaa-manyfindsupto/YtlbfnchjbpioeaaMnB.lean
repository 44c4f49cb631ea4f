/-
  The tables of words found at one time, as numbers. Plain facts; no program is named here.
-/
import Derived.Test.YtlbfnchjbpioeaaMnA
set_option linter.unusedVariables false
namespace Mn
def raw (ns : List (List Nat)) (i c : Nat) : Nat := ix ns (ns.getD i [] ++ [c])
def fin (ns : List (List Nat)) (i c : Nat) : Nat := ix ns (suf ns (ns.getD i [] ++ [c]))
theorem getD_app {ns : List (List Nat)} {p : List Nat} {i : Nat} (h : i < ns.length) : (ns ++ [p]).getD i [] = ns.getD i [] := by
  rw [List.getD_eq_getElem?_getD, List.getD_eq_getElem?_getD, List.getElem?_append_left h]
theorem getD_last (ns : List (List Nat)) (p : List Nat) : (ns ++ [p]).getD ns.length [] = p := by
  rw [List.getD_eq_getElem?_getD]
  simp
theorem ix_snoc (ns : List (List Nat)) (p s : List Nat) : ix (ns ++ [p]) s = if s ∈ ns then ix ns s else if s = p then ns.length else 0 := by
  unfold ix
  rw [ixo_append]
  by_cases h : s ∈ ns
  · obtain ⟨k, hk⟩ := ixo_mem h
    rw [hk, if_pos h]
  · rw [ixo_not h, if_neg h]
    by_cases e : s = p
    · subst e
      simp [ixo]
    · have e2 : ¬ p = s := fun q => e q.symm
      simp [ixo, e, e2]
theorem Tr.snoc {ns : List (List Nat)} (h : Tr ns) {s : List Nat} {c : Nat} (hs : s ∈ ns) (hn : s ++ [c] ∉ ns) : Tr (ns ++ [s ++ [c]]) := by
  refine ⟨?_, ?_, ?_⟩
  · rw [List.nodup_append]
    refine ⟨h.nod, by simp, ?_⟩
    intro x hx y hy
    simp at hy
    subst hy
    exact fun e => hn (e ▸ hx)
  · rw [List.getElem?_append_left (List.getElem?_eq_some_iff.1 h.root).1]
    exact h.root
  · intro x b hx
    rcases List.mem_append.1 hx with hx | hx
    · exact List.mem_append_left _ (h.clo x b hx)
    · simp only [List.mem_singleton, snoc_inj] at hx
      rw [hx.1]
      exact List.mem_append_left _ hs
theorem raw_snoc {ns : List (List Nat)} (h : Tr ns) {a c : Nat} (ha : a < ns.length) (hn : ns.getD a [] ++ [c] ∉ ns) {i : Nat} (hi : i < ns.length) (x : Nat) :
    raw (ns ++ [ns.getD a [] ++ [c]]) i x = if i = a ∧ x = c then ns.length else raw ns i x := by
  unfold raw
  rw [getD_app hi, ix_snoc]
  by_cases e : i = a ∧ x = c
  · obtain ⟨rfl, rfl⟩ := e
    rw [if_neg hn, if_pos rfl, if_pos ⟨rfl, rfl⟩]
  · rw [if_neg e]
    by_cases hm : ns.getD i [] ++ [x] ∈ ns
    · rw [if_pos hm]
    · rw [if_neg hm, ix_not hm, if_neg]
      rw [snoc_inj]
      rintro ⟨h1, h2⟩
      apply e
      refine ⟨?_, h2⟩
      rw [← ix_self h.nod hi, h1, ix_self h.nod ha]
theorem raw_new {ns : List (List Nat)} (h : Tr ns) {p : List Nat} (hn : p ∉ ns) (x : Nat) : raw (ns ++ [p]) ns.length x = 0 := by
  unfold raw
  rw [getD_last, ix_snoc, if_neg (fun q => hn (h.clo p x q)), if_neg]
  intro e
  have := congrArg List.length e
  simp at this
/-- the beginnings of a word, put in one by one -/
def addP (ns : List (List Nat)) (t : List Nat) : Nat → List (List Nat)
  | 0 => ns
  | k + 1 => if t.take (k + 1) ∈ addP ns t k then addP ns t k else addP ns t k ++ [t.take (k + 1)]
theorem take_snoc (t : List Nat) (k : Nat) (h : k < t.length) : t.take (k + 1) = t.take k ++ [t.getD k 0] := by
  rw [List.take_add_one, List.getD_eq_getElem?_getD, List.getElem?_eq_getElem h]
  rfl
theorem addP_tr {ns : List (List Nat)} (h : Tr ns) (t : List Nat) : ∀ k, k ≤ t.length → Tr (addP ns t k) ∧ t.take k ∈ addP ns t k
  | 0, _ => ⟨h, by rw [List.take_zero]; exact h.zero⟩
  | k + 1, hk => by
    obtain ⟨h1, h2⟩ := addP_tr h t k (by omega)
    unfold addP
    split
    · exact ⟨h1, by assumption⟩
    · rename_i e
      rw [take_snoc t k (by omega)] at e ⊢
      exact ⟨h1.snoc h2 e, by simp⟩
theorem addP_mem (ns : List (List Nat)) (t : List Nat) : ∀ k s, s ∈ addP ns t k ↔ s ∈ ns ∨ ∃ j, 1 ≤ j ∧ j ≤ k ∧ s = t.take j
  | 0, s => by
    simp only [addP]
    constructor
    · exact .inl
    · rintro (h | ⟨j, h1, h2, _⟩)
      · exact h
      · omega
  | k + 1, s => by
    unfold addP
    split
    · rename_i e
      rw [addP_mem ns t k s]
      constructor
      · rintro (h | ⟨j, h1, h2, h3⟩)
        · exact .inl h
        · exact .inr ⟨j, h1, by omega, h3⟩
      · rintro (h | ⟨j, h1, h2, h3⟩)
        · exact .inl h
        · by_cases hj : j = k + 1
          · subst hj
            rw [h3]
            exact (addP_mem ns t k _).1 e
          · exact .inr ⟨j, h1, by omega, h3⟩
    · rw [List.mem_append, addP_mem ns t k s, List.mem_singleton]
      constructor
      · rintro ((h | ⟨j, h1, h2, h3⟩) | h)
        · exact .inl h
        · exact .inr ⟨j, h1, by omega, h3⟩
        · exact .inr ⟨k + 1, by omega, by omega, h⟩
      · rintro (h | ⟨j, h1, h2, h3⟩)
        · exact .inl (.inl h)
        · by_cases hj : j = k + 1
          · subst hj
            exact .inr h3
          · exact .inl (.inr ⟨j, h1, by omega, h3⟩)
theorem addP_len (ns : List (List Nat)) (t : List Nat) : ∀ k, ns.length ≤ (addP ns t k).length ∧ (addP ns t k).length ≤ ns.length + k
  | 0 => by simp [addP]
  | k + 1 => by
    have := addP_len ns t k
    unfold addP
    split
    · omega
    · simp
      omega
theorem addP_in (ns : List (List Nat)) (t : List Nat) (k : Nat) (hk : k < t.length) : t.take (k + 1) ∈ addP ns t k ↔ t.take (k + 1) ∈ ns := by
  rw [addP_mem]
  constructor
  · rintro (h | ⟨j, h1, h2, h3⟩)
    · exact h
    · have := congrArg List.length h3
      simp at this
      omega
  · exact .inl
def nsOf (W : List (List Nat)) : List (List Nat) := W.foldl (fun ns t => addP ns t t.length) [[]]
theorem nsOf_snoc (W : List (List Nat)) (t : List Nat) : nsOf (W ++ [t]) = addP (nsOf W) t t.length := by simp [nsOf, List.foldl_append]
theorem snoc_ind {p : List (List Nat) → Prop} (h0 : p []) (hs : ∀ W t, p W → p (W ++ [t])) : ∀ W, p W := fun W => by
  have : ∀ n W, W.length = n → p W := by
    intro n
    induction n with
    | zero =>
      intro W hW
      rw [List.length_eq_zero_iff.1 hW]
      exact h0
    | succ n ih =>
      intro W hW
      rcases List.eq_nil_or_concat W with rfl | ⟨V, t, rfl⟩
      · simp at hW
      · rw [List.concat_eq_append]
        exact hs V t (ih V (by simpa using hW))
  exact this _ W rfl
theorem nsOf_tr : ∀ W, Tr (nsOf W) := snoc_ind Tr.one fun W t h => by
  rw [nsOf_snoc]
  exact (addP_tr h t t.length (Nat.le_refl _)).1
theorem nsOf_mem : ∀ W s, s ∈ nsOf W ↔ s = [] ∨ ∃ x ∈ W, s <+: x := by
  refine snoc_ind (p := fun W => ∀ s, s ∈ nsOf W ↔ s = [] ∨ ∃ x ∈ W, s <+: x) ?_ ?_
  · intro s
    simp [nsOf]
  · intro W t ih s
    rw [nsOf_snoc, addP_mem, ih s]
    constructor
    · rintro ((h | ⟨x, h1, h2⟩) | ⟨j, h1, h2, h3⟩)
      · exact .inl h
      · exact .inr ⟨x, by simp [h1], h2⟩
      · exact .inr ⟨t, by simp, by rw [h3]; exact List.take_prefix _ _⟩
    · rintro (h | ⟨x, h1, h2⟩)
      · exact .inl (.inl h)
      · rcases List.mem_append.1 h1 with h1 | h1
        · exact .inl (.inr ⟨x, h1, h2⟩)
        · simp at h1
          subst h1
          by_cases h0 : s = []
          · exact .inl (.inl h0)
          · refine .inr ⟨s.length, ?_, h2.length_le, List.prefix_iff_eq_take.1 h2⟩
            rcases Nat.eq_zero_or_pos s.length with h | h
            · exact absurd (List.length_eq_zero_iff.1 h) h0
            · exact h
theorem nsOf_len (m : Nat) : ∀ W, (∀ x ∈ W, x.length ≤ m) → (nsOf W).length ≤ 1 + W.length * m := by
  refine snoc_ind (p := fun W => (∀ x ∈ W, x.length ≤ m) → (nsOf W).length ≤ 1 + W.length * m) ?_ ?_
  · intro _
    simp [nsOf]
  · intro W t ih h
    have h1 := ih (fun x hx => h x (by simp [hx]))
    have h2 := addP_len (nsOf W) t t.length
    have h3 := h t (by simp)
    rw [nsOf_snoc]
    simp only [List.length_append, List.length_singleton, Nat.add_mul, Nat.one_mul]
    omega
theorem nsOf_pos (W : List (List Nat)) : 1 ≤ (nsOf W).length := List.length_pos_of_mem (nsOf_tr W).zero
theorem ixw_snoc (W : List (List Nat)) (t s : List Nat) : ixw (W ++ [t]) s = if s ∈ W then ixw W s else if s = t then (W.length : Int) else -1 := by
  unfold ixw
  rw [ixo_append]
  by_cases h : s ∈ W
  · obtain ⟨k, hk⟩ := ixo_mem h
    rw [hk, if_pos h]
  · rw [ixo_not h, if_neg h]
    by_cases e : s = t
    · subst e
      simp [ixo]
    · have e2 : ¬ t = s := fun q => e q.symm
      simp [ixo, e, e2]
/-- the tables in the midst of the going over -/
def nxQ (ns Q : List (List Nat)) (k b i c : Nat) : Nat := if ns.getD i [] ∈ Q.take k ∨ (Q[k]? = some (ns.getD i []) ∧ c < b) then fin ns i c else raw ns i c
def wdQ (ns W Q : List (List Nat)) (i : Nat) : Int := if ns.getD i [] ∈ Q then lw W (ns.getD i []) else ixw W (ns.getD i [])
def shQ (W Q : List (List Nat)) (j : Nat) : Int := if W.getD j [] ∈ Q then lw W (W.getD j []).tail else -1
def tlQ (ns Q : List (List Nat)) (i : Nat) : Nat := if ns.getD i [] ∈ Q then ix ns (suf ns (ns.getD i []).tail) else 0
/-- the tail of the beginning that comes, or where it goes on -/
def gq (ns : List (List Nat)) (a : List Nat) (b : Nat) : List Nat := if a = [] then [] else suf ns (suf ns a.tail ++ [b])
section
variable {ns W Q : List (List Nat)} {k b : Nat} {a : List Nat}
theorem gq_mem (ht : Tr ns) : gq ns a b ∈ ns := by
  unfold gq
  split
  · exact ht.zero
  · exact suf_mem ht.zero _
theorem gq_len : (gq ns a b).length ≤ a.length := by
  unfold gq
  split
  · simp
  · rename_i h
    have h1 := suf_len ns (suf ns a.tail ++ [b])
    have h2 := suf_len ns a.tail
    have h3 : a.length ≠ 0 := fun e => h (List.length_eq_zero_iff.1 e)
    simp at h1 h2
    omega
theorem gq_child (ht : Tr ns) : gq ns a b = suf ns (a ++ [b]).tail := by
  unfold gq
  split
  · rename_i h
    subst h
    rfl
  · rename_i h
    exact (suf_tail ht a b h).symm
theorem gq_skip (ht : Tr ns) (hn : a ++ [b] ∉ ns) : gq ns a b = suf ns (a ++ [b]) := by
  unfold gq
  split
  · rename_i h
    subst h
    simp only [List.nil_append] at hn ⊢
    rw [suf, if_neg hn]
    rfl
  · rename_i h
    exact (suf_skip ht a b h hn).symm
theorem nxQ_raw (hb : Bf ns Q k b) (ha : Q[k]? = some a) : nxQ ns Q k b (ix ns a) b = ix ns (a ++ [b]) := by
  have hm := hb.sub a (List.mem_of_getElem? ha)
  unfold nxQ
  rw [ix_getD hm, if_neg]
  · rw [raw, ix_getD hm]
  · rintro (h | ⟨_, h⟩)
    · exact hb.notyet ha h
    · omega
theorem tlQ_at (hb : Bf ns Q k b) (ha : Q[k]? = some a) : tlQ ns Q (ix ns a) = ix ns (suf ns a.tail) := by
  have hq := List.mem_of_getElem? ha
  unfold tlQ
  rw [ix_getD (hb.sub a hq), if_pos hq]
theorem nxQ_tail (ht : Tr ns) (hb : Bf ns Q k b) (ha : Q[k]? = some a) (h0 : a ≠ []) : nxQ ns Q k b (ix ns (suf ns a.tail)) b = ix ns (gq ns a b) := by
  have hm := suf_mem ht.zero a.tail
  have hl := suf_len ns a.tail
  have h3 : a.length ≠ 0 := fun e => h0 (List.length_eq_zero_iff.1 e)
  unfold nxQ
  rw [ix_getD hm, if_pos (.inl (hb.short ht ha _ _ rfl hm (by simp at hl; omega))), fin, ix_getD hm, gq, if_neg h0]
theorem wdQ_at (ht : Tr ns) (hb : Bf ns Q k b) (ha : Q[k]? = some a) : wdQ ns W Q (ix ns (gq ns a b)) = lw W (gq ns a b) := by
  unfold wdQ
  rw [ix_getD (gq_mem ht), if_pos (hb.same ht ha _ (gq_mem ht) gq_len)]
theorem nxQ_skip (ht : Tr ns) (hb : Bf ns Q k b) (ha : Q[k]? = some a) (hn : a ++ [b] ∉ ns) {i : Nat} (hi : i < ns.length) (c : Nat) : nxQ ns Q k (b + 1) i c = if i = ix ns a ∧ c = b then ix ns (gq ns a b) else nxQ ns Q k b i c := by
  have hm := hb.sub a (List.mem_of_getElem? ha)
  by_cases e : i = ix ns a ∧ c = b
  · obtain ⟨rfl, rfl⟩ := e
    rw [if_pos ⟨rfl, rfl⟩]
    unfold nxQ
    rw [ix_getD hm, if_pos (.inr ⟨ha, by omega⟩), fin, ix_getD hm, gq_skip ht hn]
  · rw [if_neg e]
    unfold nxQ
    have : (Q[k]? = some (ns.getD i []) ∧ c < b + 1) ↔ (Q[k]? = some (ns.getD i []) ∧ c < b) := by
      constructor
      · rintro ⟨h1, h2⟩
        refine ⟨h1, ?_⟩
        rcases Nat.lt_or_ge c b with h | h
        · exact h
        · exfalso
          apply e
          rw [ha] at h1
          simp only [Option.some.injEq] at h1
          exact ⟨by rw [h1, ix_self ht.nod hi], by omega⟩
      · rintro ⟨h1, h2⟩
        exact ⟨h1, by omega⟩
    simp only [this]
theorem nxQ_push (ht : Tr ns) (hb : Bf ns Q k b) (ha : Q[k]? = some a) (hc : a ++ [b] ∈ ns) {i : Nat} (hi : i < ns.length) (c : Nat) : nxQ ns (Q ++ [a ++ [b]]) k (b + 1) i c = nxQ ns Q k b i c := by
  have hm := hb.sub a (List.mem_of_getElem? ha)
  have hl := (List.getElem?_eq_some_iff.1 ha).1
  unfold nxQ
  rw [List.take_append_of_le_length (by omega), List.getElem?_append_left hl]
  by_cases e : ns.getD i [] ∈ Q.take k ∨ (Q[k]? = some (ns.getD i []) ∧ c < b)
  · rw [if_pos e, if_pos]
    rcases e with h | ⟨h1, h2⟩
    · exact .inl h
    · exact .inr ⟨h1, by omega⟩
  · rw [if_neg e]
    split
    · rename_i h
      rcases h with h | ⟨h1, h2⟩
      · exact absurd (.inl h) e
      · have hcb : c = b := by
          rcases Nat.lt_or_ge c b with h | h
          · exact absurd (.inr ⟨h1, h⟩) e
          · omega
        rw [ha] at h1
        simp only [Option.some.injEq] at h1
        unfold fin raw
        rw [← h1, hcb, suf_self hc]
    · rfl
theorem tlQ_push (ht : Tr ns) (hb : Bf ns Q k b) (ha : Q[k]? = some a) (hc : a ++ [b] ∈ ns) {i : Nat} (hi : i < ns.length) : tlQ ns (Q ++ [a ++ [b]]) i = if i = ix ns (a ++ [b]) then ix ns (gq ns a b) else tlQ ns Q i := by
  unfold tlQ
  by_cases e : i = ix ns (a ++ [b])
  · subst e
    rw [ix_getD hc, if_pos (by simp), if_pos rfl, gq_child ht]
  · rw [if_neg e]
    have : ns.getD i [] ∈ Q ++ [a ++ [b]] ↔ ns.getD i [] ∈ Q := by
      rw [List.mem_append, List.mem_singleton]
      constructor
      · rintro (h | h)
        · exact h
        · exact absurd (by rw [← h, ix_self ht.nod hi]) e
      · exact .inl
    simp only [this]
theorem wdQ_own (hb : Bf ns Q k b) (ha : Q[k]? = some a) (hc : a ++ [b] ∈ ns) : wdQ ns W Q (ix ns (a ++ [b])) = ixw W (a ++ [b]) := by
  unfold wdQ
  rw [ix_getD hc, if_neg (hb.fresh ha hc)]
theorem wdQ_push (ht : Tr ns) (hW : ∀ x ∈ W, x ∈ ns) (hb : Bf ns Q k b) (ha : Q[k]? = some a) (hc : a ++ [b] ∈ ns) {i : Nat} (hi : i < ns.length) : wdQ ns W (Q ++ [a ++ [b]]) i = if i = ix ns (a ++ [b]) ∧ a ++ [b] ∉ W then lw W (gq ns a b) else wdQ ns W Q i := by
  have h0 : a ++ [b] ≠ [] := by simp
  by_cases e : i = ix ns (a ++ [b])
  · subst e
    by_cases hw : a ++ [b] ∈ W
    · rw [if_neg (fun h => h.2 hw), wdQ_own hb ha hc]
      unfold wdQ
      rw [ix_getD hc, if_pos (by simp), lw_word hw h0]
    · rw [if_pos ⟨rfl, hw⟩]
      unfold wdQ
      rw [ix_getD hc, if_pos (by simp), lw_not hw h0, gq_child ht, lw_suf hW]
  · rw [if_neg (fun h => e h.1)]
    unfold wdQ
    have : ns.getD i [] ∈ Q ++ [a ++ [b]] ↔ ns.getD i [] ∈ Q := by
      rw [List.mem_append, List.mem_singleton]
      constructor
      · rintro (h | h)
        · exact h
        · exact absurd (by rw [← h, ix_self ht.nod hi]) e
      · exact .inl
    simp only [this]
theorem shQ_push (ht : Tr ns) (hWn : W.Nodup) (hW : ∀ x ∈ W, x ∈ ns) {j : Nat} (hj : j < W.length) : shQ W (Q ++ [a ++ [b]]) j = if ixw W (a ++ [b]) = (j : Int) then lw W (gq ns a b) else shQ W Q j := by
  have hjm : W[j]? = some (W.getD j []) := by rw [List.getD_eq_getElem?_getD, List.getElem?_eq_getElem hj]; rfl
  by_cases e : W.getD j [] = a ++ [b]
  · have h1 : ixw W (a ++ [b]) = (j : Int) := by rw [ixw, ← e, ixo_get W _ j hWn hjm]
    rw [if_pos h1]
    unfold shQ
    rw [e, if_pos (by simp), gq_child ht, lw_suf hW]
  · have h1 : ixw W (a ++ [b]) ≠ (j : Int) := fun h => by
      by_cases hw : a ++ [b] ∈ W
      · obtain ⟨q, h2, h3, _⟩ := ixw_mem hw
        rw [h2] at h
        have : q = j := by omega
        subst this
        rw [h3] at hjm
        simp only [Option.some.injEq] at hjm
        exact e hjm.symm
      · rw [ixw_not hw] at h
        omega
    rw [if_neg h1]
    unfold shQ
    have : W.getD j [] ∈ Q ++ [a ++ [b]] ↔ W.getD j [] ∈ Q := by
      rw [List.mem_append, List.mem_singleton]
      constructor
      · rintro (h | h)
        · exact h
        · exact absurd h e
      · exact .inl
    simp only [this]
theorem nxQ_turn (ha : Q[k]? = some a) (i c : Nat) (hc : c < 256) : nxQ ns Q (k + 1) 0 i c = nxQ ns Q k 256 i c := by
  have ht : Q.take (k + 1) = Q.take k ++ [a] := by
    rw [List.take_add_one, ha]
    rfl
  unfold nxQ
  have : (ns.getD i [] ∈ Q.take (k + 1) ∨ (Q[k + 1]? = some (ns.getD i []) ∧ c < 0)) ↔ (ns.getD i [] ∈ Q.take k ∨ (Q[k]? = some (ns.getD i []) ∧ c < 256)) := by
    rw [ht, List.mem_append, List.mem_singleton, ha]
    constructor
    · rintro ((h | h) | ⟨_, h⟩)
      · exact .inl h
      · exact .inr ⟨by rw [h], hc⟩
      · omega
    · rintro (h | ⟨h, _⟩)
      · exact .inl (.inl h)
      · simp only [Option.some.injEq] at h
        exact .inl (.inr h.symm)
  simp only [this]
theorem nxQ_start (i c : Nat) : nxQ ns [[]] 0 0 i c = raw ns i c := by
  unfold nxQ
  rw [if_neg]
  rintro (h | ⟨_, h⟩)
  · simp at h
  · omega
theorem wdQ_start (h0 : [] ∉ W) (i : Nat) : wdQ ns W [[]] i = ixw W (ns.getD i []) := by
  unfold wdQ
  split
  · rename_i h
    simp only [List.mem_singleton] at h
    rw [h, ixw_not h0]
    rfl
  · rfl
theorem shQ_start (h0 : [] ∉ W) (j : Nat) (hj : j < W.length) : shQ W [[]] j = -1 := by
  unfold shQ
  rw [if_neg]
  intro h
  simp only [List.mem_singleton] at h
  exact h0 (h ▸ getD_mem hj)
theorem tlQ_start (ht : Tr ns) (i : Nat) : tlQ ns [[]] i = 0 := by
  unfold tlQ
  split
  · rename_i h
    simp only [List.mem_singleton] at h
    rw [h]
    exact ht.ix0
  · rfl
theorem nxQ_done (ht : Tr ns) (hb : Bf ns Q Q.length 0) {i : Nat} (hi : i < ns.length) (c : Nat) : nxQ ns Q Q.length 0 i c = fin ns i c := by
  unfold nxQ
  rw [if_pos (.inl (by rw [List.take_length]; exact hb.done ht _ _ rfl (getD_mem hi)))]
theorem wdQ_done (ht : Tr ns) (hb : Bf ns Q Q.length 0) {i : Nat} (hi : i < ns.length) : wdQ ns W Q i = lw W (ns.getD i []) := by
  unfold wdQ
  rw [if_pos (hb.done ht _ _ rfl (getD_mem hi))]
theorem shQ_done (ht : Tr ns) (hW : ∀ x ∈ W, x ∈ ns) (hb : Bf ns Q Q.length 0) {j : Nat} (hj : j < W.length) : shQ W Q j = lw W (W.getD j []).tail := by
  unfold shQ
  rw [if_pos (hb.done ht _ _ rfl (hW _ (getD_mem hj)))]
end
end Mn
