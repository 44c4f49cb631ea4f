/-
  The words of a set in another order; a text in another case. Conditions: as each says.
-/
import Derived.Test.YtlejfeapnnioeaaKpt
namespace Mn
theorem sub_len : ∀ (l m : List (List Nat)), l.Nodup → (∀ x ∈ l, x ∈ m) → l.length ≤ m.length
  | [], m, _, _ => by simp
  | a :: l, m, hn, h => by
    rw [List.nodup_cons] at hn
    have h1 := sub_len l (m.erase a) hn.2 (fun x hx => by
      have hxa : x ≠ a := fun e => hn.1 (e ▸ hx)
      exact (List.mem_erase_of_ne hxa).2 (h x (by simp [hx])))
    have h2 := List.length_erase_of_mem (h a (by simp))
    have h3 := List.length_pos_of_mem (h a (by simp))
    simp
    omega
theorem ns_perm {W W' : List (List Nat)} (h : ∀ x, x ∈ W ↔ x ∈ W') : (nsOf W).length = (nsOf W').length := by
  have hm : ∀ s, s ∈ nsOf W ↔ s ∈ nsOf W' := by
    intro s
    rw [nsOf_mem, nsOf_mem]
    constructor
    · rintro (e | ⟨x, hx, hp⟩)
      · exact .inl e
      · exact .inr ⟨x, (h x).1 hx, hp⟩
    · rintro (e | ⟨x, hx, hp⟩)
      · exact .inl e
      · exact .inr ⟨x, (h x).2 hx, hp⟩
  exact Nat.le_antisymm (sub_len _ _ (nsOf_tr W).nod (fun x hx => (hm x).1 hx)) (sub_len _ _ (nsOf_tr W').nod (fun x hx => (hm x).2 hx))
/-- some of the words, in an order of their own -/
def ord (L : List ByteArray) (is : List Nat) : List ByteArray := is.map fun i => L.getD i ByteArray.empty
theorem ord_len (L : List ByteArray) (is : List Nat) : (ord L is).length = is.length := by simp [ord]
theorem ord_snoc (L : List ByteArray) (is : List Nat) (k : Nat) : ord L (is ++ [k]) = ord L is ++ [L.getD k ByteArray.empty] := by simp [ord]
theorem ord_get (L : List ByteArray) (is : List Nat) (j : Nat) (hj : j < is.length) : (ord L is).getD j ByteArray.empty = L.getD (is.getD j 0) ByteArray.empty := by
  unfold ord
  rw [List.getD_eq_getElem?_getD, List.getElem?_map, List.getElem?_eq_getElem hj, List.getD_eq_getElem?_getD (l := is), List.getElem?_eq_getElem hj]
  rfl
theorem getD_inj {L : List ByteArray} (hn : L.Nodup) {i j : Nat} (hi : i < L.length) (hj : j < L.length) (h : L.getD i ByteArray.empty = L.getD j ByteArray.empty) : i = j := by
  rw [List.getD_eq_getElem?_getD, List.getD_eq_getElem?_getD, List.getElem?_eq_getElem hi, List.getElem?_eq_getElem hj] at h
  exact (List.getElem_inj hn).1 h
theorem mem_getD {L : List ByteArray} {i : Nat} (hi : i < L.length) : L.getD i ByteArray.empty ∈ L := by
  rw [List.getD_eq_getElem?_getD, List.getElem?_eq_getElem hi]
  exact List.getElem_mem _
theorem sub_lenN : ∀ (l m : List Nat), l.Nodup → (∀ x ∈ l, x ∈ m) → l.length ≤ m.length
  | [], m, _, _ => by simp
  | a :: l, m, hn, h => by
    rw [List.nodup_cons] at hn
    have h1 := sub_lenN l (m.erase a) hn.2 (fun x hx => by
      have hxa : x ≠ a := fun e => hn.1 (e ▸ hx)
      exact (List.mem_erase_of_ne hxa).2 (h x (by simp [hx])))
    have h2 := List.length_erase_of_mem (h a (by simp))
    have h3 := List.length_pos_of_mem (h a (by simp))
    simp
    omega
/-- an order of words: none twice, each there -/
structure Ord (m : Nat) (is : List Nat) : Prop where
  nod : is.Nodup
  lt : ∀ x ∈ is, x < m
theorem Ord.len {m : Nat} {is : List Nat} (h : Ord m is) : is.length ≤ m := nodup_len m is h.nod h.lt
theorem Ord.snoc {m : Nat} {is : List Nat} (h : Ord m is) {k : Nat} (hk : k < m) (hn : k ∉ is) : Ord m (is ++ [k]) := by
  refine ⟨?_, fun x hx => ?_⟩
  · rw [List.nodup_append]
    refine ⟨h.nod, by simp, fun a ha b hb => ?_⟩
    simp at hb
    subst hb
    exact fun e => hn (e ▸ ha)
  · rcases List.mem_append.1 hx with hx | hx
    · exact h.lt x hx
    · simp at hx
      omega
theorem Ord.free {m : Nat} {is : List Nat} (_h : Ord m is) (hl : is.length < m) : ∃ i, i < m ∧ i ∉ is := by
  by_cases h1 : ∃ i, i < m ∧ i ∉ is
  · exact h1
  · exfalso
    have h2 : ∀ i, i < m → i ∈ is := fun i hi => by
      by_cases h3 : i ∈ is
      · exact h3
      · exact absurd ⟨i, hi, h3⟩ h1
    have h3 := sub_lenN (List.range m) is List.nodup_range (fun x hx => h2 x (List.mem_range.1 hx))
    rw [List.length_range] at h3
    omega
theorem Ord.all {m : Nat} {is : List Nat} (h : Ord m is) (hl : is.length = m) {i : Nat} (hi : i < m) : i ∈ is := by
  by_cases h1 : i ∈ is
  · exact h1
  · have := (h.snoc hi h1).len
    rw [List.length_append, List.length_singleton] at this
    omega
theorem Fit.ord {fold : Bool} {L : List ByteArray} (h : Fit fold L) {is : List Nat} (ho : Ord L.length is) : Fit fold (ord L is) := by
  have hm : ∀ x, x ∈ Mn.ord L is → x ∈ L := by
    intro x hx
    obtain ⟨i, h1, rfl⟩ := List.mem_map.1 hx
    exact mem_getD (ho.lt i h1)
  refine ⟨by rw [ord_len]; have := ho.len; have := h.len; omega, fun x hx => h.siz x (hm x hx), fun x hx => h.small x (hm x hx), ?_⟩
  unfold Mn.ord
  unfold List.Nodup
  rw [List.pairwise_map]
  refine (List.pairwise_iff_forall_sublist.2 fun {a b} hs => ?_)
  have hn := List.Pairwise.sublist hs ho.nod
  have ha : a ∈ is := hs.subset (by simp)
  have hb : b ∈ is := hs.subset (by simp)
  intro e
  have := getD_inj h.nod (ho.lt a ha) (ho.lt b hb) e
  simp at hn
  exact hn this
/-- where a word stands now -/
def plF (is : List Nat) (i : Nat) : Nat := if i ∈ is then is.idxOf i else 0
theorem plF_snoc {is : List Nat} {k : Nat} (hk : k ∉ is) (i : Nat) : plF (is ++ [k]) i = if i = k then is.length else plF is i := by
  unfold plF
  by_cases e : i = k
  · subst e
    rw [if_pos rfl, if_pos (by simp), List.idxOf_append, if_neg hk]
    simp
  · rw [if_neg e]
    by_cases h : i ∈ is
    · rw [if_pos (by simp [h]), if_pos h, List.idxOf_append, if_pos h]
    · rw [if_neg (by simp [h, e]), if_neg h]
theorem plF_at {m : Nat} {is : List Nat} (h : Ord m is) (hl : is.length = m) {i : Nat} (hi : i < m) : plF is i < m ∧ is.getD (plF is i) 0 = i := by
  have hm := h.all hl hi
  unfold plF
  rw [if_pos hm]
  have h1 := List.idxOf_lt_length_of_mem hm
  refine ⟨by omega, ?_⟩
  rw [List.getD_eq_getElem?_getD, List.getElem?_eq_getElem h1]
  exact List.getElem_idxOf h1
/-- in whatever order, the same places -/
theorem plc_ord {fold : Bool} {L : List ByteArray} (h : Fit fold L) {is : List Nat} (ho : Ord L.length is) (hl : is.length = L.length) (h0 : 0 < L.length) (T : List Nat) {i : Nat} (hi : i < L.length) : plc (allF (wds fold (ord L is)) T) (plF is i) = plc (allF (wds fold L) T) i := by
  have hf := h.ord ho
  obtain ⟨h1, h2⟩ := plF_at ho hl hi
  have hn := (h.good h0).nodup
  have hn2 := (hf.good (by rw [ord_len]; omega)).nodup
  have hg := wds_get fold L i hi
  have hg2 := wds_get fold (ord L is) (plF is i) (by rw [ord_len]; omega)
  rw [ord_get L is _ (by omega), h2] at hg2
  have hne : Sums.bl (fd fold (L.getD i ByteArray.empty)) ≠ [] := fun e => by
    have := congrArg List.length e
    rw [Sums.bl_length, fd_size, List.length_nil] at this
    have := (h.siz _ (mem_getD hi)).1
    omega
  rw [plc_allF hn T hg hne, plc_allF hn2 T hg2 hne]
theorem ns_ord {fold : Bool} {L : List ByteArray} {is : List Nat} (ho : Ord L.length is) (hl : is.length = L.length) : (nsOf (wds fold (ord L is))).length = (nsOf (wds fold L)).length := by
  refine ns_perm fun x => ?_
  rw [mem_wds, mem_wds]
  constructor
  · rintro ⟨y, hy, e⟩
    obtain ⟨i, h1, rfl⟩ := List.mem_map.1 hy
    exact ⟨_, mem_getD (ho.lt i h1), e⟩
  · rintro ⟨y, hy, e⟩
    obtain ⟨i, h1, rfl⟩ := List.mem_iff_getElem.1 hy
    refine ⟨_, List.mem_map.2 ⟨i, ho.all hl h1, rfl⟩, ?_⟩
    rw [List.getD_eq_getElem?_getD, List.getElem?_eq_getElem h1]
    exact e
/-- is the k-th word among those that are there? -/
def usedK (L : List ByteArray) (is : List Nat) (k j : Nat) : Bool := (is.take j).any fun i => decide (L.getD i ByteArray.empty = L.getD k ByteArray.empty)
theorem usedK_next (L : List ByteArray) (is : List Nat) (k j : Nat) (hj : j < is.length) : usedK L is k (j + 1) = (usedK L is k j || decide (L.getD (is.getD j 0) ByteArray.empty = L.getD k ByteArray.empty)) := by
  unfold usedK
  rw [List.take_add_one, List.getElem?_eq_getElem hj, List.any_append, List.getD_eq_getElem?_getD (l := is), List.getElem?_eq_getElem hj]
  simp
theorem usedK_iff {L : List ByteArray} (hn : L.Nodup) {is : List Nat} (ho : Ord L.length is) {k : Nat} (hk : k < L.length) : usedK L is k is.length = decide (k ∈ is) := by
  unfold usedK
  rw [List.take_length]
  by_cases h : k ∈ is
  · rw [decide_eq_true h, List.any_eq_true]
    exact ⟨k, h, decide_eq_true rfl⟩
  · rw [decide_eq_false h, List.any_eq_false]
    intro x hx e
    have := getD_inj hn (ho.lt x hx) hk (of_decide_eq_true e)
    exact h (this ▸ hx)
end Mn
