/-
  A word more in a set. Conditions: as each says.
-/
import Derived.Test.YtlejfeapnnioeaaDoorKpt
import Derived.Test.YtlejfeapnnioeaaDoorWordsE
namespace Mn
theorem cut_same {x : ByteArray} (h : x.size ≤ 40) : cut40 x = x := by
  unfold cut40
  rw [if_neg (by omega)]
/-- what fits already is left as it is -/
theorem fitK_self {fold : Bool} {L : List ByteArray} (h : Fit fold L) (M : List ByteArray) : ∀ i, i ≤ L.length → fitK fold (L ++ M) i = L.take i
  | 0, _ => by simp [fitK]
  | i + 1, hi => by
    rw [fitK_next fold (L ++ M) i (by simp; omega), fitK_self h M i (by omega)]
    have hg : (L ++ M).getD i ByteArray.empty = L[i]'(by omega) := by
      rw [List.getD_eq_getElem?_getD, List.getElem?_append_left (by omega), List.getElem?_eq_getElem (by omega)]
      rfl
    have hm : L[i]'(by omega) ∈ L := List.getElem_mem _
    have hz := h.siz _ hm
    have hfw : fw fold (L[i]'(by omega)) = L[i]'(by omega) := by
      unfold fw
      rw [cut_same hz.2, h.small _ hm]
    have hl := h.len
    unfold fitS
    rw [hg, hfw, if_pos (by rw [List.length_take]; omega), if_pos, List.take_add_one, List.getElem?_eq_getElem (by omega)]
    · rfl
    · unfold fresh
      rw [Bool.and_eq_true, List.take_length, List.all_eq_true]
      refine ⟨decide_eq_true (fun e => ?_), fun y hy => decide_eq_true (fun e => ?_)⟩
      · have := congrArg ByteArray.size e
        rw [show ByteArray.empty.size = 0 from rfl] at this
        omega
      · subst e
        have hn := h.nod
        rw [← List.take_append_drop i L, List.nodup_append] at hn
        refine hn.2.2 _ hy (L[i]'(by omega)) ?_ rfl
        exact (List.drop_eq_getElem_cons (show i < L.length by omega)) ▸ List.mem_cons_self
theorem fitL_more {fold : Bool} {L : List ByteArray} (h : Fit fold L) (h0 : 0 < L.length) (y : ByteArray) : fitL fold (L ++ [y]) = L ∨ ∃ z, fitL fold (L ++ [y]) = L ++ [z] := by
  have h1 : fitK fold (L ++ [y]) (L ++ [y]).length = fitS fold L y := by
    rw [List.length_append, List.length_singleton, fitK_next fold (L ++ [y]) L.length (by simp), fitK_self h [y] L.length (Nat.le_refl _), List.take_length]
    congr 1
    rw [List.getD_eq_getElem?_getD, List.getElem?_append_right (Nat.le_refl _)]
    simp
  unfold fitL
  rw [h1]
  unfold fitS
  by_cases h2 : L.length < 30
  · rw [if_pos h2]
    by_cases h3 : fresh L (fw fold y) L.length = true
    · rw [if_pos h3, if_neg (by simp)]
      exact .inr ⟨_, rfl⟩
    · rw [if_neg h3, if_neg (by omega)]
      exact .inl rfl
  · rw [if_neg h2, if_neg (by omega)]
    exact .inl rfl
theorem wds_snoc (fold : Bool) (L : List ByteArray) (z : ByteArray) : wds fold (L ++ [z]) = wds fold L ++ [Sums.bl (fd fold z)] := by simp [wds]
theorem tr_take {ns : List (List Nat)} (h : Tr ns) (t : List Nat) (ht : t ∈ ns) : ∀ d j, j + d = t.length → t.take j ∈ ns
  | 0, j, e => by
    rw [List.take_of_length_le (by omega)]
    exact ht
  | d + 1, j, e => by
    have h1 := tr_take h t ht d (j + 1) (by omega)
    rw [take_snoc t j (by omega)] at h1
    exact h.clo _ _ h1
theorem addP_same {ns : List (List Nat)} (h : Tr ns) (t : List Nat) (ht : t ∈ ns) : ∀ k, k ≤ t.length → addP ns t k = ns
  | 0, _ => rfl
  | k + 1, hk => by
    rw [addP, addP_same h t ht k (by omega), if_pos (tr_take h t ht (t.length - (k + 1)) (k + 1) (by omega))]
/-- how many beginnings a word more makes -/
theorem more_ns (W : List (List Nat)) (t : List Nat) (h0 : t ≠ []) : (nsOf W).length ≤ (nsOf (W ++ [t])).length ∧ (nsOf (W ++ [t])).length ≤ (nsOf W).length + t.length ∧ ((nsOf (W ++ [t])).length = (nsOf W).length ↔ ∃ x ∈ W, t <+: x) := by
  rw [nsOf_snoc]
  obtain ⟨h1, h2⟩ := addP_len (nsOf W) t t.length
  refine ⟨h1, h2, ?_⟩
  have hmem : t ∈ nsOf W ↔ ∃ x ∈ W, t <+: x := by
    rw [nsOf_mem]
    constructor
    · rintro (h | h)
      · exact absurd h h0
      · exact h
    · exact .inr
  rw [← hmem]
  constructor
  · intro e
    by_cases h : t ∈ nsOf W
    · exact h
    · exfalso
      obtain ⟨k, hk⟩ : ∃ k, t.length = k + 1 := ⟨t.length - 1, by have := List.length_pos_iff.2 h0; omega⟩
      rw [hk, addP] at e
      have hin := addP_in (nsOf W) t k (by omega)
      have ht : t.take (k + 1) = t := List.take_of_length_le (by omega)
      rw [ht] at hin e
      rw [if_neg (fun q => h (hin.1 q)), List.length_append, List.length_singleton] at e
      have := (addP_len (nsOf W) t k).1
      omega
  · intro h
    rw [addP_same (nsOf_tr W) t h t.length (Nat.le_refl _)]
theorem ns_two {W : List (List Nat)} {x : List Nat} (h : x ∈ W) (h0 : x ≠ []) : 2 ≤ (nsOf W).length := by
  have h1 := (nsOf_mem W []).2 (.inl rfl)
  have h2 := (nsOf_mem W x).2 (.inr ⟨x, h, List.prefix_refl x⟩)
  rcases Nat.lt_or_ge 1 (nsOf W).length with h3 | h3
  · exact h3
  · exfalso
    match e : nsOf W, h1, h2, h3 with
    | [], h1, _, _ => simp at h1
    | [a], h1, h2, _ =>
      simp at h1 h2
      rw [h1] at h2
      exact h0 h2
    | a :: b :: l, _, _, h3 => simp at h3
theorem bt_blK (s : ByteArray) (i : Nat) (h : i < s.size) : (Sums.bl s)[i]? = some (Swar.bt s i) := by
  have h1 := Sums.bl_get s i h
  rw [List.getD_eq_getElem?_getD, List.getElem?_eq_getElem (by rw [Sums.bl_length]; exact h), Option.getD_some] at h1
  rw [List.getElem?_eq_getElem (by rw [Sums.bl_length]; exact h), h1]
  unfold Swar.bt
  rw [dif_pos h]
/-- what two have in common is the whole second, just if the first begins with it -/
theorem com_all (a b : ByteArray) : Swar.comL a b = b.size ↔ Sums.bl b <+: Sums.bl a := by
  have hs := Swar.far_spec (fun p => Swar.bt a p == Swar.bt b p) (min a.size b.size) 0
  have hle := Swar.com_le a b
  constructor
  · intro e
    have hb : b.size ≤ a.size := by omega
    rw [List.prefix_iff_eq_take, Sums.bl_length]
    apply List.ext_getElem?
    intro i
    by_cases hi : i < b.size
    · have heq : Swar.bt a i = Swar.bt b i := by
        have h1 := hs.2.2.1 i (by omega) (by unfold Swar.comL at e; omega)
        simpa using h1
      rw [List.getElem?_take, if_pos hi, bt_blK a i (by omega), bt_blK b i hi, heq]
    · rw [List.getElem?_eq_none (by rw [Sums.bl_length]; omega), List.getElem?_eq_none (by rw [List.length_take, Sums.bl_length]; omega)]
  · rintro ⟨r, hr⟩
    have hl := congrArg List.length hr
    rw [List.length_append, Sums.bl_length, Sums.bl_length] at hl
    by_cases h : Swar.comL a b < b.size
    · exfalso
      have h1 := hs.2.2.2 (by unfold Swar.comL at h; omega)
      have h2 : Swar.bt a (Swar.comL a b) = Swar.bt b (Swar.comL a b) := by
        have h3 := bt_blK a (Swar.comL a b) (by omega)
        rw [← hr, List.getElem?_append_left (by rw [Sums.bl_length]; exact h), bt_blK b _ h] at h3
        exact (Option.some.inj h3).symm
      unfold Swar.comL at h2
      simp [h2] at h1
    · omega
/-- as far as a place: does one of the words begin with it? -/
def begK (L : List ByteArray) (z : ByteArray) (i : Nat) : Bool := (L.take i).any fun x => decide (Swar.comL x z = z.size)
theorem begK_next (L : List ByteArray) (z : ByteArray) (i : Nat) (hi : i < L.length) : begK L z (i + 1) = (begK L z i || decide (Swar.comL (L.getD i ByteArray.empty) z = z.size)) := by
  unfold begK
  rw [List.take_add_one, List.getElem?_eq_getElem hi, List.any_append, List.getD_eq_getElem?_getD, List.getElem?_eq_getElem hi]
  simp
/-- what New's state counts tell of a word more -/
theorem grow_ns {fold : Bool} {L : List ByteArray} {z : ByteArray} (h : Fit fold (L ++ [z])) : (nsOf (wds fold L)).length ≤ (nsOf (wds fold (L ++ [z]))).length ∧ (nsOf (wds fold (L ++ [z]))).length ≤ (nsOf (wds fold L)).length + z.size ∧ begK L z L.length = decide ((nsOf (wds fold (L ++ [z]))).length = (nsOf (wds fold L)).length) := by
  have hz := h.siz z (by simp)
  have hfz := h.small z (by simp)
  have hne : Sums.bl z ≠ [] := fun e => by
    have := congrArg List.length e
    rw [Sums.bl_length, List.length_nil] at this
    omega
  obtain ⟨h1, h2, h3⟩ := more_ns (wds fold L) (Sums.bl z) hne
  rw [wds_snoc, hfz]
  rw [Sums.bl_length] at h2
  refine ⟨h1, h2, ?_⟩
  unfold begK
  rw [List.take_length]
  have hiff : (L.any fun x => decide (Swar.comL x z = z.size)) = true ↔ ∃ x ∈ wds fold L, Sums.bl z <+: x := by
    rw [List.any_eq_true]
    constructor
    · rintro ⟨x, hx, hd⟩
      refine ⟨_, mem_wds.2 ⟨x, hx, rfl⟩, ?_⟩
      rw [h.small x (by simp [hx])]
      exact (com_all x z).1 (of_decide_eq_true hd)
    · rintro ⟨t, ht, hp⟩
      obtain ⟨x, hx, rfl⟩ := mem_wds.1 ht
      rw [h.small x (by simp [hx])] at hp
      exact ⟨x, hx, decide_eq_true ((com_all x z).2 hp)⟩
  rw [← h3] at hiff
  by_cases e : (nsOf (wds fold L ++ [Sums.bl z])).length = (nsOf (wds fold L)).length
  · rw [decide_eq_true e]
    exact hiff.2 e
  · rw [decide_eq_false e]
    cases hq : L.any fun x => decide (Swar.comL x z = z.size) with
    | false => rfl
    | true => exact absurd (hiff.1 hq) e
theorem fit_two {fold : Bool} {L : List ByteArray} (h : Fit fold L) (h0 : 0 < L.length) : 2 ≤ (nsOf (wds fold L)).length := by
  have hm : L[0]'h0 ∈ L := List.getElem_mem _
  refine ns_two (x := Sums.bl (fd fold (L[0]'h0))) (mem_wds.2 ⟨_, hm, rfl⟩) fun e => ?_
  have := congrArg List.length e
  rw [Sums.bl_length, fd_size, List.length_nil] at this
  have := (h.siz _ hm).1
  omega
/-- the first word once more is the first that is wrong -/
theorem bad_twice {fold : Bool} {L : List ByteArray} (h : Fit fold L) (h0 : 0 < L.length) : (∀ j, j < L.length → bad fold (L ++ [L.getD 0 ByteArray.empty]) j = false) ∧ bad fold (L ++ [L.getD 0 ByteArray.empty]) L.length = true := by
  have hg := h.good h0
  constructor
  · intro j hj
    have h1 := hg.none_ j hj
    unfold bad at h1 ⊢
    have e1 : (L ++ [L.getD 0 ByteArray.empty]).getD j ByteArray.empty = L.getD j ByteArray.empty := by
      rw [List.getD_eq_getElem?_getD, List.getElem?_append_left hj, List.getD_eq_getElem?_getD]
    have e2 : (L ++ [L.getD 0 ByteArray.empty]).take j = L.take j := List.take_append_of_le_length (by omega)
    rw [e1, e2]
    exact h1
  · unfold bad
    have e1 : (L ++ [L.getD 0 ByteArray.empty]).getD L.length ByteArray.empty = L.getD 0 ByteArray.empty := by
      rw [List.getD_eq_getElem?_getD, List.getElem?_append_right (Nat.le_refl _), Nat.sub_self]
      rfl
    have e2 : (L ++ [L.getD 0 ByteArray.empty]).take L.length = L := by
      rw [List.take_append_of_le_length (Nat.le_refl _), List.take_length]
    rw [e1, e2]
    have : among fold L (L.getD 0 ByteArray.empty) = true := by
      unfold among
      rw [List.any_eq_true]
      refine ⟨L.getD 0 ByteArray.empty, ?_, decide_eq_true rfl⟩
      rw [List.getD_eq_getElem?_getD, List.getElem?_eq_getElem h0]
      exact List.getElem_mem _
    rw [this, Bool.or_true]
theorem bad_empty {fold : Bool} (x : ByteArray) (h1 : 1 ≤ x.size) (h2 : x.size ≤ 40) : bad fold [x, ⟨#[]⟩, ⟨#[]⟩] 0 = false ∧ bad fold [x, ⟨#[]⟩, ⟨#[]⟩] 1 = true := by
  constructor
  · unfold bad
    have : word ([x, ⟨#[]⟩, ⟨#[]⟩].getD 0 ByteArray.empty) = true := decide_eq_true ⟨h1, by show x.size ≤ 256; omega⟩
    rw [this]
    rfl
  · unfold bad
    have : word ([x, ⟨#[]⟩, ⟨#[]⟩].getD 1 ByteArray.empty) = false := decide_eq_false (fun h => by
      have h3 : 1 ≤ 0 := h.1
      omega)
    rw [this]
    rfl
/-- what was found is found still -/
theorem plc_more {fold : Bool} {L : List ByteArray} {z : ByteArray} (h : Fit fold (L ++ [z])) (T : List Nat) {i : Nat} (hi : i < L.length) : plc (allF (wds fold (L ++ [z])) T) i = plc (allF (wds fold L) T) i := by
  have hn : (wds fold (L ++ [z])).Nodup := (h.good (by simp)).nodup
  have hn2 : (wds fold L).Nodup := by
    rw [wds_snoc, List.nodup_append] at hn
    exact hn.1
  have hg := wds_get fold L i hi
  have hm : L.getD i ByteArray.empty ∈ L := by
    rw [List.getD_eq_getElem?_getD, List.getElem?_eq_getElem hi]
    exact List.getElem_mem _
  have hne : Sums.bl (fd fold (L.getD i ByteArray.empty)) ≠ [] := fun e => by
    have := congrArg List.length e
    rw [Sums.bl_length, fd_size, List.length_nil] at this
    have := (h.siz _ (List.mem_append_left _ hm)).1
    omega
  rw [plc_allF hn2 T hg hne, plc_allF hn T (by
    rw [wds_snoc, List.getElem?_append_left (by rw [wds_len]; exact hi)]
    exact hg) hne]
end Mn
