/-
  The document's States is the number of the program's nodes. Plain facts.
-/
import Derived.Test.YtlejfeapnnioeaaMnY
namespace Mn
theorem bl_head (s : ByteArray) (k : Nat) : Sums.bl (s.extract 0 k) = (Sums.bl s).take k := by
  rw [Sums.bl_extract, List.drop_zero]
theorem pre_ext {x y : ByteArray} {k : Nat} (hk : k < x.size) : (Sums.bl x).take (k + 1) <+: Sums.bl y ↔ k + 1 ≤ y.size ∧ y.extract 0 (k + 1) = x.extract 0 (k + 1) := by
  have hl : ((Sums.bl x).take (k + 1)).length = k + 1 := by
    rw [List.length_take, Sums.bl_length]
    omega
  constructor
  · intro h
    have h1 := h.length_le
    rw [hl, Sums.bl_length] at h1
    refine ⟨h1, Sums.bl_inj ?_⟩
    have h2 := List.prefix_iff_eq_take.1 h
    rw [hl] at h2
    rw [bl_head, bl_head, h2]
  · rintro ⟨h1, h2⟩
    have h3 := congrArg Sums.bl h2
    rw [bl_head, bl_head] at h3
    rw [← h3]
    exact List.take_prefix _ _
theorem frF_iff (D : List ByteArray) (x : ByteArray) (k j : Nat) (hk : k < x.size) : frF D x (k + 1) j = true ↔ (Sums.bl x).take (k + 1) ∉ nsOf ((D.take j).map Sums.bl) := by
  have hne : (Sums.bl x).take (k + 1) ≠ [] := by
    intro e
    have := congrArg List.length e
    rw [List.length_take, Sums.bl_length, List.length_nil] at this
    omega
  rw [nsOf_mem]
  unfold frF
  rw [Bool.not_eq_true', List.any_eq_false]
  constructor
  · rintro h (e | ⟨z, hz, hp⟩)
    · exact hne e
    · obtain ⟨y, hy, rfl⟩ := List.mem_map.1 hz
      exact h y hy (decide_eq_true ((pre_ext hk).1 hp))
  · intro h y hy hd
    exact h (.inr ⟨_, List.mem_map.2 ⟨y, hy, rfl⟩, (pre_ext hk).2 (of_decide_eq_true hd)⟩)
theorem addP_cK (D : List ByteArray) (x : ByteArray) (i : Nat) : ∀ k, k ≤ x.size → (addP (nsOf ((D.take i).map Sums.bl)) (Sums.bl x) k).length = (nsOf ((D.take i).map Sums.bl)).length + cK D x i k
  | 0, _ => rfl
  | k + 1, hk => by
    have ih := addP_cK D x i k (by omega)
    have hin := addP_in (nsOf ((D.take i).map Sums.bl)) (Sums.bl x) k (by rw [Sums.bl_length]; omega)
    have hf := frF_iff D x k i (by omega)
    unfold addP cK
    by_cases h : (Sums.bl x).take (k + 1) ∈ nsOf ((D.take i).map Sums.bl)
    · rw [if_pos (hin.2 h), ih, if_neg (fun e => hf.1 e h)]
      rfl
    · rw [if_neg (fun e => h (hin.1 e)), List.length_append, ih, if_pos (hf.2 h)]
      rfl
theorem ns_stN (D : List ByteArray) : ∀ i, i ≤ D.length → (nsOf ((D.take i).map Sums.bl)).length = stN D i
  | 0, _ => rfl
  | i + 1, hi => by
    have ih := ns_stN D i (by omega)
    rw [List.take_add_one, List.getElem?_eq_getElem (by omega), Option.toList_some, List.map_append, List.map_cons, List.map_nil, nsOf_snoc, Sums.bl_length, addP_cK D D[i] i _ (Nat.le_refl _), ih]
    have e : D.getD i ByteArray.empty = D[i] := by
      rw [List.getD_eq_getElem?_getD, List.getElem?_eq_getElem (by omega)]
      rfl
    have e2 : stN D (i + 1) = stN D i + cK D (D.getD i ByteArray.empty) i (D.getD i ByteArray.empty).size := rfl
    rw [e2, e]
/-- the document's States and the program's -/
theorem states_same (fold : Bool) (L : List ByteArray) : stN (L.map (fd fold)) (L.map (fd fold)).length = (nsOf (wds fold L)).length := by
  have h := ns_stN (L.map (fd fold)) _ (Nat.le_refl _)
  rw [List.take_length, List.map_map] at h
  exact h.symm
end Mn
