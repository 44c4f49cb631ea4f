/-
  Where a text's first line feed stands, told byte by byte. No conditions but those that each fact names.
-/
import Derived.Test.YtchhdkmflppjhaaRcA
import Derived.Lib.IndexLaws
namespace Rec
set_option linter.unusedVariables false
open Code Sums
theorem bl_at (t : ByteArray) (i : Nat) (h : i < t.size) : ∃ x, t.data.toList[i]? = some x ∧ (bl t).getD i 0 = x.toNat := by
  have hl : i < t.data.toList.length := by simpa using h
  refine ⟨t.data.toList[i], List.getElem?_eq_getElem hl, ?_⟩
  have := bl_get t i h
  rw [this]
  simp
  rfl
theorem nl_none (t : ByteArray) (h : ∀ y, y < t.size → (bl t).getD y 0 ≠ 10) : nl t < 0 := by
  by_cases hn : 0 ≤ nl t
  · exfalso
    obtain ⟨o, ho⟩ := Int.eq_ofNat_of_zero_le hn
    have h1 := nl_lt t hn
    have h2 := (Go.Lib.indexByte_some (l := t.data.toList) (c := 10) (o := o) ho).1
    obtain ⟨x, h3, h4⟩ := bl_at t o (by omega)
    rw [h2] at h3
    have h5 := h o (by omega)
    rw [h4, ← Option.some.inj h3] at h5
    exact h5 rfl
  · omega
theorem nl_first (t : ByteArray) (i : Nat) (hi : i < t.size) (h : ∀ y, y < i → (bl t).getD y 0 ≠ 10) (h1 : (bl t).getD i 0 = 10) : nl t = (i : Int) := by
  obtain ⟨x, hx, hx2⟩ := bl_at t i hi
  have hxe : x = 10 := by
    rw [h1] at hx2
    exact UInt8.toNat_inj.1 hx2.symm
  subst hxe
  by_cases hn : 0 ≤ nl t
  · obtain ⟨o, ho⟩ := Int.eq_ofNat_of_zero_le hn
    have hlt := nl_lt t hn
    obtain ⟨h2, h3⟩ := Go.Lib.indexByte_some (l := t.data.toList) (c := 10) (o := o) ho
    have a1 : ¬ i < o := fun hio => h3 i hio hx
    have a2 : ¬ o < i := fun hoi => by
      obtain ⟨y, h4, h5⟩ := bl_at t o (by omega)
      rw [h2] at h4
      have h6 := h o hoi
      rw [h5, ← Option.some.inj h4] at h6
      exact h6 rfl
    omega
  · have hm : nl t = -1 := by
      have := Go.Lib.indexByte_ge t.data.toList 10
      unfold nl at hn ⊢
      omega
    exact absurd hx (Go.Lib.indexByte_none hm i)
theorem cut_at (s : ByteArray) (a n y : Nat) (h : a + n ≤ s.size) (hy : y < n) : (bl (s.extract a (a + n))).getD y 0 = (bl s).getD (a + y) 0 := by
  rw [bl_extract, List.getD_eq_getElem?_getD, List.getElem?_drop, List.getElem?_take, if_pos (by omega), List.getD_eq_getElem?_getD]
/-- line feeds within a piece of a text -/
theorem piece_none (s : ByteArray) (a n : Nat) (h : a + n ≤ s.size) (h2 : ∀ y, a ≤ y → y < a + n → (bl s).getD y 0 ≠ 10) : ¬ 0 ≤ nl (s.extract a (a + n)) := by
  have := nl_none (s.extract a (a + n)) fun y hy => by
    rw [ByteArray.size_extract] at hy
    rw [cut_at s a n y h (by omega)]
    exact h2 _ (by omega) (by omega)
  omega
theorem piece_first (s : ByteArray) (a n x : Nat) (h : a + n ≤ s.size) (hx0 : a ≤ x) (hx : x < a + n) (h2 : ∀ y, a ≤ y → y < x → (bl s).getD y 0 ≠ 10) (h1 : (bl s).getD x 0 = 10) : 0 ≤ nl (s.extract a (a + n)) ∧ a + (nl (s.extract a (a + n))).toNat = x := by
  have := nl_first (s.extract a (a + n)) (x - a) (by rw [ByteArray.size_extract]; omega) (fun y hy => by
    rw [cut_at s a n y h (by omega)]
    exact h2 _ (by omega) (by omega)) (by rw [cut_at s a n (x - a) h (by omega), show a + (x - a) = x by omega]; exact h1)
  omega
end Rec
