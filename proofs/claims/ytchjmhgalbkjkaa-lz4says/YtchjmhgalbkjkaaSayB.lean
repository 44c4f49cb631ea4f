/-
  Where the pieces of a made text begin. Conditions: as each says.
-/
import Derived.Test.YtchjmhgalbkjkaaSayA
namespace Go.Proofs.Ytchjmhgalbkjkaa
open Go.RowKit Go.Shelf
set_option linter.unusedVariables false
theorem ptsP_tok : ∀ (l : List Lz.Pc) (i0 j : Nat) (x : Pt), (ptsP i0 l)[j]? = some x → x.1 = i0 + (Lz.enc (l.take j)).length
  | [], i0, j, x, h => by simp [ptsP] at h
  | y :: l, i0, 0, x, h => by
    simp only [ptsP, List.getElem?_cons_zero, Option.some.injEq] at h
    subst h
    simp [Lz.enc]
  | y :: l, i0, j + 1, x, h => by
    simp only [ptsP, List.getElem?_cons_succ] at h
    have := ptsP_tok l _ j x h
    rw [this, List.take_succ_cons, Lz.enc, List.length_append]
    omega
theorem mkP_take (A : List St) (S : List Nat) (j : Nat) (hj : j ≤ A.length) : (mkP S A).take j = mkP S (A.take j) := by
  conv => lhs; rw [← List.take_append_drop j A]
  rw [mkP_append]
  rw [List.take_append_of_le_length (by rw [mkP_length, List.length_take]; omega), List.take_of_length_le (by rw [mkP_length, List.length_take]; omega)]
theorem pts_tok (A : List St) (S : List Nat) (E : ByteArray) (el : Nat) (hel : (Lz.enc (mkP S A)).length = el) (j : Nat) (x : Pt) (hx : (ptsP 0 (mkP S A) ++ [(el, E, 0, 0)])[j]? = some x) : j ≤ A.length ∧ x.1 = (Lz.enc (mkP S (A.take j))).length := by
  have hlen : (ptsP 0 (mkP S A)).length = A.length := by rw [ptsP_length, mkP_length]
  by_cases hj : j < A.length
  · rw [List.getElem?_append_left (by omega)] at hx
    have := ptsP_tok _ _ _ _ hx
    rw [Nat.zero_add, mkP_take A S j (by omega)] at this
    exact ⟨by omega, this⟩
  · have hlt := (List.getElem?_eq_some_iff.1 hx).1
    rw [List.length_append, hlen, List.length_singleton] at hlt
    have hj2 : j = A.length := by omega
    subst hj2
    rw [List.getElem?_append_right (by omega), hlen, Nat.sub_self] at hx
    simp only [List.getElem?_cons_zero, Option.some.injEq] at hx
    subst hx
    refine ⟨Nat.le_refl _, ?_⟩
    rw [List.take_length]
    exact hel.symm
/-- what is said of a text that ends where a piece begins -/
theorem exp_open_at (bef : ByteArray) (A : List St) (E : ByteArray) (hE : E.size ≤ 100000) (n el : Nat) (hn : Lz.tot (mkP (Sums.bl bef) A) + E.size = n) (hel : (Lz.enc (mkP (Sums.bl bef) A)).length = el) (j : Nat) (x : Pt) (hx : (ptsP 0 (mkP (Sums.bl bef) A) ++ [(el, E, 0, 0)])[j]? = some x) :
    expR bef ((packT (mkP (Sums.bl bef) A) E).extract 0 x.1) (n : Int) = tup3 ⟨#[]⟩ 30 x.1 ∧ x.1 ≤ (packT (mkP (Sums.bl bef) A) E).size := by
  obtain ⟨h1, h2⟩ := pts_tok A (Sums.bl bef) E el hel j x hx
  have h3 := exp_open bef (A.take j) (A.drop j) E hE n (by rw [List.take_append_drop]; omega) x.1 h2
  rw [List.take_append_drop] at h3
  refine ⟨h3.1, ?_⟩
  have h4 := h3.2
  rw [ByteArray.size_extract] at h4
  omega
end Go.Proofs.Ytchjmhgalbkjkaa
