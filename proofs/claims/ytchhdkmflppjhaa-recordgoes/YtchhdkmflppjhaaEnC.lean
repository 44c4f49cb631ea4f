/-
  The law's lent and still: lines copied, with five marks behind them. Conditions: as each says.
-/
import Derived.Test.YtchhdkmflppjhaaEnB
import Derived.Test.YtchhdkmflppjhaaRcO
import Derived.BigQuiet
namespace Go.Proofs.Ytchhdkmflppjhaa
open Go.RowKit
set_option linter.unusedVariables false
set_option linter.unusedSimpArgs false
abbrev noL : Rec.Ln := (0, ⟨#[]⟩)
abbrev mkM : Rec.Ln := (-77, ⟨#[]⟩)
def mkL (L : List Rec.Ln) : List Rec.Ln := L ++ List.replicate 5 mkM
def upL (L : List Rec.Ln) (k : Nat) : List Rec.Ln := (mkL L).take k ++ List.replicate (L.length + 5 - k) noL
theorem mkL_len (L : List Rec.Ln) : (mkL L).length = L.length + 5 := by simp [mkL]
theorem upL_0 (L : List Rec.Ln) : upL L 0 = List.replicate (L.length + 5) noL := by simp [upL]
theorem upL_len (L : List Rec.Ln) (k : Nat) (h : k ≤ L.length + 5) : (upL L k).length = L.length + 5 := by
  unfold upL
  rw [List.length_append, List.length_take, mkL_len, List.length_replicate]
  omega
theorem upL_all (L : List Rec.Ln) : upL L (L.length + 5) = mkL L := by
  unfold upL
  rw [List.take_of_length_le (by rw [mkL_len]; omega)]
  simp
theorem upL_set (L : List Rec.Ln) (k : Nat) (hk : k < L.length + 5) : (upL L k).set k ((mkL L).getD k noL) = upL L (k + 1) := by
  have hl : k < (mkL L).length := by rw [mkL_len]; exact hk
  unfold upL
  have e1 : ((mkL L).take k).length = k := by rw [List.length_take, mkL_len]; omega
  rw [List.set_append_right _ _ (by omega), e1, Nat.sub_self, List.take_succ_eq_append_getElem hl, List.getD_eq_getElem?_getD, List.getElem?_eq_getElem hl, List.append_assoc]
  congr 1
  rw [show L.length + 5 - k = (L.length + 5 - (k + 1)) + 1 by omega, List.replicate_succ]
  rfl
theorem mkL_lo (L : List Rec.Ln) (k : Nat) (hk : k < L.length) : (mkL L).getD k noL = L.getD k noL := by
  unfold mkL
  rw [List.getD_eq_getElem?_getD, List.getElem?_append_left hk, List.getD_eq_getElem?_getD]
theorem mkL_hi (L : List Rec.Ln) (k : Nat) (h1 : L.length ≤ k) (h2 : k < L.length + 5) : (mkL L).getD k noL = mkM := by
  unfold mkL
  rw [List.getD_eq_getElem?_getD, List.getElem?_append_right h1, List.getElem?_replicate, if_pos (by omega)]
  rfl
theorem lnV_set : ∀ (M : List Rec.Ln) (j : Nat) (x : Rec.Ln), ((lnV M).set (j * 2) (.int .i64 x.1)).set (j * 2 + 1) (.string x.2) = lnV (M.set j x)
  | [], j, x => rfl
  | y :: M, 0, x => rfl
  | y :: M, j + 1, x => by
    have h := lnV_set M j x
    rw [lnV, show (j + 1) * 2 = j * 2 + 1 + 1 by omega, List.set_cons_succ, List.set_cons_succ, List.set_cons_succ, List.set_cons_succ, h, List.set_cons_succ, lnV]
theorem lnV_rep : ∀ n : Nat, lnV (List.replicate n noL) = (madeCells (Value.cells (.agg #[.int .i64 0, .string ⟨#[]⟩])) (n * 2)).toList := by
  intro n
  apply List.ext_getElem?
  intro j
  by_cases hj : j < n * 2
  · have hn : j / 2 < n := by omega
    have hg := lnV_get (List.replicate n noL) (j / 2) (by rw [List.length_replicate]; exact hn)
    have hd : (List.replicate n noL).getD (j / 2) (0, ⟨#[]⟩) = noL := by
      rw [List.getD_eq_getElem?_getD, List.getElem?_replicate, if_pos hn]
      rfl
    rw [hd] at hg
    rcases Nat.mod_two_eq_zero_or_one j with h | h
    · rw [show j / 2 * 2 = j by omega] at hg
      rw [hg.1]
      simp [madeCells, hj, h, Value.cells]
    · rw [show j / 2 * 2 + 1 = j by omega] at hg
      rw [hg.2]
      simp [madeCells, hj, h, Value.cells]
  · rw [List.getElem?_eq_none (by rw [lnV_len, List.length_replicate]; omega)]
    simp [madeCells, hj]
/-- a line stored in a row -/
theorem own_put {w : World} {B g m c : Nat} {M : List Rec.Ln} (h : w.ownsRow B 35 2 (.slice (some ⟨g, 0, none⟩) m c) m (lnV M)) (j : Nat) (x : Rec.Ln) : ((w.setCell ⟨g, j * 2, none⟩ (.int .i64 x.1)).setCell ⟨g, j * 2 + 1, none⟩ (.string x.2)).ownsRow B 35 2 (.slice (some ⟨g, 0, none⟩) m c) m (lnV (M.set j x)) := by
  have h1 := (h.stored (j * 2) (.int .i64 x.1)).1
  have h2 := (h1.stored (j * 2 + 1) (.string x.2)).1
  rw [lnV_set] at h2
  exact h2
theorem own_at {w : World} {B g m c : Nat} {M : List Rec.Ln} (h : w.ownsRow B 35 2 (.slice (some ⟨g, 0, none⟩) m c) m (lnV M)) (j : Nat) (hj : j < m) : w.cell? ⟨g, j * 2, none⟩ = some (.int .i64 (M.getD j (0, ⟨#[]⟩)).1) ∧ w.cell? ⟨g, j * 2 + 1, none⟩ = some (.string (M.getD j (0, ⟨#[]⟩)).2) := by
  have hl := h.1
  rw [lnV_len] at hl
  have := lnV_get M j (by omega)
  exact ⟨(h.cellAt (j * 2) (by omega)).trans this.1, (h.cellAt (j * 2 + 1) (by omega)).trans this.2⟩
end Go.Proofs.Ytchhdkmflppjhaa
