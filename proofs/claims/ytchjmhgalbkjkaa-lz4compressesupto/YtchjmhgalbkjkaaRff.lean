/-
  The document's shortest: its tables. Conditions: the text has at most 4096 bytes.
-/
import Derived.Test.YtchjmhgalbkjkaaRfe
import Derived.Deep.CutBlock
namespace Go.Proofs.Ytchjmhgalbkjkaa
open Go.RowKit
set_option linter.unusedVariables false
def CprR (w : World) (v : Value) (l : List Lz.Cp) : Prop :=
  (v = .slice none 0 0 ∧ l = []) ∨ ∃ g cap cur fz, v = .slice (some ⟨g, 0, none⟩) l.length cap ∧ l.length ≤ cap ∧ w.heap[g]? = some (.cells cur 85 fz) ∧ cur.toList.take (3 * l.length) = cpv l
theorem CprR.keep {w w' : World} {v : Value} {l : List Lz.Cp} (h : CprR w v l) (hk : ∀ (k : Nat) (o : Obj), w.heap[k]? = some o → (∀ cur fz, o ≠ .cells cur 5 fz) → w'.heap[k]? = some o) : CprR w' v l := by
  rcases h with h | ⟨g, cap, cur, fz, h1, h2, h3, h4⟩
  · exact .inl h
  · exact .inr ⟨g, cap, cur, fz, h1, h2, hk g _ h3 (by intro _ _ e; simp at e), h4⟩
theorem CprR.cells {w : World} {g n cap : Nat} {l : List Lz.Cp} (h : CprR w (.slice (some ⟨g, 0, none⟩) n cap) l) (j : Nat) (c : Lz.Cp) (hc : l[j]? = some c) :
    w.cell? ⟨g, j * 3, none⟩ = some (.int .i64 (c.at_ : Int)) ∧ w.cell? ⟨g, j * 3 + 1, none⟩ = some (.int .i64 (c.off : Int)) ∧ w.cell? ⟨g, j * 3 + 2, none⟩ = some (.int .i64 (c.cnt : Int)) := by
  rw [Nat.mul_comm j 3]
  rcases h with ⟨h, _⟩ | ⟨g', cap', cur, fz, h1, h2, h3, h4⟩
  · simp at h
  · simp only [Value.slice.injEq, Option.some.injEq, Addr.mk.injEq, and_true] at h1
    obtain ⟨rfl, _⟩ := h1
    have hj : j < l.length := (List.getElem?_eq_some_iff.1 hc).1
    obtain ⟨a, b, d⟩ := cpv_at l j c hc
    rw [← h4] at a b d
    rw [List.getElem?_take, if_pos (by omega)] at a b d
    simp only [World.cell?, h3]
    refine ⟨by simpa using a, by simpa using b, by simpa using d⟩
/-- three rows: the longest copies, what is left, what a copy takes -/
structure Rs (n gl gr gc : Nat) (LG FR FC : Nat → Nat) (w0 w : World) : Prop where
  lgs : w.heap[gl]? = some (.cells (rowN LG (n + 1)).toArray 3 (0, 0))
  res : w.heap[gr]? = some (.cells (rowN FR (n + 1)).toArray 3 (0, 0))
  cps : w.heap[gc]? = some (.cells (rowN FC (n + 1)).toArray 3 (0, 0))
  bel : Below w0.heap.size w0 w
  ge : w0.heap.size ≤ gl ∧ gl < gr ∧ gr < gc
section
variable {n gl gr gc : Nat} {LG FR FC : Nat → Nat} {w0 w : World}
theorem Rs.drew (h : Rs n gl gr gc LG FR FC w0 w) (k : Nat) : Rs n gl gr gc LG FR FC w0 (w.drewN k) := ⟨h.lgs, h.res, h.cps, h.bel.drewN' k, h.ge⟩
theorem Rs.putC (h : Rs n gl gr gc LG FR FC w0 w) (p v : Nat) : Rs n gl gr gc LG FR (fun x => if x = p then v else FC x) w0 (w.setCell ⟨gc, p, none⟩ (.int .i64 (v : Int))) := by
  have hge := h.ge
  exact ⟨(set_other w gc gl p _ (by omega)).trans h.lgs, (set_other w gc gr p _ (by omega)).trans h.res, rowN_put h.cps p v, below_setc h.bel (by omega) p _, h.ge⟩
theorem Rs.putR (h : Rs n gl gr gc LG FR FC w0 w) (p v : Nat) : Rs n gl gr gc LG (fun x => if x = p then v else FR x) FC w0 (w.setCell ⟨gr, p, none⟩ (.int .i64 (v : Int))) := by
  have hge := h.ge
  exact ⟨(set_other w gr gl p _ (by omega)).trans h.lgs, rowN_put h.res p v, (set_other w gr gc p _ (by omega)).trans h.cps, below_setc h.bel (by omega) p _, h.ge⟩
theorem Rs.cells (h : Rs n gl gr gc LG FR FC w0 w) (p : Nat) (hp : p ≤ n) : w.cell? ⟨gl, p, none⟩ = some (.int .i64 (LG p : Int)) ∧ w.cell? ⟨gr, p, none⟩ = some (.int .i64 (FR p : Int)) ∧ w.cell? ⟨gc, p, none⟩ = some (.int .i64 (FC p : Int)) ∧ w.frozen? ⟨gr, p, none⟩ = false ∧ w.frozen? ⟨gc, p, none⟩ = false :=
  ⟨(rowN_cell h.lgs p (by omega)).1, (rowN_cell h.res p (by omega)).1, (rowN_cell h.cps p (by omega)).1, (rowN_cell h.res p (by omega)).2, (rowN_cell h.cps p (by omega)).2⟩
theorem Rs.congr (h : Rs n gl gr gc LG FR FC w0 w) {FR' FC' : Nat → Nat} (h1 : FR = FR') (h2 : FC = FC') : Rs n gl gr gc LG FR' FC' w0 w := by
  subst h1
  subst h2
  exact h
end
theorem cprR_of {w : World} {base n : Nat} {v : Value} {l : List Lz.Cp} (h : w.ownsRow base 85 3 v n (cpv l)) (hn : n = l.length) : CprR w v l := by
  subst hn
  rcases h.2 with ⟨rfl, h0⟩ | ⟨g, cap, cur, rfl, h1, h2, h3, h4, h5, h6⟩
  · exact .inl ⟨rfl, List.length_eq_zero_iff.1 h0⟩
  · exact .inr ⟨g, cap, cur, (0, 0), rfl, h3, h2, by rw [Nat.mul_comm]; exact h6⟩
theorem infoR : (Try.prog.info? 85).map (fun i => (i.zero, i.size, i.bytes)) = some (some (.agg #[.int .i64 0, .int .i64 0, .int .i64 0]), 3, 24) := by kernel_rfl
end Go.Proofs.Ytchjmhgalbkjkaa
