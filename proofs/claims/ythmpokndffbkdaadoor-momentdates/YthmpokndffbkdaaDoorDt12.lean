/-
  A date by value as a law's argument: opened, and shut again.
-/
import Derived.Test.YthmpokndffbkdaaDoorMoC
import Derived.ChangeSame
import Derived.ChangeArms
import Derived.ChangeShapes
import Derived.WideShapes
namespace Go.Proofs.YthmpokndffbkdaaDoor
open Go.RowKit Go.ChangeShapes Go.WideShapes
set_option linter.unusedVariables false
theorem sevenL {α : Type} : ∀ (l : List α), l.length = 7 → ∃ a b c d e f g, l = [a, b, c, d, e, f, g]
  | [a, b, c, d, e, f, g], _ => ⟨a, b, c, d, e, f, g, rfl⟩
theorem sevenA {α : Type} (cs : Array α) (h : cs.size = 7) : ∃ a b c d e f g, cs = #[a, b, c, d, e, f, g] := by
  obtain ⟨l⟩ := cs
  obtain ⟨a, b, c, d, e, f, g, rfl⟩ := sevenL l h
  exact ⟨a, b, c, d, e, f, g, rfl⟩
theorem one3 : Tryd.prog.cellsOf 3 = 1 := by kernel_rfl
theorem sevenD : Tryd.prog.cellsOf 23 = 7 := by kernel_rfl
set_option maxRecDepth 100000 in
theorem open_date {H : Type} {enc : TypeId × Value → H} {w : World} {base b0 : Nat} {spare : Nat → Bool} {held : Bool} {r : Reach} {v : Value} {d : DataW H} {p : List MemPlace} (hv : Value.okWide Tryd.prog w r b0 23 v) (h : DataW.Trod enc Tryd.prog w base spare held 23 v d p) :
    ∃ a0 a1 a2 a3 a4 a5 a6 : Int, v = dateV a0 a1 a2 a3 a4 a5 a6 ∧ d = .agg [.lit (.int .i64 a0), .lit (.int .i64 a1), .lit (.int .i64 a2), .lit (.int .i64 a3), .lit (.int .i64 a4), .lit (.int .i64 a5), .lit (.int .i64 a6)] ∧ p = [] ∧
      (Lit.int .i64 a0).wf = true ∧ (Lit.int .i64 a1).wf = true ∧ (Lit.int .i64 a2).wf = true ∧ (Lit.int .i64 a3).wf = true ∧ (Lit.int .i64 a4).wf = true ∧ (Lit.int .i64 a5).wf = true ∧ (Lit.int .i64 a6).wf = true := by
  obtain ⟨cs, rfl, hsz⟩ := okWide_struct Tryd.underlying23 hv
  obtain ⟨c0, c1, c2, c3, c4, c5, c6, rfl⟩ := sevenA cs (hsz.trans sevenD)
  obtain ⟨fuel, hf⟩ := h
  obtain ⟨xs, n, _, hx, _, hlen, hfs⟩ := DataW.trod_struct Tryd.underlying23 hf
  obtain ⟨y0, y1, y2, y3, y4, y5, y6, rfl⟩ := sevenL xs hlen
  have g0 : DataW.trod enc Tryd.prog w base spare held n 3 (((Value.agg #[c0, c1, c2, c3, c4, c5, c6]).cells.toList.drop 0).take (Tryd.prog.cellsOf 3)) = some y0 := hfs 0 _ rfl
  have g1 : DataW.trod enc Tryd.prog w base spare held n 3 (((Value.agg #[c0, c1, c2, c3, c4, c5, c6]).cells.toList.drop 1).take (Tryd.prog.cellsOf 3)) = some y1 := hfs 1 _ rfl
  have g2 : DataW.trod enc Tryd.prog w base spare held n 3 (((Value.agg #[c0, c1, c2, c3, c4, c5, c6]).cells.toList.drop 2).take (Tryd.prog.cellsOf 3)) = some y2 := hfs 2 _ rfl
  have g3 : DataW.trod enc Tryd.prog w base spare held n 3 (((Value.agg #[c0, c1, c2, c3, c4, c5, c6]).cells.toList.drop 3).take (Tryd.prog.cellsOf 3)) = some y3 := hfs 3 _ rfl
  have g4 : DataW.trod enc Tryd.prog w base spare held n 3 (((Value.agg #[c0, c1, c2, c3, c4, c5, c6]).cells.toList.drop 4).take (Tryd.prog.cellsOf 3)) = some y4 := hfs 4 _ rfl
  have g5 : DataW.trod enc Tryd.prog w base spare held n 3 (((Value.agg #[c0, c1, c2, c3, c4, c5, c6]).cells.toList.drop 5).take (Tryd.prog.cellsOf 3)) = some y5 := hfs 5 _ rfl
  have g6 : DataW.trod enc Tryd.prog w base spare held n 3 (((Value.agg #[c0, c1, c2, c3, c4, c5, c6]).cells.toList.drop 6).take (Tryd.prog.cellsOf 3)) = some y6 := hfs 6 _ rfl
  rw [one3] at g0 g1 g2 g3 g4 g5 g6
  obtain ⟨a0, e0, rfl, w0⟩ := DataW.trod_int Tryd.underlying3 g0
  obtain ⟨a1, e1, rfl, w1⟩ := DataW.trod_int Tryd.underlying3 g1
  obtain ⟨a2, e2, rfl, w2⟩ := DataW.trod_int Tryd.underlying3 g2
  obtain ⟨a3, e3, rfl, w3⟩ := DataW.trod_int Tryd.underlying3 g3
  obtain ⟨a4, e4, rfl, w4⟩ := DataW.trod_int Tryd.underlying3 g4
  obtain ⟨a5, e5, rfl, w5⟩ := DataW.trod_int Tryd.underlying3 g5
  obtain ⟨a6, e6, rfl, w6⟩ := DataW.trod_int Tryd.underlying3 g6
  simp [Value.cells] at e0 e1 e2 e3 e4 e5 e6
  subst e0 e1 e2 e3 e4 e5 e6
  simp only [Prod.mk.injEq] at hx
  exact ⟨a0, a1, a2, a3, a4, a5, a6, rfl, hx.1, hx.2, w0, w1, w2, w3, w4, w5, w6⟩
set_option maxRecDepth 100000 in
theorem shut_date {H : Type} {enc : TypeId × Value → H} {w : World} {base : Nat} {spare : Nat → Bool} {held : Bool} {a0 a1 a2 a3 a4 a5 a6 : Int} (w0 : (Lit.int .i64 a0).wf = true) (w1 : (Lit.int .i64 a1).wf = true) (w2 : (Lit.int .i64 a2).wf = true) (w3 : (Lit.int .i64 a3).wf = true) (w4 : (Lit.int .i64 a4).wf = true) (w5 : (Lit.int .i64 a5).wf = true) (w6 : (Lit.int .i64 a6).wf = true) :
    DataW.Trod enc Tryd.prog w base spare held 23 (dateV a0 a1 a2 a3 a4 a5 a6) (.agg [.lit (.int .i64 a0), .lit (.int .i64 a1), .lit (.int .i64 a2), .lit (.int .i64 a3), .lit (.int .i64 a4), .lit (.int .i64 a5), .lit (.int .i64 a6)]) [] := by
  have T : ∀ {n : Int}, (Lit.int .i64 n).wf = true → DataW.trod enc Tryd.prog w base spare held 1 3 [.int .i64 n] = some (.lit (.int .i64 n), []) := fun hw => trod_int_mk 0 Tryd.underlying3 hw
  have := trod_struct_mk (enc := enc) (w := w) (base := base) (spare := spare) (held := held) (n := 1) (cs := [.int .i64 a0, .int .i64 a1, .int .i64 a2, .int .i64 a3, .int .i64 a4, .int .i64 a5, .int .i64 a6]) (xs := [(.lit (.int .i64 a0), []), (.lit (.int .i64 a1), []), (.lit (.int .i64 a2), []), (.lit (.int .i64 a3), []), (.lit (.int .i64 a4), []), (.lit (.int .i64 a5), []), (.lit (.int .i64 a6), [])]) Tryd.underlying23 (by rw [sevenD]; rfl) (by simp [one3, T w0, T w1, T w2, T w3, T w4, T w5, T w6])
  exact ⟨2, this⟩
end Go.Proofs.YthmpokndffbkdaaDoor
