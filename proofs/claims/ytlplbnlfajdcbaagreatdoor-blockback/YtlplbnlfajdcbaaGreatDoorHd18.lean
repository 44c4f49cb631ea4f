/-
  A block's head by value as a law's argument: opened, and shut again. Conditions: as each says.
-/
import Derived.Test.YtlplbnlfajdcbaaGreatDoorRcI
import Derived.ChangeSame
import Derived.ChangeArms
import Derived.ChangeShapes
import Derived.WideShapes
namespace Go.Proofs.YtlplbnlfajdcbaaGreatDoor
open Go.RowKit Go.ChangeShapes Go.WideShapes
set_option linter.unusedVariables false
theorem nineL {α : Type} : ∀ (l : List α), l.length = 9 → ∃ a0 a1 a2 a3 a4 a5 a6 a7 a8, l = [a0, a1, a2, a3, a4, a5, a6, a7, a8]
  | [a0, a1, a2, a3, a4, a5, a6, a7, a8], _ => ⟨a0, a1, a2, a3, a4, a5, a6, a7, a8, rfl⟩
theorem nineA {α : Type} (cs : Array α) (h : cs.size = 9) : ∃ a0 a1 a2 a3 a4 a5 a6 a7 a8, cs = #[a0, a1, a2, a3, a4, a5, a6, a7, a8] := by
  obtain ⟨l⟩ := cs
  obtain ⟨a0, a1, a2, a3, a4, a5, a6, a7, a8, rfl⟩ := nineL l h
  exact ⟨a0, a1, a2, a3, a4, a5, a6, a7, a8, rfl⟩
theorem one3h : Tryz.prog.cellsOf 3 = 1 := by kernel_rfl
theorem nineH : Tryz.prog.cellsOf 23 = 9 := by kernel_rfl
set_option maxRecDepth 100000 in
theorem open_head {H : Type} {enc : TypeId × Value → H} {w : World} {base b0 : Nat} {spare : Nat → Bool} {held : Bool} {r : Reach} {v : Value} {d : DataW H} {p : List MemPlace} (hv : Value.okWide Tryz.prog w r b0 23 v) (h : DataW.Trod enc Tryz.prog w base spare held 23 v d p) :
    ∃ a0 a1 a2 a3 a4 a5 a6 a7 a8 : Int, v = .agg #[.int .i64 a0, .int .i64 a1, .int .i64 a2, .int .i64 a3, .int .i64 a4, .int .i64 a5, .int .i64 a6, .int .i64 a7, .int .i64 a8] ∧ d = .agg [.lit (.int .i64 a0), .lit (.int .i64 a1), .lit (.int .i64 a2), .lit (.int .i64 a3), .lit (.int .i64 a4), .lit (.int .i64 a5), .lit (.int .i64 a6), .lit (.int .i64 a7), .lit (.int .i64 a8)] ∧ p = [] ∧
      (Lit.int .i64 a0).wf = true ∧ (Lit.int .i64 a1).wf = true ∧ (Lit.int .i64 a2).wf = true ∧ (Lit.int .i64 a3).wf = true ∧ (Lit.int .i64 a4).wf = true ∧ (Lit.int .i64 a5).wf = true ∧ (Lit.int .i64 a6).wf = true ∧ (Lit.int .i64 a7).wf = true ∧ (Lit.int .i64 a8).wf = true := by
  obtain ⟨cs, rfl, hsz⟩ := okWide_struct Tryz.underlying23 hv
  obtain ⟨c0, c1, c2, c3, c4, c5, c6, c7, c8, rfl⟩ := nineA cs (hsz.trans nineH)
  obtain ⟨fuel, hf⟩ := h
  obtain ⟨xs, n, _, hx, _, hlen, hfs⟩ := DataW.trod_struct Tryz.underlying23 hf
  obtain ⟨y0, y1, y2, y3, y4, y5, y6, y7, y8, rfl⟩ := nineL xs hlen
  have g0 : DataW.trod enc Tryz.prog w base spare held n 3 (((Value.agg #[c0, c1, c2, c3, c4, c5, c6, c7, c8]).cells.toList.drop 0).take (Tryz.prog.cellsOf 3)) = some y0 := hfs 0 _ rfl
  have g1 : DataW.trod enc Tryz.prog w base spare held n 3 (((Value.agg #[c0, c1, c2, c3, c4, c5, c6, c7, c8]).cells.toList.drop 1).take (Tryz.prog.cellsOf 3)) = some y1 := hfs 1 _ rfl
  have g2 : DataW.trod enc Tryz.prog w base spare held n 3 (((Value.agg #[c0, c1, c2, c3, c4, c5, c6, c7, c8]).cells.toList.drop 2).take (Tryz.prog.cellsOf 3)) = some y2 := hfs 2 _ rfl
  have g3 : DataW.trod enc Tryz.prog w base spare held n 3 (((Value.agg #[c0, c1, c2, c3, c4, c5, c6, c7, c8]).cells.toList.drop 3).take (Tryz.prog.cellsOf 3)) = some y3 := hfs 3 _ rfl
  have g4 : DataW.trod enc Tryz.prog w base spare held n 3 (((Value.agg #[c0, c1, c2, c3, c4, c5, c6, c7, c8]).cells.toList.drop 4).take (Tryz.prog.cellsOf 3)) = some y4 := hfs 4 _ rfl
  have g5 : DataW.trod enc Tryz.prog w base spare held n 3 (((Value.agg #[c0, c1, c2, c3, c4, c5, c6, c7, c8]).cells.toList.drop 5).take (Tryz.prog.cellsOf 3)) = some y5 := hfs 5 _ rfl
  have g6 : DataW.trod enc Tryz.prog w base spare held n 3 (((Value.agg #[c0, c1, c2, c3, c4, c5, c6, c7, c8]).cells.toList.drop 6).take (Tryz.prog.cellsOf 3)) = some y6 := hfs 6 _ rfl
  have g7 : DataW.trod enc Tryz.prog w base spare held n 3 (((Value.agg #[c0, c1, c2, c3, c4, c5, c6, c7, c8]).cells.toList.drop 7).take (Tryz.prog.cellsOf 3)) = some y7 := hfs 7 _ rfl
  have g8 : DataW.trod enc Tryz.prog w base spare held n 3 (((Value.agg #[c0, c1, c2, c3, c4, c5, c6, c7, c8]).cells.toList.drop 8).take (Tryz.prog.cellsOf 3)) = some y8 := hfs 8 _ rfl
  rw [one3h] at g0 g1 g2 g3 g4 g5 g6 g7 g8
  obtain ⟨a0, e0, rfl, w0⟩ := DataW.trod_int Tryz.underlying3 g0
  obtain ⟨a1, e1, rfl, w1⟩ := DataW.trod_int Tryz.underlying3 g1
  obtain ⟨a2, e2, rfl, w2⟩ := DataW.trod_int Tryz.underlying3 g2
  obtain ⟨a3, e3, rfl, w3⟩ := DataW.trod_int Tryz.underlying3 g3
  obtain ⟨a4, e4, rfl, w4⟩ := DataW.trod_int Tryz.underlying3 g4
  obtain ⟨a5, e5, rfl, w5⟩ := DataW.trod_int Tryz.underlying3 g5
  obtain ⟨a6, e6, rfl, w6⟩ := DataW.trod_int Tryz.underlying3 g6
  obtain ⟨a7, e7, rfl, w7⟩ := DataW.trod_int Tryz.underlying3 g7
  obtain ⟨a8, e8, rfl, w8⟩ := DataW.trod_int Tryz.underlying3 g8
  simp [Value.cells] at e0 e1 e2 e3 e4 e5 e6 e7 e8
  subst e0 e1 e2 e3 e4 e5 e6 e7 e8
  simp only [Prod.mk.injEq] at hx
  exact ⟨a0, a1, a2, a3, a4, a5, a6, a7, a8, rfl, hx.1, hx.2, w0, w1, w2, w3, w4, w5, w6, w7, w8⟩
set_option maxRecDepth 100000 in
theorem shut_head {H : Type} {enc : TypeId × Value → H} {w : World} {base : Nat} {spare : Nat → Bool} {held : Bool} {a0 a1 a2 a3 a4 a5 a6 a7 a8 : Int} (w0 : (Lit.int .i64 a0).wf = true) (w1 : (Lit.int .i64 a1).wf = true) (w2 : (Lit.int .i64 a2).wf = true) (w3 : (Lit.int .i64 a3).wf = true) (w4 : (Lit.int .i64 a4).wf = true) (w5 : (Lit.int .i64 a5).wf = true) (w6 : (Lit.int .i64 a6).wf = true) (w7 : (Lit.int .i64 a7).wf = true) (w8 : (Lit.int .i64 a8).wf = true) :
    DataW.Trod enc Tryz.prog w base spare held 23 (.agg #[.int .i64 a0, .int .i64 a1, .int .i64 a2, .int .i64 a3, .int .i64 a4, .int .i64 a5, .int .i64 a6, .int .i64 a7, .int .i64 a8]) (.agg [.lit (.int .i64 a0), .lit (.int .i64 a1), .lit (.int .i64 a2), .lit (.int .i64 a3), .lit (.int .i64 a4), .lit (.int .i64 a5), .lit (.int .i64 a6), .lit (.int .i64 a7), .lit (.int .i64 a8)]) [] := by
  have T : ∀ {n : Int}, (Lit.int .i64 n).wf = true → DataW.trod enc Tryz.prog w base spare held 1 3 [.int .i64 n] = some (.lit (.int .i64 n), []) := fun hw => trod_int_mk 0 Tryz.underlying3 hw
  have := trod_struct_mk (enc := enc) (w := w) (base := base) (spare := spare) (held := held) (n := 1) (cs := [.int .i64 a0, .int .i64 a1, .int .i64 a2, .int .i64 a3, .int .i64 a4, .int .i64 a5, .int .i64 a6, .int .i64 a7, .int .i64 a8]) (xs := [(.lit (.int .i64 a0), []), (.lit (.int .i64 a1), []), (.lit (.int .i64 a2), []), (.lit (.int .i64 a3), []), (.lit (.int .i64 a4), []), (.lit (.int .i64 a5), []), (.lit (.int .i64 a6), []), (.lit (.int .i64 a7), []), (.lit (.int .i64 a8), [])]) Tryz.underlying23 (by rw [nineH]; rfl) (by simp [one3h, T w0, T w1, T w2, T w3, T w4, T w5, T w6, T w7, T w8])
  exact ⟨2, this⟩
end Go.Proofs.YtlplbnlfajdcbaaGreatDoor
