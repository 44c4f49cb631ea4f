/-
  Lines and a head as arguments. Conditions: as each says.
-/
import Derived.Deep.SlicePairs
import Derived.SizedLaws
import Derived.Test.YtlplbnlfajdcbaaGreatDoorRcI
import Derived.ChangeSame
import Derived.ChangeArms
import Derived.ChangeShapes
import Derived.WideShapes
namespace Go.Proofs.YtlplbnlfajdcbaaGreatDoor
open Go.Deep
open Go.ChangeShapes Go.WideShapes
section
variable {H : Type} {enc : TypeId × Value → H} {P : Program} {w : World} {base : Nat} {spare : Nat → Bool} {held : Bool}
theorem open_slice_lines {t e : TypeId} {f0 f1 : Field} {fuel : Nat} {cs : List Value} {x : DataW H × List MemPlace} (ht : P.underlying t = some (.slice e)) (he : P.underlying e = some (.struct #[f0, f1]))
    (ce : P.cellsOf e = 2) (o0 : f0.offset = 0) (o1 : f1.offset = 1) (c0 : P.cellsOf f0.type = 1) (c1 : P.cellsOf f1.type = 1)
    (u0 : P.underlying f0.type = some (.int .i64)) (u1 : P.underlying f1.type = some .string)
    (h : DataW.trod enc P w base spare held fuel t cs = some x) :
    (cs = [.slice none 0 0] ∧ x = (.nil, [])) ∨
    ∃ (a : Addr) (len cap m : Nat) (D : Nat → DataW H) (q : Nat → Int × ByteArray), cs = [.slice (some a) len cap] ∧ len ≤ m ∧ len ≤ cap ∧
      x.1 = .slice ((List.range len).map D) ((List.range (m - len)).map fun j => D (len + j)) ∧
      ∀ i, i < m → (w.cell? (a.add (i * 2)) = some (.int .i64 (q i).1) ∧ w.cell? (a.add (i * 2 + 1)) = some (.string (q i).2)) ∧
        (Lit.int .i64 (q i).1).wf = true ∧ ∃ y0, D i = .agg [y0, .lit (.string (q i).2.data.toList)] := by
  rcases open_slice ht h with h0 | ⟨a, len, cap, m, n, D, Pl, rfl, hb, hl, hm, hmm, rfl, hx⟩
  · exact Or.inl h0
  right
  have hlm : len ≤ m := by rw [hmm]; split <;> omega
  have each : ∀ i, i < m → ∃ q : Int × ByteArray, (w.cell? (a.add (i * 2)) = some (.int .i64 q.1) ∧ w.cell? (a.add (i * 2 + 1)) = some (.string q.2)) ∧
        (Lit.int .i64 q.1).wf = true ∧ ∃ y0, D i = .agg [y0, .lit (.string q.2.data.toList)] := by
    intro i hi
    obtain ⟨cs', h1, h2⟩ := hx i hi
    rw [ce] at h1
    obtain ⟨_, hlen, hcell⟩ := World.cells?_some h1
    obtain ⟨xs, k, hk, hxy, _, hxl, hf⟩ := DataW.trod_struct he h2
    match xs, hxl, cs', hlen with
    | [y0, y1], _, [v0, v1], _ =>
      have g0 := hf 0 f0 rfl
      have g1 := hf 1 f1 rfl
      simp [o0, o1, c0, c1] at g0 g1
      have e0 := hcell 0 (by omega)
      have e1 := hcell 1 (by omega)
      rw [add_add] at e0 e1
      obtain ⟨n0, q0, _, z0⟩ := DataW.trod_int u0 g0
      obtain ⟨n1, q1, x1⟩ := DataW.trod_string u1 g1
      obtain rfl : v0 = .int .i64 n0 := by simpa using q0
      obtain rfl : v1 = .string n1 := by simpa using q1
      obtain ⟨rfl, _⟩ := x1
      simp only [Prod.mk.injEq] at hxy
      exact ⟨(n0, n1), ⟨by simpa using e0, by simpa using e1⟩, z0, y0.1, by simpa using hxy.1⟩
  obtain ⟨q, hq⟩ := choose_lt each
  exact ⟨a, len, cap, m, D, q, rfl, hlm, hl, rfl, hq⟩
theorem weightsAll_mem (e : TypeId) (d : DataW H) (n : Nat) (hn : n ∈ d.weights P e) : ∀ l : List (DataW H), d ∈ l → n ∈ DataW.weightsAll P e l
  | [], h => by cases h
  | a :: l, h => by
      rw [DataW.weightsAll, List.mem_append]
      rcases List.mem_cons.1 h with rfl | h
      · exact .inl hn
      · exact .inr (weightsAll_mem e d n hn l h)
theorem sized_line {ts : List TypeId} {ds : List (DataW H)} (h : (DataW.weightsEach P ts ds).all (· ≤ reachBytes) = true) {j len i : Nat} {t e : TypeId} {f0 f1 : Field} {D : Nat → DataW H} {sp : List (DataW H)} (ht : ts[j]? = some t) (hd : ds[j]? = some (.slice ((List.range len).map D) sp)) (hu : P.underlying t = some (.slice e)) (he : P.underlying e = some (.struct #[f0, f1]))
    (hi : i < len) {y0 : DataW H} {b : List UInt8} (hD : D i = .agg [y0, .lit (.string b)]) : b.length ≤ reachBytes := by
  have hw : b.length ∈ (D i).weights P e := by
    rw [hD]
    simp [DataW.weights, he, DataW.weightsEach]
  have hm : b.length ∈ DataW.weights P t (.slice ((List.range len).map D) sp) := by
    rw [DataW.weights, hu]
    exact List.mem_cons_of_mem _ (List.mem_append_left _ (weightsAll_mem e (D i) _ hw _ (List.mem_map.2 ⟨i, List.mem_range.2 hi, rfl⟩)))
  have := List.all_eq_true.1 h _ (DataW.weights_mem_each ht hd _ hm)
  simpa using this
end
theorem ls_of (g off len cap : Nat) (q : Nat → Int × ByteArray) (w : World) (h : ∀ i, i < len → w.cell? ⟨g, off + i * 2, none⟩ = some (.int .i64 (q i).1) ∧ w.cell? ⟨g, off + i * 2 + 1, none⟩ = some (.string (q i).2)) :
    LsAt (.slice (some ⟨g, off, none⟩) len cap) ((List.range len).map q) w := by
  refine ⟨some ⟨g, off, none⟩, cap, by simp, fun h0 => ⟨g, off, rfl, ?_, fun i hi => ?_⟩⟩
  · have h1 := (h 0 (by simpa using h0)).1
    rcases Nat.lt_or_ge g w.heap.size with hg | hg
    · exact hg
    · simp [World.cell?, Array.getElem?_eq_none hg] at h1
  · have hi2 : i < len := by simpa using hi
    have e : ((List.range len).map q).getD i (0, ⟨#[]⟩) = q i := by
      rw [List.getD_eq_getElem?_getD, List.getElem?_map, List.getElem?_range hi2]
      rfl
    rw [e]
    exact h i hi2
end Go.Proofs.YtlplbnlfajdcbaaGreatDoor

namespace Go.Proofs.YtlplbnlfajdcbaaGreatDoor
open Go.RowKit Go.ChangeShapes Go.WideShapes
set_option linter.unusedVariables false
theorem nineL {α : Type} : ∀ (l : List α), l.length = 9 → ∃ a0 a1 a2 a3 a4 a5 a6 a7 a8, l = [a0, a1, a2, a3, a4, a5, a6, a7, a8]
  | [a0, a1, a2, a3, a4, a5, a6, a7, a8], _ => ⟨a0, a1, a2, a3, a4, a5, a6, a7, a8, rfl⟩
theorem nineA {α : Type} (cs : Array α) (h : cs.size = 9) : ∃ a0 a1 a2 a3 a4 a5 a6 a7 a8, cs = #[a0, a1, a2, a3, a4, a5, a6, a7, a8] := by
  obtain ⟨l⟩ := cs
  obtain ⟨a0, a1, a2, a3, a4, a5, a6, a7, a8, rfl⟩ := nineL l h
  exact ⟨a0, a1, a2, a3, a4, a5, a6, a7, a8, rfl⟩
theorem one3h : Tryz.prog.cellsOf 3 = 1 := by kernel_rfl
theorem nineH : Tryz.prog.cellsOf 23 = 9 := by kernel_rfl
set_option maxRecDepth 100000 in
theorem open_head {H : Type} {enc : TypeId × Value → H} {w : World} {base b0 : Nat} {spare : Nat → Bool} {held : Bool} {r : Reach} {v : Value} {d : DataW H} {p : List MemPlace} (hv : Value.okWide Tryz.prog w r b0 23 v) (h : DataW.Trod enc Tryz.prog w base spare held 23 v d p) :
    ∃ a0 a1 a2 a3 a4 a5 a6 a7 a8 : Int, v = .agg #[.int .i64 a0, .int .i64 a1, .int .i64 a2, .int .i64 a3, .int .i64 a4, .int .i64 a5, .int .i64 a6, .int .i64 a7, .int .i64 a8] ∧ d = .agg [.lit (.int .i64 a0), .lit (.int .i64 a1), .lit (.int .i64 a2), .lit (.int .i64 a3), .lit (.int .i64 a4), .lit (.int .i64 a5), .lit (.int .i64 a6), .lit (.int .i64 a7), .lit (.int .i64 a8)] ∧ p = [] ∧
      (Lit.int .i64 a0).wf = true ∧ (Lit.int .i64 a1).wf = true ∧ (Lit.int .i64 a2).wf = true ∧ (Lit.int .i64 a3).wf = true ∧ (Lit.int .i64 a4).wf = true ∧ (Lit.int .i64 a5).wf = true ∧ (Lit.int .i64 a6).wf = true ∧ (Lit.int .i64 a7).wf = true ∧ (Lit.int .i64 a8).wf = true := by
  obtain ⟨cs, rfl, hsz⟩ := okWide_struct Tryz.underlying23 hv
  obtain ⟨c0, c1, c2, c3, c4, c5, c6, c7, c8, rfl⟩ := nineA cs (hsz.trans nineH)
  obtain ⟨fuel, hf⟩ := h
  obtain ⟨xs, n, _, hx, _, hlen, hfs⟩ := DataW.trod_struct Tryz.underlying23 hf
  obtain ⟨y0, y1, y2, y3, y4, y5, y6, y7, y8, rfl⟩ := nineL xs hlen
  have g0 : DataW.trod enc Tryz.prog w base spare held n 3 (((Value.agg #[c0, c1, c2, c3, c4, c5, c6, c7, c8]).cells.toList.drop 0).take (Tryz.prog.cellsOf 3)) = some y0 := hfs 0 _ rfl
  have g1 : DataW.trod enc Tryz.prog w base spare held n 3 (((Value.agg #[c0, c1, c2, c3, c4, c5, c6, c7, c8]).cells.toList.drop 1).take (Tryz.prog.cellsOf 3)) = some y1 := hfs 1 _ rfl
  have g2 : DataW.trod enc Tryz.prog w base spare held n 3 (((Value.agg #[c0, c1, c2, c3, c4, c5, c6, c7, c8]).cells.toList.drop 2).take (Tryz.prog.cellsOf 3)) = some y2 := hfs 2 _ rfl
  have g3 : DataW.trod enc Tryz.prog w base spare held n 3 (((Value.agg #[c0, c1, c2, c3, c4, c5, c6, c7, c8]).cells.toList.drop 3).take (Tryz.prog.cellsOf 3)) = some y3 := hfs 3 _ rfl
  have g4 : DataW.trod enc Tryz.prog w base spare held n 3 (((Value.agg #[c0, c1, c2, c3, c4, c5, c6, c7, c8]).cells.toList.drop 4).take (Tryz.prog.cellsOf 3)) = some y4 := hfs 4 _ rfl
  have g5 : DataW.trod enc Tryz.prog w base spare held n 3 (((Value.agg #[c0, c1, c2, c3, c4, c5, c6, c7, c8]).cells.toList.drop 5).take (Tryz.prog.cellsOf 3)) = some y5 := hfs 5 _ rfl
  have g6 : DataW.trod enc Tryz.prog w base spare held n 3 (((Value.agg #[c0, c1, c2, c3, c4, c5, c6, c7, c8]).cells.toList.drop 6).take (Tryz.prog.cellsOf 3)) = some y6 := hfs 6 _ rfl
  have g7 : DataW.trod enc Tryz.prog w base spare held n 3 (((Value.agg #[c0, c1, c2, c3, c4, c5, c6, c7, c8]).cells.toList.drop 7).take (Tryz.prog.cellsOf 3)) = some y7 := hfs 7 _ rfl
  have g8 : DataW.trod enc Tryz.prog w base spare held n 3 (((Value.agg #[c0, c1, c2, c3, c4, c5, c6, c7, c8]).cells.toList.drop 8).take (Tryz.prog.cellsOf 3)) = some y8 := hfs 8 _ rfl
  rw [one3h] at g0 g1 g2 g3 g4 g5 g6 g7 g8
  obtain ⟨a0, e0, rfl, w0⟩ := DataW.trod_int Tryz.underlying3 g0
  obtain ⟨a1, e1, rfl, w1⟩ := DataW.trod_int Tryz.underlying3 g1
  obtain ⟨a2, e2, rfl, w2⟩ := DataW.trod_int Tryz.underlying3 g2
  obtain ⟨a3, e3, rfl, w3⟩ := DataW.trod_int Tryz.underlying3 g3
  obtain ⟨a4, e4, rfl, w4⟩ := DataW.trod_int Tryz.underlying3 g4
  obtain ⟨a5, e5, rfl, w5⟩ := DataW.trod_int Tryz.underlying3 g5
  obtain ⟨a6, e6, rfl, w6⟩ := DataW.trod_int Tryz.underlying3 g6
  obtain ⟨a7, e7, rfl, w7⟩ := DataW.trod_int Tryz.underlying3 g7
  obtain ⟨a8, e8, rfl, w8⟩ := DataW.trod_int Tryz.underlying3 g8
  simp [Value.cells] at e0 e1 e2 e3 e4 e5 e6 e7 e8
  subst e0 e1 e2 e3 e4 e5 e6 e7 e8
  simp only [Prod.mk.injEq] at hx
  exact ⟨a0, a1, a2, a3, a4, a5, a6, a7, a8, rfl, hx.1, hx.2, w0, w1, w2, w3, w4, w5, w6, w7, w8⟩
set_option maxRecDepth 100000 in
theorem shut_head {H : Type} {enc : TypeId × Value → H} {w : World} {base : Nat} {spare : Nat → Bool} {held : Bool} {a0 a1 a2 a3 a4 a5 a6 a7 a8 : Int} (w0 : (Lit.int .i64 a0).wf = true) (w1 : (Lit.int .i64 a1).wf = true) (w2 : (Lit.int .i64 a2).wf = true) (w3 : (Lit.int .i64 a3).wf = true) (w4 : (Lit.int .i64 a4).wf = true) (w5 : (Lit.int .i64 a5).wf = true) (w6 : (Lit.int .i64 a6).wf = true) (w7 : (Lit.int .i64 a7).wf = true) (w8 : (Lit.int .i64 a8).wf = true) :
    DataW.Trod enc Tryz.prog w base spare held 23 (.agg #[.int .i64 a0, .int .i64 a1, .int .i64 a2, .int .i64 a3, .int .i64 a4, .int .i64 a5, .int .i64 a6, .int .i64 a7, .int .i64 a8]) (.agg [.lit (.int .i64 a0), .lit (.int .i64 a1), .lit (.int .i64 a2), .lit (.int .i64 a3), .lit (.int .i64 a4), .lit (.int .i64 a5), .lit (.int .i64 a6), .lit (.int .i64 a7), .lit (.int .i64 a8)]) [] := by
  have T : ∀ {n : Int}, (Lit.int .i64 n).wf = true → DataW.trod enc Tryz.prog w base spare held 1 3 [.int .i64 n] = some (.lit (.int .i64 n), []) := fun hw => trod_int_mk 0 Tryz.underlying3 hw
  have := trod_struct_mk (enc := enc) (w := w) (base := base) (spare := spare) (held := held) (n := 1) (cs := [.int .i64 a0, .int .i64 a1, .int .i64 a2, .int .i64 a3, .int .i64 a4, .int .i64 a5, .int .i64 a6, .int .i64 a7, .int .i64 a8]) (xs := [(.lit (.int .i64 a0), []), (.lit (.int .i64 a1), []), (.lit (.int .i64 a2), []), (.lit (.int .i64 a3), []), (.lit (.int .i64 a4), []), (.lit (.int .i64 a5), []), (.lit (.int .i64 a6), []), (.lit (.int .i64 a7), []), (.lit (.int .i64 a8), [])]) Tryz.underlying23 (by rw [nineH]; rfl) (by simp [one3h, T w0, T w1, T w2, T w3, T w4, T w5, T w6, T w7, T w8])
  exact ⟨2, this⟩
end Go.Proofs.YtlplbnlfajdcbaaGreatDoor
