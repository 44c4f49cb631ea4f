/-
  Slices of structs of three ints, and of an int, a u64, an int, a string and an int: opened at every index. Conditions: as they say.
-/
import Derived.Deep.SlicePairs
namespace Go.Deep
open Go.ChangeShapes Go.WideShapes
section
variable {H : Type} {enc : TypeId × Value → H} {P : Program} {w : World} {base : Nat} {spare : Nat → Bool} {held : Bool}
theorem open_slice_ints3 {t e : TypeId} {f0 f1 f2 : Field} {fuel : Nat} {cs : List Value} {x : DataW H × List MemPlace} (ht : P.underlying t = some (.slice e)) (he : P.underlying e = some (.struct #[f0, f1, f2]))
    (ce : P.cellsOf e = 3) (o0 : f0.offset = 0) (o1 : f1.offset = 1) (o2 : f2.offset = 2) (c0 : P.cellsOf f0.type = 1) (c1 : P.cellsOf f1.type = 1) (c2 : P.cellsOf f2.type = 1)
    (u0 : P.underlying f0.type = some (.int .i64)) (u1 : P.underlying f1.type = some (.int .i64)) (u2 : P.underlying f2.type = some (.int .i64))
    (h : DataW.trod enc P w base spare held fuel t cs = some x) :
    (cs = [.slice none 0 0] ∧ x = (.nil, [])) ∨
    ∃ (a : Addr) (len cap m : Nat) (D : Nat → DataW H) (K O N : Nat → Int), cs = [.slice (some a) len cap] ∧ len ≤ m ∧
      x.1 = .slice ((List.range len).map D) ((List.range (m - len)).map fun j => D (len + j)) ∧
      ∀ i, i < m → (Lit.int .i64 (K i)).wf = true ∧ (Lit.int .i64 (O i)).wf = true ∧ (Lit.int .i64 (N i)).wf = true ∧ w.cell? (a.add (i * 3)) = some (.int .i64 (K i)) ∧ w.cell? (a.add (i * 3 + 1)) = some (.int .i64 (O i)) ∧ w.cell? (a.add (i * 3 + 2)) = some (.int .i64 (N i)) := by
  rcases open_slice ht h with h0 | ⟨a, len, cap, m, n, D, Pl, rfl, hb, hl, hm, hmm, rfl, hx⟩
  · exact Or.inl h0
  right
  have hlm : len ≤ m := by rw [hmm]; split <;> omega
  have each : ∀ i, i < m → ∃ q : Int × Int × Int, (Lit.int .i64 q.1).wf = true ∧ (Lit.int .i64 q.2.1).wf = true ∧ (Lit.int .i64 q.2.2).wf = true ∧ w.cell? (a.add (i * 3)) = some (.int .i64 q.1) ∧ w.cell? (a.add (i * 3 + 1)) = some (.int .i64 q.2.1) ∧ w.cell? (a.add (i * 3 + 2)) = some (.int .i64 q.2.2) := by
    intro i hi
    obtain ⟨cs', h1, h2⟩ := hx i hi
    rw [ce] at h1
    obtain ⟨_, hlen, hcell⟩ := World.cells?_some h1
    obtain ⟨xs, k, hk, hxy, _, hxl, hf⟩ := DataW.trod_struct he h2
    match xs, hxl, cs', hlen with
    | [y0, y1, y2], _, [v0, v1, v2], _ =>
      have g0 := hf 0 f0 rfl
      have g1 := hf 1 f1 rfl
      have g2 := hf 2 f2 rfl
      simp [o0, o1, o2, c0, c1, c2] at g0 g1 g2
      have e0 := hcell 0 (by omega)
      have e1 := hcell 1 (by omega)
      have e2 := hcell 2 (by omega)
      rw [add_add] at e0 e1 e2
      obtain ⟨n0, q0, _, z0⟩ := DataW.trod_int u0 g0
      obtain ⟨n1, q1, _, z1⟩ := DataW.trod_int u1 g1
      obtain ⟨n2, q2, _, z2⟩ := DataW.trod_int u2 g2
      obtain rfl : v0 = .int .i64 n0 := by simpa using q0
      obtain rfl : v1 = .int .i64 n1 := by simpa using q1
      obtain rfl : v2 = .int .i64 n2 := by simpa using q2
      exact ⟨(n0, n1, n2), z0, z1, z2, by simpa using e0, by simpa using e1, by simpa using e2⟩
  obtain ⟨q, hq⟩ := choose_lt each
  exact ⟨a, len, cap, m, D, fun i => (q i).1, fun i => (q i).2.1, fun i => (q i).2.2, rfl, hlm, rfl, hq⟩
theorem open_slice_things {t e : TypeId} {f0 f1 f2 f3 f4 : Field} {fuel : Nat} {cs : List Value} {x : DataW H × List MemPlace} (ht : P.underlying t = some (.slice e)) (he : P.underlying e = some (.struct #[f0, f1, f2, f3, f4]))
    (ce : P.cellsOf e = 5) (o0 : f0.offset = 0) (o1 : f1.offset = 1) (o2 : f2.offset = 2) (o3 : f3.offset = 3) (o4 : f4.offset = 4) (c0 : P.cellsOf f0.type = 1) (c1 : P.cellsOf f1.type = 1) (c2 : P.cellsOf f2.type = 1) (c3 : P.cellsOf f3.type = 1) (c4 : P.cellsOf f4.type = 1)
    (u0 : P.underlying f0.type = some (.int .i64)) (u1 : P.underlying f1.type = some (.int .u64)) (u2 : P.underlying f2.type = some (.int .i64)) (u3 : P.underlying f3.type = some .string) (u4 : P.underlying f4.type = some (.int .i64))
    (h : DataW.trod enc P w base spare held fuel t cs = some x) :
    (cs = [.slice none 0 0] ∧ x = (.nil, [])) ∨
    ∃ (a : Addr) (len cap m : Nat) (D : Nat → DataW H) (q : Nat → Int × Int × Int × ByteArray × Int), cs = [.slice (some a) len cap] ∧ len ≤ m ∧
      x.1 = .slice ((List.range len).map D) ((List.range (m - len)).map fun j => D (len + j)) ∧
      ∀ i, i < m → ((Lit.int .i64 (q i).1).wf = true ∧ (Lit.int .u64 (q i).2.1).wf = true ∧ (Lit.int .i64 (q i).2.2.1).wf = true ∧ (Lit.int .i64 (q i).2.2.2.2).wf = true) ∧
        (w.cell? (a.add (i * 5)) = some (.int .i64 (q i).1) ∧ w.cell? (a.add (i * 5 + 1)) = some (.int .u64 (q i).2.1) ∧ w.cell? (a.add (i * 5 + 2)) = some (.int .i64 (q i).2.2.1) ∧ w.cell? (a.add (i * 5 + 3)) = some (.string (q i).2.2.2.1) ∧ w.cell? (a.add (i * 5 + 4)) = some (.int .i64 (q i).2.2.2.2)) ∧
        ∃ y0 y1 y2 y4, D i = .agg [y0, y1, y2, .lit (.string (q i).2.2.2.1.data.toList), y4] := by
  rcases open_slice ht h with h0 | ⟨a, len, cap, m, n, D, Pl, rfl, hb, hl, hm, hmm, rfl, hx⟩
  · exact Or.inl h0
  right
  have hlm : len ≤ m := by rw [hmm]; split <;> omega
  have each : ∀ i, i < m → ∃ q : Int × Int × Int × ByteArray × Int, ((Lit.int .i64 q.1).wf = true ∧ (Lit.int .u64 q.2.1).wf = true ∧ (Lit.int .i64 q.2.2.1).wf = true ∧ (Lit.int .i64 q.2.2.2.2).wf = true) ∧
        (w.cell? (a.add (i * 5)) = some (.int .i64 q.1) ∧ w.cell? (a.add (i * 5 + 1)) = some (.int .u64 q.2.1) ∧ w.cell? (a.add (i * 5 + 2)) = some (.int .i64 q.2.2.1) ∧ w.cell? (a.add (i * 5 + 3)) = some (.string q.2.2.2.1) ∧ w.cell? (a.add (i * 5 + 4)) = some (.int .i64 q.2.2.2.2)) ∧
        ∃ y0 y1 y2 y4, D i = .agg [y0, y1, y2, .lit (.string q.2.2.2.1.data.toList), y4] := by
    intro i hi
    obtain ⟨cs', h1, h2⟩ := hx i hi
    rw [ce] at h1
    obtain ⟨_, hlen, hcell⟩ := World.cells?_some h1
    obtain ⟨xs, k, hk, hxy, _, hxl, hf⟩ := DataW.trod_struct he h2
    match xs, hxl, cs', hlen with
    | [y0, y1, y2, y3, y4], _, [v0, v1, v2, v3, v4], _ =>
      have g0 := hf 0 f0 rfl
      have g1 := hf 1 f1 rfl
      have g2 := hf 2 f2 rfl
      have g3 := hf 3 f3 rfl
      have g4 := hf 4 f4 rfl
      simp [o0, o1, o2, o3, o4, c0, c1, c2, c3, c4] at g0 g1 g2 g3 g4
      have e0 := hcell 0 (by omega)
      have e1 := hcell 1 (by omega)
      have e2 := hcell 2 (by omega)
      have e3 := hcell 3 (by omega)
      have e4 := hcell 4 (by omega)
      rw [add_add] at e0 e1 e2 e3 e4
      obtain ⟨n0, q0, _, z0⟩ := DataW.trod_int u0 g0
      obtain ⟨n1, q1, _, z1⟩ := DataW.trod_int u1 g1
      obtain ⟨n2, q2, _, z2⟩ := DataW.trod_int u2 g2
      obtain ⟨n3, q3, x3⟩ := DataW.trod_string u3 g3
      obtain ⟨n4, q4, _, z4⟩ := DataW.trod_int u4 g4
      obtain rfl : v0 = .int .i64 n0 := by simpa using q0
      obtain rfl : v1 = .int .u64 n1 := by simpa using q1
      obtain rfl : v2 = .int .i64 n2 := by simpa using q2
      obtain rfl : v4 = .int .i64 n4 := by simpa using q4
      obtain rfl : v3 = .string n3 := by simpa using q3
      obtain ⟨rfl, _⟩ := x3
      simp only [Prod.mk.injEq] at hxy
      exact ⟨(n0, n1, n2, n3, n4), ⟨z0, z1, z2, z4⟩, ⟨by simpa using e0, by simpa using e1, by simpa using e2, by simpa using e3, by simpa using e4⟩, y0.1, y1.1, y2.1, y4.1, by simpa using hxy.1⟩
  obtain ⟨q, hq⟩ := choose_lt each
  exact ⟨a, len, cap, m, D, q, rfl, hlm, rfl, hq⟩
end
end Go.Deep
