/-
  A slice of structs of a text and two ints: opened at every index, its texts within reach. Conditions: as they say.
-/
import Derived.Deep.SlicePairs
import Derived.SizedLaws
namespace Go.Proofs.Ytlbfnchjbpioeaa
open Go.Deep
open Go.ChangeShapes Go.WideShapes
section
variable {H : Type} {enc : TypeId × Value → H} {P : Program} {w : World} {base : Nat} {spare : Nat → Bool} {held : Bool}
theorem open_slice_steps {t e : TypeId} {f0 f1 f2 : Field} {fuel : Nat} {cs : List Value} {x : DataW H × List MemPlace} (ht : P.underlying t = some (.slice e)) (he : P.underlying e = some (.struct #[f0, f1, f2]))
    (ce : P.cellsOf e = 3) (o0 : f0.offset = 0) (o1 : f1.offset = 1) (o2 : f2.offset = 2) (c0 : P.cellsOf f0.type = 1) (c1 : P.cellsOf f1.type = 1) (c2 : P.cellsOf f2.type = 1)
    (u0 : P.underlying f0.type = some .string) (u1 : P.underlying f1.type = some (.int .i64)) (u2 : P.underlying f2.type = some (.int .i64))
    (h : DataW.trod enc P w base spare held fuel t cs = some x) :
    (cs = [.slice none 0 0] ∧ x = (.nil, [])) ∨
    ∃ (a : Addr) (len cap m : Nat) (D : Nat → DataW H) (q : Nat → ByteArray × Int × Int), cs = [.slice (some a) len cap] ∧ len ≤ m ∧ len ≤ cap ∧
      x.1 = .slice ((List.range len).map D) ((List.range (m - len)).map fun j => D (len + j)) ∧
      ∀ i, i < m → (w.cell? (a.add (i * 3)) = some (.string (q i).1) ∧ w.cell? (a.add (i * 3 + 1)) = some (.int .i64 (q i).2.1) ∧ w.cell? (a.add (i * 3 + 2)) = some (.int .i64 (q i).2.2)) ∧
        ((Lit.int .i64 (q i).2.1).wf = true ∧ (Lit.int .i64 (q i).2.2).wf = true) ∧ ∃ y1 y2, D i = .agg [.lit (.string (q i).1.data.toList), y1, y2] := by
  rcases open_slice ht h with h0 | ⟨a, len, cap, m, n, D, Pl, rfl, hb, hl, hm, hmm, rfl, hx⟩
  · exact Or.inl h0
  right
  have hlm : len ≤ m := by rw [hmm]; split <;> omega
  have each : ∀ i, i < m → ∃ q : ByteArray × Int × Int, (w.cell? (a.add (i * 3)) = some (.string q.1) ∧ w.cell? (a.add (i * 3 + 1)) = some (.int .i64 q.2.1) ∧ w.cell? (a.add (i * 3 + 2)) = some (.int .i64 q.2.2)) ∧
        ((Lit.int .i64 q.2.1).wf = true ∧ (Lit.int .i64 q.2.2).wf = true) ∧ ∃ y1 y2, D i = .agg [.lit (.string q.1.data.toList), y1, y2] := by
    intro i hi
    obtain ⟨cs', h1, h2⟩ := hx i hi
    rw [ce] at h1
    obtain ⟨_, hlen, hcell⟩ := World.cells?_some h1
    obtain ⟨xs, k, hk, hxy, _, hxl, hf⟩ := DataW.trod_struct he h2
    match xs, hxl, cs', hlen with
    | [y0, y1, y2], _, [v0, v1, v2], _ =>
      have g0 := hf 0 f0 rfl
      have g1 := hf 1 f1 rfl
      have g2 := hf 2 f2 rfl
      simp [o0, o1, o2, c0, c1, c2] at g0 g1 g2
      have e0 := hcell 0 (by omega)
      have e1 := hcell 1 (by omega)
      have e2 := hcell 2 (by omega)
      rw [add_add] at e0 e1 e2
      obtain ⟨n0, q0, x0⟩ := DataW.trod_string u0 g0
      obtain ⟨n1, q1, _, z1⟩ := DataW.trod_int u1 g1
      obtain ⟨n2, q2, _, z2⟩ := DataW.trod_int u2 g2
      obtain rfl : v0 = .string n0 := by simpa using q0
      obtain rfl : v1 = .int .i64 n1 := by simpa using q1
      obtain rfl : v2 = .int .i64 n2 := by simpa using q2
      obtain ⟨rfl, _⟩ := x0
      simp only [Prod.mk.injEq] at hxy
      exact ⟨(n0, n1, n2), ⟨by simpa using e0, by simpa using e1, by simpa using e2⟩, ⟨z1, z2⟩, y1.1, y2.1, by simpa using hxy.1⟩
  obtain ⟨q, hq⟩ := choose_lt each
  exact ⟨a, len, cap, m, D, q, rfl, hlm, hl, rfl, hq⟩
theorem weightsAll_mem (e : TypeId) (d : DataW H) (n : Nat) (hn : n ∈ d.weights P e) : ∀ l : List (DataW H), d ∈ l → n ∈ DataW.weightsAll P e l
  | [], h => by cases h
  | a :: l, h => by
      rw [DataW.weightsAll, List.mem_append]
      rcases List.mem_cons.1 h with rfl | h
      · exact .inl hn
      · exact .inr (weightsAll_mem e d n hn l h)
theorem sized_step {ts : List TypeId} {ds : List (DataW H)} (h : (DataW.weightsEach P ts ds).all (· ≤ reachBytes) = true) {j len i : Nat} {t e : TypeId} {f0 f1 f2 : Field} {D : Nat → DataW H} {sp : List (DataW H)} (ht : ts[j]? = some t) (hd : ds[j]? = some (.slice ((List.range len).map D) sp)) (hu : P.underlying t = some (.slice e)) (he : P.underlying e = some (.struct #[f0, f1, f2]))
    (hi : i < len) {y1 y2 : DataW H} {b : List UInt8} (hD : D i = .agg [.lit (.string b), y1, y2]) : b.length ≤ reachBytes := by
  have hw : b.length ∈ (D i).weights P e := by
    rw [hD]
    simp [DataW.weights, he, DataW.weightsEach]
  have hm : b.length ∈ DataW.weights P t (.slice ((List.range len).map D) sp) := by
    rw [DataW.weights, hu]
    exact List.mem_cons_of_mem _ (List.mem_append_left _ (weightsAll_mem e (D i) _ hw _ (List.mem_map.2 ⟨i, List.mem_range.2 hi, rfl⟩)))
  have := List.all_eq_true.1 h _ (DataW.weights_mem_each ht hd _ hm)
  simpa using this
end
end Go.Proofs.Ytlbfnchjbpioeaa
