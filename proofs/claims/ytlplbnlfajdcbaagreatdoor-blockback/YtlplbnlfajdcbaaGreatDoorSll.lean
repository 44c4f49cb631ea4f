/-
  A slice of lines as an argument: opened at every index, its texts within reach. Conditions: as they say.
-/
import Derived.Deep.SlicePairs
import Derived.SizedLaws
import Derived.Test.YtlplbnlfajdcbaaGreatDoorRcI
namespace Go.Proofs.YtlplbnlfajdcbaaGreatDoor
open Go.Deep
open Go.ChangeShapes Go.WideShapes
section
variable {H : Type} {enc : TypeId × Value → H} {P : Program} {w : World} {base : Nat} {spare : Nat → Bool} {held : Bool}
theorem open_slice_lines {t e : TypeId} {f0 f1 : Field} {fuel : Nat} {cs : List Value} {x : DataW H × List MemPlace} (ht : P.underlying t = some (.slice e)) (he : P.underlying e = some (.struct #[f0, f1]))
    (ce : P.cellsOf e = 2) (o0 : f0.offset = 0) (o1 : f1.offset = 1) (c0 : P.cellsOf f0.type = 1) (c1 : P.cellsOf f1.type = 1)
    (u0 : P.underlying f0.type = some (.int .i64)) (u1 : P.underlying f1.type = some .string)
    (h : DataW.trod enc P w base spare held fuel t cs = some x) :
    (cs = [.slice none 0 0] ∧ x = (.nil, [])) ∨
    ∃ (a : Addr) (len cap m : Nat) (D : Nat → DataW H) (q : Nat → Int × ByteArray), cs = [.slice (some a) len cap] ∧ len ≤ m ∧ len ≤ cap ∧
      x.1 = .slice ((List.range len).map D) ((List.range (m - len)).map fun j => D (len + j)) ∧
      ∀ i, i < m → (w.cell? (a.add (i * 2)) = some (.int .i64 (q i).1) ∧ w.cell? (a.add (i * 2 + 1)) = some (.string (q i).2)) ∧
        (Lit.int .i64 (q i).1).wf = true ∧ ∃ y0, D i = .agg [y0, .lit (.string (q i).2.data.toList)] := by
  rcases open_slice ht h with h0 | ⟨a, len, cap, m, n, D, Pl, rfl, hb, hl, hm, hmm, rfl, hx⟩
  · exact Or.inl h0
  right
  have hlm : len ≤ m := by rw [hmm]; split <;> omega
  have each : ∀ i, i < m → ∃ q : Int × ByteArray, (w.cell? (a.add (i * 2)) = some (.int .i64 q.1) ∧ w.cell? (a.add (i * 2 + 1)) = some (.string q.2)) ∧
        (Lit.int .i64 q.1).wf = true ∧ ∃ y0, D i = .agg [y0, .lit (.string q.2.data.toList)] := by
    intro i hi
    obtain ⟨cs', h1, h2⟩ := hx i hi
    rw [ce] at h1
    obtain ⟨_, hlen, hcell⟩ := World.cells?_some h1
    obtain ⟨xs, k, hk, hxy, _, hxl, hf⟩ := DataW.trod_struct he h2
    match xs, hxl, cs', hlen with
    | [y0, y1], _, [v0, v1], _ =>
      have g0 := hf 0 f0 rfl
      have g1 := hf 1 f1 rfl
      simp [o0, o1, c0, c1] at g0 g1
      have e0 := hcell 0 (by omega)
      have e1 := hcell 1 (by omega)
      rw [add_add] at e0 e1
      obtain ⟨n0, q0, _, z0⟩ := DataW.trod_int u0 g0
      obtain ⟨n1, q1, x1⟩ := DataW.trod_string u1 g1
      obtain rfl : v0 = .int .i64 n0 := by simpa using q0
      obtain rfl : v1 = .string n1 := by simpa using q1
      obtain ⟨rfl, _⟩ := x1
      simp only [Prod.mk.injEq] at hxy
      exact ⟨(n0, n1), ⟨by simpa using e0, by simpa using e1⟩, z0, y0.1, by simpa using hxy.1⟩
  obtain ⟨q, hq⟩ := choose_lt each
  exact ⟨a, len, cap, m, D, q, rfl, hlm, hl, rfl, hq⟩
theorem weightsAll_mem (e : TypeId) (d : DataW H) (n : Nat) (hn : n ∈ d.weights P e) : ∀ l : List (DataW H), d ∈ l → n ∈ DataW.weightsAll P e l
  | [], h => by cases h
  | a :: l, h => by
      rw [DataW.weightsAll, List.mem_append]
      rcases List.mem_cons.1 h with rfl | h
      · exact .inl hn
      · exact .inr (weightsAll_mem e d n hn l h)
theorem sized_line {ts : List TypeId} {ds : List (DataW H)} (h : (DataW.weightsEach P ts ds).all (· ≤ reachBytes) = true) {j len i : Nat} {t e : TypeId} {f0 f1 : Field} {D : Nat → DataW H} {sp : List (DataW H)} (ht : ts[j]? = some t) (hd : ds[j]? = some (.slice ((List.range len).map D) sp)) (hu : P.underlying t = some (.slice e)) (he : P.underlying e = some (.struct #[f0, f1]))
    (hi : i < len) {y0 : DataW H} {b : List UInt8} (hD : D i = .agg [y0, .lit (.string b)]) : b.length ≤ reachBytes := by
  have hw : b.length ∈ (D i).weights P e := by
    rw [hD]
    simp [DataW.weights, he, DataW.weightsEach]
  have hm : b.length ∈ DataW.weights P t (.slice ((List.range len).map D) sp) := by
    rw [DataW.weights, hu]
    exact List.mem_cons_of_mem _ (List.mem_append_left _ (weightsAll_mem e (D i) _ hw _ (List.mem_map.2 ⟨i, List.mem_range.2 hi, rfl⟩)))
  have := List.all_eq_true.1 h _ (DataW.weights_mem_each ht hd _ hm)
  simpa using this
end
theorem ls_of (g off len cap : Nat) (q : Nat → Int × ByteArray) (w : World) (h : ∀ i, i < len → w.cell? ⟨g, off + i * 2, none⟩ = some (.int .i64 (q i).1) ∧ w.cell? ⟨g, off + i * 2 + 1, none⟩ = some (.string (q i).2)) :
    LsAt (.slice (some ⟨g, off, none⟩) len cap) ((List.range len).map q) w := by
  refine ⟨some ⟨g, off, none⟩, cap, by simp, fun h0 => ⟨g, off, rfl, ?_, fun i hi => ?_⟩⟩
  · have h1 := (h 0 (by simpa using h0)).1
    rcases Nat.lt_or_ge g w.heap.size with hg | hg
    · exact hg
    · simp [World.cell?, Array.getElem?_eq_none hg] at h1
  · have hi2 : i < len := by simpa using hi
    have e : ((List.range len).map q).getD i (0, ⟨#[]⟩) = q i := by
      rw [List.getD_eq_getElem?_getD, List.getElem?_map, List.getElem?_range hi2]
      rfl
    rw [e]
    exact h i hi2
end Go.Proofs.YtlplbnlfajdcbaaGreatDoor
