/-
  A slice of structs of two texts: opened at every index, its texts within reach. Conditions: as they say.
-/
import Derived.Deep.SlicePairs
import Derived.SizedLaws
namespace Go.Proofs.YtkplbggefiemdaaGreatDoor
open Go.Deep
open Go.ChangeShapes Go.WideShapes
section
variable {H : Type} {enc : TypeId × Value → H} {P : Program} {w : World} {base : Nat} {spare : Nat → Bool} {held : Bool}
theorem open_slice_two {t e : TypeId} {f0 f1 : Field} {fuel : Nat} {cs : List Value} {x : DataW H × List MemPlace} (ht : P.underlying t = some (.slice e)) (he : P.underlying e = some (.struct #[f0, f1]))
    (ce : P.cellsOf e = 2) (o0 : f0.offset = 0) (o1 : f1.offset = 1) (c0 : P.cellsOf f0.type = 1) (c1 : P.cellsOf f1.type = 1)
    (u0 : P.underlying f0.type = some .string) (u1 : P.underlying f1.type = some .string)
    (h : DataW.trod enc P w base spare held fuel t cs = some x) :
    (cs = [.slice none 0 0] ∧ x = (.nil, [])) ∨
    ∃ (a : Addr) (len cap m : Nat) (D : Nat → DataW H) (q : Nat → ByteArray × ByteArray), cs = [.slice (some a) len cap] ∧ len ≤ m ∧ len ≤ cap ∧
      x.1 = .slice ((List.range len).map D) ((List.range (m - len)).map fun j => D (len + j)) ∧
      ∀ i, i < m → (w.cell? (a.add (i * 2)) = some (.string (q i).1) ∧ w.cell? (a.add (i * 2 + 1)) = some (.string (q i).2)) ∧
        D i = .agg [.lit (.string (q i).1.data.toList), .lit (.string (q i).2.data.toList)] := by
  rcases open_slice ht h with h0 | ⟨a, len, cap, m, n, D, Pl, rfl, hb, hl, hm, hmm, rfl, hx⟩
  · exact Or.inl h0
  right
  have hlm : len ≤ m := by rw [hmm]; split <;> omega
  have each : ∀ i, i < m → ∃ q : ByteArray × ByteArray, (w.cell? (a.add (i * 2)) = some (.string q.1) ∧ w.cell? (a.add (i * 2 + 1)) = some (.string q.2)) ∧
        D i = .agg [.lit (.string q.1.data.toList), .lit (.string q.2.data.toList)] := by
    intro i hi
    obtain ⟨cs', h1, h2⟩ := hx i hi
    rw [ce] at h1
    obtain ⟨_, hlen, hcell⟩ := World.cells?_some h1
    obtain ⟨xs, k, hk, hxy, _, hxl, hf⟩ := DataW.trod_struct he h2
    match xs, hxl, cs', hlen with
    | [y0, y1], _, [v0, v1], _ =>
      have g0 := hf 0 f0 rfl
      have g1 := hf 1 f1 rfl
      simp [o0, o1, c0, c1] at g0 g1
      have e0 := hcell 0 (by omega)
      have e1 := hcell 1 (by omega)
      rw [add_add] at e0 e1
      obtain ⟨n0, q0, x0⟩ := DataW.trod_string u0 g0
      obtain ⟨n1, q1, x1⟩ := DataW.trod_string u1 g1
      obtain rfl : v0 = .string n0 := by simpa using q0
      obtain rfl : v1 = .string n1 := by simpa using q1
      obtain ⟨rfl, _⟩ := x0
      obtain ⟨rfl, _⟩ := x1
      simp only [Prod.mk.injEq] at hxy
      exact ⟨(n0, n1), ⟨by simpa using e0, by simpa using e1⟩, by simpa using hxy.1⟩
  obtain ⟨q, hq⟩ := choose_lt each
  exact ⟨a, len, cap, m, D, q, rfl, hlm, hl, rfl, hq⟩
theorem weightsAll_mem (e : TypeId) (d : DataW H) (n : Nat) (hn : n ∈ d.weights P e) : ∀ l : List (DataW H), d ∈ l → n ∈ DataW.weightsAll P e l
  | [], h => by cases h
  | a :: l, h => by
      rw [DataW.weightsAll, List.mem_append]
      rcases List.mem_cons.1 h with rfl | h
      · exact .inl hn
      · exact .inr (weightsAll_mem e d n hn l h)
theorem sized_two {ts : List TypeId} {ds : List (DataW H)} (h : (DataW.weightsEach P ts ds).all (· ≤ reachBytes) = true) {j len i : Nat} {t e : TypeId} {f0 f1 : Field} {D : Nat → DataW H} {sp : List (DataW H)} (ht : ts[j]? = some t) (hd : ds[j]? = some (.slice ((List.range len).map D) sp)) (hu : P.underlying t = some (.slice e)) (he : P.underlying e = some (.struct #[f0, f1]))
    (hi : i < len) {b c : List UInt8} (hD : D i = .agg [.lit (.string b), .lit (.string c)]) : b.length ≤ reachBytes ∧ c.length ≤ reachBytes := by
  have hw : b.length ∈ (D i).weights P e ∧ c.length ∈ (D i).weights P e := by
    rw [hD]
    constructor <;> simp [DataW.weights, he, DataW.weightsEach]
  have hm : ∀ k, k ∈ (D i).weights P e → k ∈ DataW.weights P t (.slice ((List.range len).map D) sp) := by
    intro k hk
    rw [DataW.weights, hu]
    exact List.mem_cons_of_mem _ (List.mem_append_left _ (weightsAll_mem e (D i) _ hk _ (List.mem_map.2 ⟨i, List.mem_range.2 hi, rfl⟩)))
  have h1 := List.all_eq_true.1 h _ (DataW.weights_mem_each ht hd _ (hm _ hw.1))
  have h2 := List.all_eq_true.1 h _ (DataW.weights_mem_each ht hd _ (hm _ hw.2))
  exact ⟨by simpa using h1, by simpa using h2⟩
end
end Go.Proofs.YtkplbggefiemdaaGreatDoor
