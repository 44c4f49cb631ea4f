/-
  A line as an argument: opened. Conditions: as they say.
-/
import Derived.Deep.SlicePairs
import Derived.SizedLaws
import Derived.Test.YtobbobbfmiefeaaRcI
namespace Go.Proofs.Ytobbobbfmiefeaa
open Go.Deep
open Go.ChangeShapes Go.WideShapes
section
variable {H : Type} {enc : TypeId × Value → H} {P : Program} {w : World} {base : Nat} {spare : Nat → Bool} {held : Bool}
theorem open_line {t : TypeId} {f0 f1 : Field} {fuel : Nat} {cs : List Value} {x : DataW H × List MemPlace} (he : P.underlying t = some (.struct #[f0, f1]))
    (ce : P.cellsOf t = 2) (o0 : f0.offset = 0) (o1 : f1.offset = 1) (c0 : P.cellsOf f0.type = 1) (c1 : P.cellsOf f1.type = 1)
    (u0 : P.underlying f0.type = some (.int .i64)) (u1 : P.underlying f1.type = some .string)
    (h : DataW.trod enc P w base spare held fuel t cs = some x) :
    ∃ (n : Int) (b : ByteArray), cs = [.int .i64 n, .string b] ∧ (Lit.int .i64 n).wf = true ∧ ∃ y0, x.1 = .agg [y0, .lit (.string b.data.toList)] := by
  obtain ⟨xs, k, hk, hxy, hlen, hxl, hf⟩ := DataW.trod_struct he h
  rw [ce] at hlen
  match xs, hxl, cs, hlen with
  | [y0, y1], _, [v0, v1], _ =>
    have g0 := hf 0 f0 rfl
    have g1 := hf 1 f1 rfl
    simp [o0, o1, c0, c1] at g0 g1
    obtain ⟨n0, q0, _, z0⟩ := DataW.trod_int u0 g0
    obtain ⟨n1, q1, x1⟩ := DataW.trod_string u1 g1
    obtain rfl : v0 = .int .i64 n0 := by simpa using q0
    obtain rfl : v1 = .string n1 := by simpa using q1
    obtain ⟨rfl, _⟩ := x1
    exact ⟨n0, n1, rfl, z0, y0.1, by rw [hxy]; rfl⟩
theorem sized_one {ts : List TypeId} {ds : List (DataW H)} (h : (DataW.weightsEach P ts ds).all (· ≤ reachBytes) = true) {j : Nat} {t : TypeId} {f0 f1 : Field} (ht : ts[j]? = some t) {y0 : DataW H} {b : List UInt8} (hd : ds[j]? = some (.agg [y0, .lit (.string b)])) (he : P.underlying t = some (.struct #[f0, f1])) : b.length ≤ reachBytes := by
  have := List.all_eq_true.1 h _ (DataW.weights_mem_each ht hd b.length (by simp [DataW.weights, he, DataW.weightsEach]))
  simpa using this
end
end Go.Proofs.Ytobbobbfmiefeaa
