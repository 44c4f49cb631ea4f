/-
  A text in a slice of things is within reach. Conditions: as it says.
-/
import Derived.Test.YthmaaeibdcoemaaSlc
import Derived.SizedLaws
namespace Go.Deep
section
variable {H : Type} {P : Program}
theorem weightsAll_mem (e : TypeId) (d : DataW H) (n : Nat) (hn : n ∈ d.weights P e) : ∀ l : List (DataW H), d ∈ l → n ∈ DataW.weightsAll P e l
  | [], h => by cases h
  | a :: l, h => by
      rw [DataW.weightsAll, List.mem_append]
      rcases List.mem_cons.1 h with rfl | h
      · exact .inl hn
      · exact .inr (weightsAll_mem e d n hn l h)
theorem sized_thing {ts : List TypeId} {ds : List (DataW H)} (h : (DataW.weightsEach P ts ds).all (· ≤ reachBytes) = true) {j len i : Nat} {t e : TypeId} {f0 f1 f2 f3 f4 : Field} {D : Nat → DataW H} {sp : List (DataW H)} (ht : ts[j]? = some t) (hd : ds[j]? = some (.slice ((List.range len).map D) sp)) (hu : P.underlying t = some (.slice e)) (he : P.underlying e = some (.struct #[f0, f1, f2, f3, f4]))
    (hi : i < len) {y0 y1 y2 y4 : DataW H} {b : List UInt8} (hD : D i = .agg [y0, y1, y2, .lit (.string b), y4]) : b.length ≤ reachBytes := by
  have hw : b.length ∈ (D i).weights P e := by
    rw [hD]
    simp [DataW.weights, he, DataW.weightsEach]
  have hm : b.length ∈ DataW.weights P t (.slice ((List.range len).map D) sp) := by
    rw [DataW.weights, hu]
    exact List.mem_cons_of_mem _ (List.mem_append_left _ (weightsAll_mem e (D i) _ hw _ (List.mem_map.2 ⟨i, List.mem_range.2 hi, rfl⟩)))
  have := List.all_eq_true.1 h _ (DataW.weights_mem_each ht hd _ hm)
  simpa using this
end
end Go.Deep
