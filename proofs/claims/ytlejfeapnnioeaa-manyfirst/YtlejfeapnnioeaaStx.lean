/-
  A text in a slice of things is within reach. Conditions: as it says.
-/
import Derived.SliceStrings
import Derived.SliceStrings
import Derived.SizedLaws
namespace Go.Deep
section
variable {H : Type} {P : Program}
theorem weightsAll_mem (e : TypeId) (d : DataW H) (n : Nat) (hn : n ∈ d.weights P e) : ∀ l : List (DataW H), d ∈ l → n ∈ DataW.weightsAll P e l
  | [], h => by cases h
  | a :: l, h => by
      rw [DataW.weightsAll, List.mem_append]
      rcases List.mem_cons.1 h with rfl | h
      · exact .inl hn
      · exact .inr (weightsAll_mem e d n hn l h)
theorem sized_text {ts : List TypeId} {ds : List (DataW H)} (h : (DataW.weightsEach P ts ds).all (· ≤ reachBytes) = true) {j : Nat} {t e : TypeId} {ss sp : List ByteArray} (ht : ts[j]? = some t) (hd : ds[j]? = some (.slice (Go.ChangeShapes.strs ss) (Go.ChangeShapes.strs sp))) (hu : P.underlying t = some (.slice e)) (s : ByteArray) (hs : s ∈ ss) : s.size ≤ reachBytes := by
  have hm : s.data.toList.length ∈ DataW.weights (H := H) P t (.slice (Go.ChangeShapes.strs ss) (Go.ChangeShapes.strs sp)) := by
    rw [DataW.weights, hu]
    exact List.mem_cons_of_mem _ (List.mem_append_left _ (weightsAll_mem e (.lit (.string s.data.toList)) _ (by simp [DataW.weights]) _ (List.mem_map.2 ⟨s, hs, rfl⟩)))
  have := List.all_eq_true.1 h _ (DataW.weights_mem_each ht hd _ hm)
  simpa using this
end
end Go.Deep
