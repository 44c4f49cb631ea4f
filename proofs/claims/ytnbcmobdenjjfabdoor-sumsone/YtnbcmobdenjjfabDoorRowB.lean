/-
  A text's bytes in new memory, written and read: what the laws do with them. No conditions but those that each fact names.
-/
import Derived.Test.YtnbcmobdenjjfabDoorText
import Derived.Lib.ConvBytes
import Derived.Laws.CopyRow
namespace Go.Proofs.YtnbcmobdenjjfabDoor
open Go.RowKit
set_option linter.unusedVariables false
/-- block g holds the bytes M from its head on, none of them frozen -/
def RowB (g : Nat) (M : List Nat) (w : World) : Prop := ∀ j, j < M.length → w.cell? ⟨g, j, none⟩ = some (.int .u8 ((M.getD j 0 : Nat) : Int)) ∧ w.frozen? ⟨g, j, none⟩ = false
theorem RowB.set {g : Nat} {M : List Nat} {w : World} (h : RowB g M w) (q b : Nat) (hq : q < M.length) : RowB g (M.set q b) (w.setCell ⟨g, q, none⟩ (.int .u8 (b : Int))) := by
  intro j hj
  rw [List.length_set] at hj
  have hj2 := h j hj
  refine ⟨?_, ?_⟩
  · by_cases e : q = j
    · subst e
      rw [List.getD_eq_getElem?_getD, List.getElem?_set_self hq]
      rw [World.cell?_setCell_same' _ _ _ (by rw [hj2.1]; rfl)]
      rfl
    · rw [World.cell?_setCell_other _ _ _ _ (fun x => e (by simpa using congrArg Addr.off x)), hj2.1, List.getD_eq_getElem?_getD, List.getD_eq_getElem?_getD, List.getElem?_set_ne e]
  · rw [World.frozen?_setCell]; exact hj2.2
theorem RowB.new (w : World) (s : ByteArray) : RowB w.heap.size (Sums.bl s) (Lib.bytesWorld w 5 s) := by
  intro j hj
  rw [Sums.bl_length] at hj
  have h2 : j < s.data.toList.length := by simpa using hj
  refine ⟨?_, ?_⟩
  · rw [Lib.bytesWorld_cell w 5 s j hj, Sums.bl_get s j hj, List.getD_eq_getElem?_getD, List.getElem?_eq_getElem h2]
    rfl
  · have hb : j < (Lib.bytesCells w 5 s).size := by
      unfold Lib.bytesCells
      simp
      omega
    simp only [World.frozen?, Lib.bytesWorld_at_new]
    simp
    omega
theorem below_new {B : Nat} {w0 w : World} (h : Below B w0 w) (hB : B ≤ w.heap.size) (s : ByteArray) : Below B w0 (Lib.bytesWorld w 5 s) :=
  h.trans ⟨rfl, rfl, rfl, by rw [Lib.bytesWorld_size]; omega, fun k hk => Lib.bytesWorld_at_old w 5 s k (by omega)⟩
def rowS (M : List Nat) : ByteArray := strOfNums (M.map fun z => ((z : Nat) : Int))
theorem bl_rowS (M : List Nat) (h : ∀ z ∈ M, z < 256) : Sums.bl (rowS M) = M := bl_nums M h
theorem RowB.text {g : Nat} {M : List Nat} {w : World} (h : RowB g M w) (c : Nat) : (convert 22 9 (.slice (some ⟨g, 0, none⟩) M.length c)).run Tryd.prog w = .ok (.string (rowS M)) w := by
  refine run_convert_bytes_arg w 22 5 Tryd.underlying22 Tryd.underlying5 g 0 M.length c _ (by simp) (fun i hi => ?_) 9 Tryd.underlying9
  rw [Nat.zero_add, (h i hi).1]
  rw [List.getD_eq_getElem?_getD, List.getD_eq_getElem?_getD, List.getElem?_map, List.getElem?_eq_getElem hi]
  rfl
theorem RowB.drewN {g : Nat} {M : List Nat} {w : World} (h : RowB g M w) (n : Nat) : RowB g M (w.drewN n) := h
end Go.Proofs.YtnbcmobdenjjfabDoor
