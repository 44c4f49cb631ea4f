/-
  What strings.Clone does, and a Reader's Take. Conditions: as each says.
-/
import Derived.Test.YthmaaeibdcoemabRUint
import Derived.Lib.UnsafeStr
import Derived.Laws.MakeOwn
namespace Go.Proofs.Ythmaaeibdcoemab
open Go.RowKit
set_option linter.unusedVariables false
theorem run_copy_str (P : Program) (w : World) (dT sT ty elem : TypeId) (g o dLen dCap : Nat) (s : ByteArray) (cs : List Value) (t : TypeId)
    (hu : P.underlying dT = some (.slice elem)) (hs : (P.info? elem).map (·.size) = some 1) (hg : w.heap[g]? = some (.cells cs.toArray t (0, 0))) (hfit : o + Nat.min s.size dLen ≤ cs.length) :
    (Builtin.copy_ #[dT, sT] ty #[.slice (some ⟨g, o, none⟩) dLen dCap, .string s]).run P w =
      .ok (goInt (Nat.min s.size dLen)) (w.setRow g (cs.take o ++ byv ((Sums.bl s).take (Nat.min s.size dLen)) ++ cs.drop (o + Nat.min s.size dLen)).toArray) := by
  have hl : (byv ((Sums.bl s).take (Nat.min s.size dLen))).length = Nat.min s.size dLen := by
    unfold byv
    rw [List.length_map, List.length_take, Sums.bl_length]
    simp only [Nat.min_def]; split <;> split <;> omega
  have hst := run_storeCells_at P g o t (byv ((Sums.bl s).take (Nat.min s.size dLen))) 0 cs.toArray w hg (by rw [hl]; simpa using hfit) (fun v hv => by
    obtain ⟨z, _, rfl⟩ := List.mem_map.1 hv
    rfl)
  rw [hl] at hst
  cases hq : P.info? elem with
  | none => simp [hq] at hs
  | some i =>
    have he : List.take (Nat.min s.size dLen) (List.map (fun b : UInt8 => Value.int .u8 ((b.toNat : Nat) : Int)) s.data.toList) = byv ((Sums.bl s).take (Nat.min s.size dLen)) := by
      unfold byv Sums.bl
      rw [← List.map_take, ← List.map_take, List.map_map]
      rfl
    simp [Builtin.copy_, run_underlying hu, Builtin.lenOf, Builtin.firstCells, sizeOf, typeInfo, hq] at hst ⊢
    rw [he, hst]
    rfl
theorem infoS : (Try.prog.info? 5).map (·.size) = some 1 := by kernel_rfl
theorem cellsB : Try.prog.cellsOf 5 = 1 := by kernel_rfl
theorem byteCells_byv (s : ByteArray) : Lib.byteCells s.data.toList = byv (Sums.bl s) := by
  unfold byv Sums.bl Lib.byteCells
  rw [List.map_map]
  rfl
theorem empty_of_size {s : ByteArray} (h : s.size = 0) : s = ⟨#[]⟩ := by
  apply ByteArray.ext
  exact Array.eq_empty_of_size_eq_zero h
theorem size_list (s : ByteArray) : s.data.toList.length = s.size := by rw [Array.length_toList]; rfl
end Go.Proofs.Ythmaaeibdcoemab
