/-
  One row of memory is written, and nothing else turns. No conditions but those that each fact names.
-/
import Derived.Test.YtapphnkddjchkaaDoorShort
import Derived.Handy
import Derived.Laws.CopyRow
namespace Go.Proofs.YtapphnkddjchkaaDoor
open Go.RowKit
set_option linter.unusedVariables false
/-- block g holds the cells cs, of type t; else w' is as w was -/
structure Put (g : Nat) (t : TypeId) (cs : List Value) (w w' : World) : Prop where
  os : w'.os = w.os
  tape : w'.tape = w.tape
  output : w'.output = w.output
  size : w'.heap.size = w.heap.size
  block : ∀ k, k ≠ g → w'.heap[k]? = w.heap[k]?
  row : w'.heap[g]? = some (.cells cs.toArray t (0, 0))
theorem Put.refl {g : Nat} {t : TypeId} {cs : List Value} {w : World} (h : w.heap[g]? = some (.cells cs.toArray t (0, 0))) : Put g t cs w w :=
  ⟨rfl, rfl, rfl, rfl, fun _ _ => rfl, h⟩
theorem Put.trans {g : Nat} {t t' : TypeId} {cs ds : List Value} {a b c : World} (h : Put g t cs a b) (k : Put g t' ds b c) : Put g t' ds a c :=
  ⟨k.os.trans h.os, k.tape.trans h.tape, k.output.trans h.output, k.size.trans h.size, fun i hi => (k.block i hi).trans (h.block i hi), k.row⟩
theorem Put.drewN {g : Nat} {t : TypeId} {cs : List Value} {a b : World} (h : Put g t cs a b) (n : Nat) : Put g t cs a (b.drewN n) :=
  ⟨h.os, h.tape, h.output, h.size, h.block, h.row⟩
theorem Put.below {g B : Nat} {t : TypeId} {cs : List Value} {a b : World} (h : Put g t cs a b) (hB : B ≤ g) : Below B a b :=
  ⟨h.os, h.tape, h.output, by rw [h.size]; exact Nat.le_refl _, fun k hk => h.block k (by omega)⟩
theorem Put.setRow {g : Nat} {t : TypeId} {cs ds : List Value} {a b : World} (h : Put g t cs a b) : Put g t ds a (b.setRow g ds.toArray) :=
  ⟨h.os, h.tape, h.output, by rw [← h.size]; simp [World.setRow], fun k hk => by rw [← h.block k hk]; simp only [World.setRow, Array.getElem?_modify]; rw [if_neg (by omega)], setRow_heap b g _ _ t _ h.row⟩
theorem Put.setCell {g o : Nat} {t : TypeId} {cs : List Value} {a b : World} (h : Put g t cs a b) (u : Value) : Put g t (cs.set o u) a (b.setCell ⟨g, o, none⟩ u) := by
  have e := setCell_eq_setRow b g o cs.toArray t (0, 0) u h.row
  rw [e, show cs.toArray.setIfInBounds o u = (cs.set o u).toArray by simp]
  exact h.setRow
theorem Put.cell {g o : Nat} {t : TypeId} {cs : List Value} {a b : World} (h : Put g t cs a b) (v : Value) (hv : cs[o]? = some v) : b.cell? ⟨g, o, none⟩ = some v := by
  simp [World.cell?, h.row, hv]
theorem Put.frozen {g o : Nat} {t : TypeId} {cs : List Value} {a b : World} (h : Put g t cs a b) : b.frozen? ⟨g, o, none⟩ = false := by
  simp [World.frozen?, h.row]
theorem Put.lt {g : Nat} {t : TypeId} {cs : List Value} {a b : World} (h : Put g t cs a b) : g < a.heap.size := by
  rw [← h.size]
  exact (Array.getElem?_eq_some_iff.1 h.row).1
/-- bytes as cells -/
def byv (l : List Nat) : List Value := l.map fun z => Value.int .u8 ((z : Nat) : Int)
theorem run_copy_str (P : Program) (w : World) (dT sT ty elem : TypeId) (g o dLen dCap : Nat) (s : ByteArray) (cs : List Value) (t : TypeId)
    (hu : P.underlying dT = some (.slice elem)) (hs : (P.info? elem).map (·.size) = some 1) (hg : w.heap[g]? = some (.cells cs.toArray t (0, 0))) (hfit : o + Nat.min s.size dLen ≤ cs.length) :
    (Builtin.copy_ #[dT, sT] ty #[.slice (some ⟨g, o, none⟩) dLen dCap, .string s]).run P w =
      .ok (goInt (Nat.min s.size dLen)) (w.setRow g (cs.take o ++ byv ((Sums.bl s).take (Nat.min s.size dLen)) ++ cs.drop (o + Nat.min s.size dLen)).toArray) := by
  have hl : (byv ((Sums.bl s).take (Nat.min s.size dLen))).length = Nat.min s.size dLen := by
    unfold byv
    rw [List.length_map, List.length_take, Sums.bl_length]
    simp only [Nat.min_def]; split <;> split <;> omega
  have hst := run_storeCells_at P g o t (byv ((Sums.bl s).take (Nat.min s.size dLen))) 0 cs.toArray w hg (by rw [hl]; simpa using hfit) (fun v hv => by
    obtain ⟨z, _, rfl⟩ := List.mem_map.1 hv
    rfl)
  rw [hl] at hst
  cases hq : P.info? elem with
  | none => simp [hq] at hs
  | some i =>
    have he : List.take (Nat.min s.size dLen) (List.map (fun b : UInt8 => Value.int .u8 ((b.toNat : Nat) : Int)) s.data.toList) = byv ((Sums.bl s).take (Nat.min s.size dLen)) := by
      unfold byv Sums.bl
      rw [← List.map_take, ← List.map_take, List.map_map]
      rfl
    simp [Builtin.copy_, run_underlying hu, Builtin.lenOf, Builtin.firstCells, sizeOf, typeInfo, hq] at hst ⊢
    rw [he, hst]
    rfl
end Go.Proofs.YtapphnkddjchkaaDoor
