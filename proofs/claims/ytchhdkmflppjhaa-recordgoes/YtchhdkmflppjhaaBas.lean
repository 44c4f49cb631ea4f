/-
  One row of memory is written, and nothing else turns; bytes as cells. No conditions but those that each fact names.
-/
import Derived.Test.YtchhdkmflppjhaaProg
import Derived.Test.YtchhdkmflppjhaaSumD
import Derived.Test.YtchhdkmflppjhaaCodeA
import Derived.WalkKit
import Derived.Handy
import Derived.OwnWalk
import Derived.Laws.CopyRow
import Derived.Laws.Strings
import Derived.Maps.AppendAt
import Derived.Deep.QuietTactic
import Derived.BigQuiet
namespace Go.Proofs.Ytchhdkmflppjhaa
open Go.RowKit
set_option linter.unusedVariables false
theorem _root_.Go.RowKit.Hid.mk' {p : Prop} (h : p) : Hid p := h
/-- block g holds the cells cs, of type t; else w' is as w was -/
structure Put (g : Nat) (t : TypeId) (cs : List Value) (w w' : World) : Prop where
  os : w'.os = w.os
  tape : w'.tape = w.tape
  output : w'.output = w.output
  size : w'.heap.size = w.heap.size
  block : ∀ k, k ≠ g → w'.heap[k]? = w.heap[k]?
  row : w'.heap[g]? = some (.cells cs.toArray t (0, 0))
theorem Put.refl {g : Nat} {t : TypeId} {cs : List Value} {w : World} (h : w.heap[g]? = some (.cells cs.toArray t (0, 0))) : Put g t cs w w :=
  ⟨rfl, rfl, rfl, rfl, fun _ _ => rfl, h⟩
theorem Put.trans {g : Nat} {t t' : TypeId} {cs ds : List Value} {a b c : World} (h : Put g t cs a b) (k : Put g t' ds b c) : Put g t' ds a c :=
  ⟨k.os.trans h.os, k.tape.trans h.tape, k.output.trans h.output, k.size.trans h.size, fun i hi => (k.block i hi).trans (h.block i hi), k.row⟩
theorem Put.drewN {g : Nat} {t : TypeId} {cs : List Value} {a b : World} (h : Put g t cs a b) (n : Nat) : Put g t cs a (b.drewN n) :=
  ⟨h.os, h.tape, h.output, h.size, h.block, h.row⟩
theorem Put.below {g B : Nat} {t : TypeId} {cs : List Value} {a b : World} (h : Put g t cs a b) (hB : B ≤ g) : Below B a b :=
  ⟨h.os, h.tape, h.output, by rw [h.size]; exact Nat.le_refl _, fun k hk => h.block k (by omega)⟩
theorem Put.setRow {g : Nat} {t : TypeId} {cs ds : List Value} {a b : World} (h : Put g t cs a b) : Put g t ds a (b.setRow g ds.toArray) :=
  ⟨h.os, h.tape, h.output, by rw [← h.size]; simp [World.setRow], fun k hk => by rw [← h.block k hk]; simp only [World.setRow, Array.getElem?_modify]; rw [if_neg (by omega)], setRow_heap b g _ _ t _ h.row⟩
theorem Put.setCell {g o : Nat} {t : TypeId} {cs : List Value} {a b : World} (h : Put g t cs a b) (u : Value) : Put g t (cs.set o u) a (b.setCell ⟨g, o, none⟩ u) := by
  have e := setCell_eq_setRow b g o cs.toArray t (0, 0) u h.row
  rw [e, show cs.toArray.setIfInBounds o u = (cs.set o u).toArray by simp]
  exact h.setRow
theorem Put.cell {g o : Nat} {t : TypeId} {cs : List Value} {a b : World} (h : Put g t cs a b) (v : Value) (hv : cs[o]? = some v) : b.cell? ⟨g, o, none⟩ = some v := by
  simp [World.cell?, h.row, hv]
theorem Put.frozen {g o : Nat} {t : TypeId} {cs : List Value} {a b : World} (h : Put g t cs a b) : b.frozen? ⟨g, o, none⟩ = false := by
  simp [World.frozen?, h.row]
theorem Put.lt {g : Nat} {t : TypeId} {cs : List Value} {a b : World} (h : Put g t cs a b) : g < a.heap.size := by
  rw [← h.size]
  exact (Array.getElem?_eq_some_iff.1 h.row).1
/-- of what was there only block g is written -/
structure Only (g : Nat) (w w' : World) : Prop where
  os : w'.os = w.os
  tape : w'.tape = w.tape
  output : w'.output = w.output
  size : w.heap.size ≤ w'.heap.size
  block : ∀ k, k < w.heap.size → k ≠ g → w'.heap[k]? = w.heap[k]?
theorem Put.only {g : Nat} {t : TypeId} {cs : List Value} {a b : World} (h : Put g t cs a b) : Only g a b := ⟨h.os, h.tape, h.output, by rw [h.size]; exact Nat.le_refl _, fun k _ hk => h.block k hk⟩
theorem Only.refl (g : Nat) (w : World) : Only g w w := ⟨rfl, rfl, rfl, Nat.le_refl _, fun _ _ _ => rfl⟩
theorem Only.trans {g : Nat} {a b c : World} (h : Only g a b) (k : Only g b c) : Only g a c :=
  ⟨k.os.trans h.os, k.tape.trans h.tape, k.output.trans h.output, Nat.le_trans h.size k.size, fun i hi hg => (k.block i (Nat.lt_of_lt_of_le hi h.size) hg).trans (h.block i hi hg)⟩
theorem Only.drewN {g : Nat} {a b : World} (h : Only g a b) (n : Nat) : Only g a (b.drewN n) := ⟨h.os, h.tape, h.output, h.size, h.block⟩
theorem Only.below {g B : Nat} {a b : World} (h : Only g a b) (hB : B ≤ g) (hs : B ≤ a.heap.size) : Below B a b := ⟨h.os, h.tape, h.output, h.size, fun k hk => h.block k (by omega) (by omega)⟩
theorem Only.of_below {g : Nat} {a b : World} (h : Below a.heap.size a b) : Only g a b := ⟨h.os, h.tape, h.output, h.size, fun k hk _ => h.block k hk⟩
theorem Only.of_between {g B : Nat} {a b : World} (h : Below B a b) (hB : a.heap.size ≤ B) : Only g a b := ⟨h.os, h.tape, h.output, h.size, fun k hk _ => h.block k (by omega)⟩
theorem Only.alloc {g : Nat} {a b : World} (h : Only g a b) (o : Obj) : Only g a (b.alloc o) :=
  ⟨h.os, h.tape, h.output, by have := h.size; simp; omega, fun k hk hg => by rw [Below.heap_alloc b o k (Nat.lt_of_lt_of_le hk h.size)]; exact h.block k hk hg⟩
theorem _root_.Go.RowKit.Below.drewN' {B : Nat} {a w : World} (h : Below B a w) (n : Nat) : Below B a (w.drewN n) := ⟨h.os, h.tape, h.output, h.size, h.block⟩
/-- bytes as cells -/
def byv (l : List Nat) : List Value := l.map fun z => Value.int .u8 ((z : Nat) : Int)
theorem byv_append (a b : List Nat) : byv (a ++ b) = byv a ++ byv b := by unfold byv; exact List.map_append
theorem byv_len (l : List Nat) : (byv l).length = l.length := by unfold byv; exact List.length_map ..
def nums (l : List Nat) : ByteArray := strOfNums (l.map fun z => ((z : Nat) : Int))
theorem bl_nums (l : List Nat) (hl : ∀ z ∈ l, z < 256) : Sums.bl (nums l) = l := by
  show ((l.map fun z => ((z : Nat) : Int)).map fun n => UInt8.ofNat n.toNat).toArray.toList.map UInt8.toNat = l
  rw [List.toList_toArray, List.map_map, List.map_map]
  conv => rhs; rw [← List.map_id l]
  apply List.map_congr_left
  intro z hz
  show (UInt8.ofNat ((z : Int).toNat)).toNat = z
  rw [Int.toNat_natCast]
  exact UInt8.toNat_ofNat_of_lt (hl z hz)
theorem nums_size (l : List Nat) : (nums l).size = l.length := by unfold nums; rw [strOfNums_size]; simp
theorem nums_bl (s : ByteArray) : nums (Sums.bl s) = s := Sums.bl_inj (bl_nums _ (Sums.bl_byt s))
theorem nums_inj {a b : List Nat} (ha : ∀ z ∈ a, z < 256) (hb : ∀ z ∈ b, z < 256) (h : nums a = nums b) : a = b := by
  rw [← bl_nums a ha, h, bl_nums b hb]
theorem infoB : (Try.prog.info? 5).map (fun i => (i.zero, i.size, i.bytes)) = some (some (.int .u8 0), 1, 1) := by kernel_rfl
theorem own_rel {w wr w1 : World} {v : Value} {B n : Nat} {xs : List Value} {o : Obj} (hB : B ≤ wr.heap.size) (hown : wr.ownsRow B 5 1 v n xs) (hb : Below B w wr) (hg : (wr.alloc o).grownBy w1 v.ownBlock) : Below B w w1 :=
  (hb.alloc hB o).grown hg (by simp; omega) (fun k hk => (hown.lt k hk).1)
/-- a row of bytes of the call's own, as a text -/
theorem conv_own (B m : Nat) (l : List Nat) (wr : World) (v : Value) (hm : l.length = m) (hown : wr.ownsRow B 5 1 v m (byv l)) :
    (convert 70 9 v).run Try.prog wr = .ok (.string (nums l)) wr := by
  rcases hown.2 with ⟨rfl, h0⟩ | ⟨g, cap, cur, rfl, _⟩
  · rw [run_convert_bytes_nil wr 70 5 Try.underlying70 Try.underlying5 0 0 9 Try.underlying9]
    have e : l = [] := List.length_eq_zero_iff.1 (by omega)
    rw [e]
    rfl
  · refine run_convert_bytes_arg wr 70 5 Try.underlying70 Try.underlying5 g 0 m cap _ (by simp [hm]) (fun i hi => ?_) 9 Try.underlying9
    rw [Nat.zero_add, hown.cellAt i (by omega)]
    unfold byv
    rw [List.getElem?_map, List.getD_eq_getElem?_getD, List.getElem?_map, List.getElem?_eq_getElem (show i < l.length by omega)]
    rfl
theorem ret_str {a b : ByteArray} (h : a = b) : Ending.returned (.string a) = .returned (.string b) := by rw [h]
end Go.Proofs.Ytchhdkmflppjhaa
