/-
  What the document's Join does. Conditions: the numbers are of 32 bits, the length an int.
-/
import Derived.Test.YtnbcmobdenjjfaaDoorRefCrc
import Derived.Test.YtnbcmobdenjjfaaDoorJoin
import Derived.Test.YtnbcmobdenjjfaaDoorPut
import Derived.Handy
import Derived.Deep.RegionWith
import Derived.Deep.RegionHeld
import Derived.Laws.CopyRow
namespace Go.Proofs.YtnbcmobdenjjfaaDoor
open Go.RowKit
set_option linter.unusedVariables false
/-- a row of 32 numbers: what m steps make of each single bit -/
def rowL (m : Nat) : List Value := (List.range 32).map fun k => Value.int .u32 ((Sums.stepN m (2 ^ k) : Nat) : Int)
theorem rowL_get (m k : Nat) (hk : k < 32) : (rowL m)[k]? = some (.int .u32 ((Sums.stepN m (2 ^ k) : Nat) : Int)) := by
  unfold rowL
  rw [List.getElem?_map, List.getElem?_range hk]
  rfl
theorem rowL_len (m : Nat) : (rowL m).length = 32 := by unfold rowL; simp
theorem bit_on (c j m : Nat) (h : c / 2 ^ j % 2 = 1) : Sums.stepN m (c % 2 ^ (j + 1)) = Sums.stepN m (c % 2 ^ j) ^^^ Sums.stepN m (2 ^ j) := by
  have hp := Nat.two_pow_pos j
  have e : c % 2 ^ (j + 1) = 2 ^ j * 1 + c % 2 ^ j := by
    rw [Nat.pow_succ, Nat.mod_mul, h]; omega
  rw [e, ← Sums.xor_join j 1 _ (Nat.mod_lt _ hp), Nat.mul_one, Sums.stepN_xor, Nat.xor_comm]
theorem bit_off (c j m : Nat) (h : ¬ c / 2 ^ j % 2 = 1) : Sums.stepN m (c % 2 ^ (j + 1)) = Sums.stepN m (c % 2 ^ j) := by
  have e : c % 2 ^ (j + 1) = c % 2 ^ j := by
    rw [Nat.pow_succ, Nat.mod_mul, show c / 2 ^ j % 2 = 0 by omega]; omega
  rw [e]
theorem alloc_cell (w : World) (cs : List Value) (t : TypeId) (k : Nat) (v : Value) (h : cs[k]? = some v) : (w.alloc (.cells cs.toArray t (0, 0))).cell? ⟨w.heap.size, k, none⟩ = some v := by
  have e : (w.alloc (.cells cs.toArray t (0, 0))).heap[w.heap.size]? = some (.cells cs.toArray t (0, 0)) := by
    show (w.heap.push _)[w.heap.size]? = _
    rw [Array.getElem?_push, if_pos rfl]
  simp only [World.cell?]
  rw [e]
  simpa using h
theorem bit_eq (c j : Nat) (b : Bool) (h : decide (c / 2 ^ j % 2 = 1) = b) : (((c : Int) / 2 ^ j).tmod 2 == 1) = b := by
  have e : ((c : Int) / 2 ^ j) = ((c / 2 ^ j : Nat) : Int) := by simp
  rw [e, ← h, Int.tmod_eq_emod_of_nonneg (Int.natCast_nonneg _)]
  by_cases hc : c / 2 ^ j % 2 = 1
  · simp [hc]; omega
  · simp [hc]; omega
set_option maxHeartbeats 1000000 in
theorem of_any (m c : Nat) (w : World) (hc : c < 4294967296) :
    Calls Tryd.prog 28 #[.agg (rowL m).toArray, .int .u32 (c : Int)] w fun e w' => e = .returned (.int .u32 (Sums.stepN m c : Nat)) ∧ Below w.heap.size w w' := by
  go_enter Tryd.func28, Tryd.ntmps28
  go_wp2_with fail
  have HC : Hid (∀ k, k < 32 → (w.alloc (.cells (rowL m).toArray 54 (0, 0))).cell? ⟨w.heap.size, k, none⟩ = some (.int .u32 ((Sums.stepN m (2 ^ k) : Nat) : Int))) := fun k hk => alloc_cell _ _ _ _ _ (rowL_get m k hk)
  go_loop [5, 6] (fun x y => ∃ j G : Nat, j ≤ 32 ∧ G < 4294967296 ∧ x = .int .u32 (G : Int) ∧ y = .int .i64 (j : Int) ∧ Hid (G = Sums.stepN m (c % 2 ^ j))) (fun _ y => 32 - (intOf y).toNat)
  case atStart => exact ⟨0, 0, by omega, by omega, rfl, rfl, by show _ = _; rw [Nat.pow_zero, Nat.mod_one, Sums.stepN_zero]⟩
  case round =>
    obtain ⟨j, G, hj, hG, rfl, rfl, HG⟩ := hrel
    by_cases hlt : j < 32
    · have hj3 : (j : Int) < 32 := by omega
      have cj := HC.out j hlt
      have hb : Sums.stepN m (2 ^ j) < 4294967296 := Sums.stepN_lt m _ (by have := Nat.pow_lt_pow_right (a := 2) (by omega) hlt; simpa using this)
      by_cases h1 : c / 2 ^ j % 2 = 1
      · have g1 : (((c : Int) / 2 ^ j).tmod 2 == 1) = true := bit_eq c j true (by simp [h1])
        have HN := Hid.mk' (bit_on c j m h1)
        have HX := Hid.mk' (u32_xor_nat G _ hG hb)
        have hx : G ^^^ Sums.stepN m (2 ^ j) < 4294967296 := Nat.xor_lt_two_pow (n := 32) hG hb
        clear h1
        go_wp2_with fail
        go_round
        case rel => exact ⟨j + 1, _, by omega, hx, int_u32 HX.out, by go_num, by show _ = _; rw [HN.out, HG.out]⟩
        case measure => simp [intOf]; omega
      · have g1 : (((c : Int) / 2 ^ j).tmod 2 == 1) = false := bit_eq c j false (by simp [h1])
        have HN := Hid.mk' (bit_off c j m h1)
        clear h1
        go_wp2_with fail
        go_round
        case rel => exact ⟨j + 1, _, by omega, hG, rfl, by go_num, by show _ = _; rw [HN.out, HG.out]⟩
        case measure => simp [intOf]; omega
    · obtain rfl : j = 32 := by omega
      have HE : Hid (G = Sums.stepN m c) := by
        show _ = _
        rw [HG.out, Nat.mod_eq_of_lt (by simpa using hc)]
      clear HG
      go_wp2_with fail
      go_ret
      exact ⟨ret_u32 (by rw [HE.out]), (Below.refl _ _).alloc (Nat.le_refl _) _⟩
def rowE (m : Nat) : List Value := [.int .u32 ((Sums.stepN m 1 : Nat) : Int), .int .u32 ((Sums.stepN m 2 : Nat) : Int), .int .u32 ((Sums.stepN m 4 : Nat) : Int), .int .u32 ((Sums.stepN m 8 : Nat) : Int), .int .u32 ((Sums.stepN m 16 : Nat) : Int), .int .u32 ((Sums.stepN m 32 : Nat) : Int), .int .u32 ((Sums.stepN m 64 : Nat) : Int), .int .u32 ((Sums.stepN m 128 : Nat) : Int), .int .u32 ((Sums.stepN m 256 : Nat) : Int), .int .u32 ((Sums.stepN m 512 : Nat) : Int), .int .u32 ((Sums.stepN m 1024 : Nat) : Int), .int .u32 ((Sums.stepN m 2048 : Nat) : Int), .int .u32 ((Sums.stepN m 4096 : Nat) : Int), .int .u32 ((Sums.stepN m 8192 : Nat) : Int), .int .u32 ((Sums.stepN m 16384 : Nat) : Int), .int .u32 ((Sums.stepN m 32768 : Nat) : Int), .int .u32 ((Sums.stepN m 65536 : Nat) : Int), .int .u32 ((Sums.stepN m 131072 : Nat) : Int), .int .u32 ((Sums.stepN m 262144 : Nat) : Int), .int .u32 ((Sums.stepN m 524288 : Nat) : Int), .int .u32 ((Sums.stepN m 1048576 : Nat) : Int), .int .u32 ((Sums.stepN m 2097152 : Nat) : Int), .int .u32 ((Sums.stepN m 4194304 : Nat) : Int), .int .u32 ((Sums.stepN m 8388608 : Nat) : Int), .int .u32 ((Sums.stepN m 16777216 : Nat) : Int), .int .u32 ((Sums.stepN m 33554432 : Nat) : Int), .int .u32 ((Sums.stepN m 67108864 : Nat) : Int), .int .u32 ((Sums.stepN m 134217728 : Nat) : Int), .int .u32 ((Sums.stepN m 268435456 : Nat) : Int), .int .u32 ((Sums.stepN m 536870912 : Nat) : Int), .int .u32 ((Sums.stepN m 1073741824 : Nat) : Int), .int .u32 ((Sums.stepN m 2147483648 : Nat) : Int)]
theorem rowL_E (m : Nat) : rowL m = rowE m := by
  simp only [rowL, rowE, List.range, List.range.loop, List.map_cons, List.map_nil, Nat.reducePow, Nat.pow_zero]
theorem of_anyE (m c : Nat) (w : World) (hc : c < 4294967296) :
    Calls Tryd.prog 28 #[.agg (rowE m).toArray, .int .u32 (c : Int)] w fun e w' => e = .returned (.int .u32 (Sums.stepN m c : Nat)) ∧ Below w.heap.size w w' := by
  rw [← rowL_E]
  exact of_any m c w hc
def outL (m j : Nat) : List Value := (List.range 32).map fun k => Value.int .u32 (((if k < j then Sums.stepN m (2 ^ k) else 0) : Nat) : Int)
theorem outL_0 (m : Nat) : (outL m 0).toArray = #[Value.int IntKind.u32 0, Value.int IntKind.u32 0, Value.int IntKind.u32 0, Value.int IntKind.u32 0, Value.int IntKind.u32 0, Value.int IntKind.u32 0, Value.int IntKind.u32 0, Value.int IntKind.u32 0, Value.int IntKind.u32 0, Value.int IntKind.u32 0, Value.int IntKind.u32 0, Value.int IntKind.u32 0, Value.int IntKind.u32 0, Value.int IntKind.u32 0, Value.int IntKind.u32 0, Value.int IntKind.u32 0, Value.int IntKind.u32 0, Value.int IntKind.u32 0, Value.int IntKind.u32 0, Value.int IntKind.u32 0, Value.int IntKind.u32 0, Value.int IntKind.u32 0, Value.int IntKind.u32 0, Value.int IntKind.u32 0, Value.int IntKind.u32 0, Value.int IntKind.u32 0, Value.int IntKind.u32 0, Value.int IntKind.u32 0, Value.int IntKind.u32 0, Value.int IntKind.u32 0, Value.int IntKind.u32 0, Value.int IntKind.u32 0] := rfl
theorem outL_len (m j : Nat) : (outL m j).length = 32 := by unfold outL; simp
theorem outL_32 (m : Nat) : outL m 32 = rowL m := by
  unfold outL rowL
  apply List.map_congr_left
  intro k hk
  rw [if_pos (by simpa using hk)]
theorem outL_get (m j k : Nat) (hk : k < 32) : (outL m j)[k]? = some (.int .u32 (((if k < j then Sums.stepN m (2 ^ k) else 0) : Nat) : Int)) := by
  unfold outL
  rw [List.getElem?_map, List.getElem?_range hk]
  rfl
theorem outL_set (m j : Nat) (hj : j < 32) : (outL m j).set j (.int .u32 ((Sums.stepN m (2 ^ j) : Nat) : Int)) = outL m (j + 1) := by
  apply List.ext_getElem?
  intro k
  rw [List.getElem?_set]
  by_cases hk : k < 32
  · rw [outL_get m j k hk, outL_get m (j + 1) k hk, outL_len]
    by_cases e : j = k
    · subst e; simp [hj]
    · rw [if_neg e]
      by_cases h : k < j
      · rw [if_pos h, if_pos (by omega)]
      · rw [if_neg h, if_neg (by omega)]
  · rw [if_neg (by omega), List.getElem?_eq_none (by rw [outL_len]; omega), List.getElem?_eq_none (by rw [outL_len]; omega)]
theorem heap_cell {w : World} {g k : Nat} {cs : List Value} {t : TypeId} {v : Value} (h : w.heap[g]? = some (.cells cs.toArray t (0, 0))) (hv : cs[k]? = some v) : w.cell? ⟨g, k, none⟩ = some v := by
  simp only [World.cell?]
  rw [h]
  simpa using hv
theorem heap_frozen {w : World} {g k : Nat} {cs : List Value} {t : TypeId} (h : w.heap[g]? = some (.cells cs.toArray t (0, 0))) : w.frozen? ⟨g, k, none⟩ = false := by
  simp [World.frozen?, h]
theorem heap_set {w : World} {g k : Nat} {cs : List Value} {t : TypeId} (h : w.heap[g]? = some (.cells cs.toArray t (0, 0))) (u : Value) : (w.setCell ⟨g, k, none⟩ u).heap[g]? = some (.cells (cs.set k u).toArray t (0, 0)) := by
  rw [setCell_eq_setRow w g k cs.toArray t (0, 0) u h, show cs.toArray.setIfInBounds k u = (cs.set k u).toArray by simp]
  exact setRow_heap w g _ _ t _ h
theorem info54 : (Tryd.prog.info? 54).map (·.size) = some 32 := by kernel_rfl
theorem size54 (cs : List Value) (h : cs.length = 32) : (Tryd.prog.info? 54).map (·.size) = some cs.toArray.size := by rw [info54, List.size_toArray, h]
theorem row_one (m : Nat) : ∀ v ∈ rowL m, v.oneCell' = true := by
  intro v h
  obtain ⟨k, _, rfl⟩ := List.mem_map.1 h
  rfl
theorem one_row (m : Nat) : (rowL m).toArray.all (·.oneCell') = true := by
  refine Array.all_eq_true_iff_forall_mem.2 (fun v hv => ?_)
  have h : v ∈ rowL m := by simpa using hv
  obtain ⟨k, _, rfl⟩ := List.mem_map.1 h
  rfl
theorem heap_new1 (w : World) (o : Obj) : (w.alloc o).heap[w.heap.size]? = some o := by
  show (w.heap.push o)[w.heap.size]? = _
  rw [Array.getElem?_push, if_pos rfl]
theorem heap_old (w : World) (o : Obj) (k : Nat) (h : k < w.heap.size) : (w.alloc o).heap[k]? = w.heap[k]? := Below.heap_alloc w o k h
set_option maxHeartbeats 2000000 in
theorem twice_any (m : Nat) (w : World) :
    Calls Tryd.prog 27 #[.agg (rowL m).toArray] w fun e w' => e = .returned (.agg (rowL (m + m)).toArray) ∧ Below w.heap.size w w' := by
  go_enter Tryd.func27, Tryd.ntmps27
  go_wp2_with fail
  rw [← outL_0 (m + m)]
  go_loopw [4] (fun i wr => ∃ j : Nat, j ≤ 32 ∧ i = .int .i64 (j : Int) ∧ Hid (wr.heap[w.heap.size]? = some (.cells (rowL m).toArray 54 (0, 0))) ∧ Hid (wr.heap[w.heap.size + 1]? = some (.cells (outL (m + m) 0).toArray 54 (0, 0))) ∧ Hid (wr.heap[w.heap.size + 1 + 1]? = some (.cells (outL (m + m) j).toArray 54 (0, 0))) ∧ Hid (Below w.heap.size w wr) ∧ w.heap.size + 3 ≤ wr.heap.size) (fun i _ => 32 - (intOf i).toNat)
  case atStart =>
    refine ⟨0, by omega, rfl, ?_, ?_, ?_, ?_, by simp⟩
    · show _ = _
      rw [heap_old _ _ _ (by simp; omega), heap_old _ _ _ (by simp), heap_new1]
    · show _ = _
      rw [heap_old _ _ _ (by simp)]
      have := heap_new1 (w.alloc (.cells (rowL m).toArray 54 (0, 0))) (.cells (outL (m + m) 0).toArray 54 (0, 0))
      simpa using this
    · show _ = _
      have := heap_new1 ((w.alloc (.cells (rowL m).toArray 54 (0, 0))).alloc (.cells (outL (m + m) 0).toArray 54 (0, 0))) (.cells (outL (m + m) 0).toArray 54 (0, 0))
      simpa using this
    · exact (((Below.refl _ _).alloc (Nat.le_refl _) _).alloc (by simp) _).alloc (by simp; omega) _
  case round =>
    obtain ⟨j, hj, rfl, HR, HG, HO, HB, hsz⟩ := hrel
    by_cases hlt : j < 32
    · have hj3 : (j : Int) < 32 := by omega
      have hR0 : wr.drew.rangeAt w.heap.size 0 (rowL m) := fun i v hv => by
        rw [Nat.zero_add]
        exact heap_cell (w := wr.drew) HR.out hv
      have hC0 : wr.drew.cell? ⟨w.heap.size, j, none⟩ = some (.int .u32 ((Sums.stepN m (2 ^ j) : Nat) : Int)) := heap_cell (w := wr.drew) HR.out (rowL_get m j hlt)
      have hb : Sums.stepN m (2 ^ j) < 4294967296 := Sums.stepN_lt m _ (by have := Nat.pow_lt_pow_right (a := 2) (by omega) hlt; simpa using this)
      have hszg : w.heap.size + 1 + 1 < wr.heap.size := by omega
      have a1 := Tryd.underlying54
      have a2 : (Tryd.prog.info? 54).map (·.size) = some (rowL m).length := by rw [info54, rowL_len]
      have a3 := rowL_len m
      have a4 : ∀ v ∈ rowL m, v.oneCell' = true := row_one m
      go_wp2_with fail
      go_region_held (fun W => W.rangeAt w.heap.size 0 (rowL m) ∧ W.cell? ⟨w.heap.size, j, none⟩ = some (.int .u32 ((Sums.stepN m (2 ^ j) : Nat) : Int))) (first | exact ⟨hR0, hC0⟩ | exact ⟨hR1, hC1⟩ | exact ⟨fun i v hv => (World.cell?_setCell_far _ _ _ _ (by show w.heap.size + 1 + 1 ≠ w.heap.size; omega)).trans (hR1 i v hv), (World.cell?_setCell_far _ _ _ _ (by show w.heap.size + 1 + 1 ≠ w.heap.size; omega)).trans hC1⟩) ((go_at_call 28; refine (of_any m (Sums.stepN m (2 ^ j)) _ hb).mono ?_; rintro e w1 ⟨rfl, B1⟩; have HO1 : Hid (w1.heap[w.heap.size + 1 + 1]? = some (.cells (outL (m + m) j).toArray 54 (0, 0))) := (B1.block _ (by exact hszg)).trans HO.out; have hR1 : w1.rangeAt w.heap.size 0 (rowL m) := (fun i v hv => (B1.cell (by show w.heap.size < wr.heap.size; omega)).trans (hR0 i v hv)); have hC1 : w1.cell? ⟨w.heap.size, j, none⟩ = some (.int .u32 ((Sums.stepN m (2 ^ j) : Nat) : Int)) := (B1.cell (by show w.heap.size < wr.heap.size; omega)).trans hC0; have d1 := heap_cell HO1.out (outL_get (m + m) j j hlt); have d2 := heap_frozen (k := j) HO1.out; have HB1 := Hid.mk' B1; clear B1))
      all_goals
        rw [← Sums.stepN_add]
        have HO2 := Hid.mk' (heap_set (k := j) HO1.out (.int .u32 ((Sums.stepN (m + m) (2 ^ j) : Nat) : Int)))
        rw [outL_set (m + m) j hlt] at HO2
        have HR2 : Hid ((w1.setCell ⟨w.heap.size + 1 + 1, j, none⟩ (.int .u32 ((Sums.stepN (m + m) (2 ^ j) : Nat) : Int))).heap[w.heap.size]? = some (.cells (rowL m).toArray 54 (0, 0))) := by
          show _ = _
          rw [Below.heap_setCell _ _ _ _ (by show w.heap.size ≠ w.heap.size + 1 + 1; omega)]
          exact (HB1.out.block _ (by show w.heap.size < wr.heap.size; omega)).trans HR.out
        have HG2 : Hid ((w1.setCell ⟨w.heap.size + 1 + 1, j, none⟩ (.int .u32 ((Sums.stepN (m + m) (2 ^ j) : Nat) : Int))).heap[w.heap.size + 1]? = some (.cells (outL (m + m) 0).toArray 54 (0, 0))) := by
          show _ = _
          rw [Below.heap_setCell _ _ _ _ (by show w.heap.size + 1 ≠ w.heap.size + 1 + 1; omega)]
          exact (HB1.out.block _ (by show w.heap.size + 1 < wr.heap.size; omega)).trans HG.out
        have HB2 : Hid (Below w.heap.size w (w1.setCell ⟨w.heap.size + 1 + 1, j, none⟩ (.int .u32 ((Sums.stepN (m + m) (2 ^ j) : Nat) : Int)))) :=
          (HB.out.drew.trans (HB1.out.mono (by show w.heap.size ≤ wr.heap.size; omega))).setCell (by show w.heap.size ≤ w.heap.size + 1 + 1; omega) _
        have hsz2 : w.heap.size + 3 ≤ (w1.setCell ⟨w.heap.size + 1 + 1, j, none⟩ (.int .u32 ((Sums.stepN (m + m) (2 ^ j) : Nat) : Int))).heap.size := by
          have := HB1.out.size
          have h3 : wr.drew.heap.size = wr.heap.size := rfl
          simp [World.setCell]
          omega
        clear HO1 HB1 d1 d2 HR HG HO HB hb a1 a2 a3 a4 hR0 hC0
        generalize w1.setCell ⟨w.heap.size + 1 + 1, j, none⟩ (.int .u32 ((Sums.stepN (m + m) (2 ^ j) : Nat) : Int)) = w9 at *
        go_wp2_with fail
        go_roundw
        case rel => exact ⟨j + 1, by omega, by go_num, HR2, HG2, HO2, HB2, hsz2⟩
        case measure => simp [intOf]; omega
    · obtain rfl : j = 32 := by omega
      rw [outL_32] at HO
      have hold : (outL (m + m) 0).toArray.size = (rowL (m + m)).toArray.size := by rw [List.size_toArray, List.size_toArray, outL_len, rowL_len]
      have HH := Hid.mk' hold
      clear hold
      go_wp2_with (first | (refine wpList_load_row rfl 54 _ rfl (w.heap.size + 1 + 1) rfl 54 _ _ _ HO.out Tryd.underlying54 rfl (size54 _ (rowL_len _)) ?_) | (refine wpList_store_row rfl 54 _ _ rfl (w.heap.size + 1) (rowL (m + m)).toArray rfl rfl 54 _ HG.out (size54 _ (rowL_len _)) HH.out (one_row _) ?_) | fail)
      have hg2 : (wr.setRow (w.heap.size + 1) (rowL (m + m)).toArray).heap[w.heap.size + 1]? = some (.cells (rowL (m + m)).toArray 54 (0, 0)) := setRow_heap _ _ _ _ 54 _ HG.out
      have hbb : Below w.heap.size w (wr.setRow (w.heap.size + 1) (rowL (m + m)).toArray) := HB.out.trans (((Put.refl HG.out).setRow (ds := rowL (m + m))).below (Nat.le_succ _))
      refine bodyPost_ret (results_cell_row rfl _ _ (w.heap.size + 1) 54 _ _ _ rfl hg2 Tryd.underlying54 rfl (size54 _ (rowL_len _))) rfl ?_
      exact ⟨rfl, hbb⟩
end Go.Proofs.YtnbcmobdenjjfaaDoor
