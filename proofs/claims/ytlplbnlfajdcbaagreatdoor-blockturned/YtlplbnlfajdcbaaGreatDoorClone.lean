/-
  What strings.Clone does, and a Reader's Take. Conditions: as each says.
-/
import Derived.Test.YtlplbnlfajdcbaaGreatDoorMgB
import Derived.Lib.UnsafeStr
import Derived.Laws.MakeOwn
namespace Go.Proofs.YtlplbnlfajdcbaaGreatDoor
open Go.RowKit
set_option linter.unusedVariables false
theorem run_copy_str (P : Program) (w : World) (dT sT ty elem : TypeId) (g o dLen dCap : Nat) (s : ByteArray) (cs : List Value) (t : TypeId)
    (hu : P.underlying dT = some (.slice elem)) (hs : (P.info? elem).map (·.size) = some 1) (hg : w.heap[g]? = some (.cells cs.toArray t (0, 0))) (hfit : o + Nat.min s.size dLen ≤ cs.length) :
    (Builtin.copy_ #[dT, sT] ty #[.slice (some ⟨g, o, none⟩) dLen dCap, .string s]).run P w =
      .ok (goInt (Nat.min s.size dLen)) (w.setRow g (cs.take o ++ byv ((Sums.bl s).take (Nat.min s.size dLen)) ++ cs.drop (o + Nat.min s.size dLen)).toArray) := by
  have hl : (byv ((Sums.bl s).take (Nat.min s.size dLen))).length = Nat.min s.size dLen := by
    unfold byv
    rw [List.length_map, List.length_take, Sums.bl_length]
    simp only [Nat.min_def]; split <;> split <;> omega
  have hst := run_storeCells_at P g o t (byv ((Sums.bl s).take (Nat.min s.size dLen))) 0 cs.toArray w hg (by rw [hl]; simpa using hfit) (fun v hv => by
    obtain ⟨z, _, rfl⟩ := List.mem_map.1 hv
    rfl)
  rw [hl] at hst
  cases hq : P.info? elem with
  | none => simp [hq] at hs
  | some i =>
    have he : List.take (Nat.min s.size dLen) (List.map (fun b : UInt8 => Value.int .u8 ((b.toNat : Nat) : Int)) s.data.toList) = byv ((Sums.bl s).take (Nat.min s.size dLen)) := by
      unfold byv Sums.bl
      rw [← List.map_take, ← List.map_take, List.map_map]
      rfl
    simp [Builtin.copy_, run_underlying hu, Builtin.lenOf, Builtin.firstCells, sizeOf, typeInfo, hq] at hst ⊢
    rw [he, hst]
    rfl
theorem infoS : (Tryz.prog.info? 5).map (·.size) = some 1 := by kernel_rfl
theorem cellsB : Tryz.prog.cellsOf 5 = 1 := by kernel_rfl
theorem byteCells_byv (s : ByteArray) : Lib.byteCells s.data.toList = byv (Sums.bl s) := by
  unfold byv Sums.bl Lib.byteCells
  rw [List.map_map]
  rfl
theorem empty_of_size {s : ByteArray} (h : s.size = 0) : s = ⟨#[]⟩ := by
  apply ByteArray.ext
  exact Array.eq_empty_of_size_eq_zero h
theorem size_list (s : ByteArray) : s.data.toList.length = s.size := by rw [Array.length_toList]; rfl
set_option maxRecDepth 100000 in
set_option maxHeartbeats 1000000 in
theorem cloneIn_any (s : ByteArray) (w : World) (hs : s.size ≤ 281474976710656) :
    Calls Tryz.prog 150 #[.string s] w fun e w' => e = .returned (.string s) ∧ Below w.heap.size w w' := by
  by_cases h0 : s.size = 0
  · obtain rfl := empty_of_size h0
    go_enter Tryz.func150, Tryz.ntmps150
    go_wp2_with fail
    go_ret
    exact ⟨rfl, Below.refl _ _⟩
  · obtain ⟨i0, hi, hz0, hz1, hz2⟩ := info_parts infoB
    obtain ⟨W1, hW1⟩ : ∃ W1, W1 = w.alloc (.cells (List.replicate s.size (Value.int .u8 0)).toArray 5) := ⟨_, rfl⟩
    have hmk : (Instr.makeSlice 52 (.int .i64 (s.size : Int)) (.int .i64 (s.size : Int))).run Tryz.prog w = .ok (.slice (some ⟨w.heap.size, 0, none⟩) s.size s.size) W1 := by
      have h := run_make (P := Tryz.prog) w 52 5 i0 (.int .u8 0) Tryz.underlying52 hi hz0 .i64 .i64 (s.size : Int) (s.size : Int) (by omega) (by omega) (by rw [hz2]; omega) (by omega)
      rw [h, hW1, Int.toNat_natCast, hz1, Nat.mul_one]
      have e : madeCells (Value.int .u8 0).cells s.size = (List.replicate s.size (Value.int .u8 0)).toArray := by
        rw [← toList_madeCells_one, Array.toArray_toList]
        rfl
      rw [e]
    have hg1 : W1.heap[w.heap.size]? = some (.cells (List.replicate s.size (Value.int .u8 0)).toArray 5 (0, 0)) := by rw [hW1]; exact heap_alloc_new w _
    have hB1 : Below w.heap.size w W1 := by rw [hW1]; exact (Below.refl _ _).alloc (Nat.le_refl _) _
    have hmin : Nat.min s.size s.size = s.size := Nat.min_self _
    have htk : (Sums.bl s).take s.size = Sums.bl s := by rw [← Sums.bl_length, List.take_length]
    have hcp := run_copy_str Tryz.prog W1 52 9 3 5 w.heap.size 0 s.size s.size s _ 5 Tryz.underlying52 infoS hg1 (by rw [hmin]; simp)
    rw [hmin, List.take_zero, List.nil_append, Nat.zero_add, List.drop_eq_nil_of_le (by simp), List.append_nil, htk] at hcp
    obtain ⟨W2, hW2⟩ : ∃ W2, W2 = W1.setRow w.heap.size (byv (Sums.bl s)).toArray := ⟨_, rfl⟩
    rw [← hW2] at hcp
    have hg2 : W2.heap[w.heap.size]? = some (.cells (byv (Sums.bl s)).toArray 5 (0, 0)) := by rw [hW2]; exact setRow_heap _ _ _ _ 5 (0, 0) hg1
    have hB2 : Below w.heap.size w W2 := hB1.trans (by rw [hW2]; exact ⟨rfl, rfl, rfl, by simp [World.setRow], fun k hk => setRow_other _ _ _ _ (by omega)⟩)
    have hlen : (byv (Sums.bl s)).length = s.size := by rw [byv_len, Sums.bl_length]
    have hUS := Lib.run_unsafeString_row (P := Tryz.prog) W2 189 3 9 5 Tryz.underlying189 cellsB w.heap.size s.size (by unfold World.shape?; rw [hg2]; simp [hlen]) s.data.toList (fun e => h0 (by show s.data.size = 0; rw [← Array.length_toList, e]; rfl)) (by rw [size_list]; exact Nat.le_refl _) (by rw [size_list]; omega)
      (fun j x hx => by
        rw [show ((⟨w.heap.size, 0, none⟩ : Addr).add j) = ⟨w.heap.size, j, none⟩ by simp [Addr.add]; omega]
        have hc : W2.cell? ⟨w.heap.size, j, none⟩ = (byv (Sums.bl s)).toArray[j]? := by simp [World.cell?, hg2]
        rw [hc, ← byteCells_byv]
        simp [Lib.byteCells, hx])
    rw [size_list, show (⟨s.data.toList.toArray⟩ : ByteArray) = s by simp] at hUS
    have HB2 := Hid.mk' hB2
    have hne : ((s.size : Int) == 0) = false := beq_eq_false_iff_ne.2 (by omega)
    have hsz : (0 : Int) < (s.size : Int) := by omega
    clear hW1 hW2 hB1 hB2 hmin htk hlen hg1 hg2 hi hz0 hz1 hz2
    go_enter Tryz.func150, Tryz.ntmps150
    go_wp2_with fail
    go_ret
    exact ⟨rfl, Lib.below_freeze HB2.out (p := ⟨w.heap.size, 0, none⟩) (Nat.le_refl _) _⟩
theorem clone_any (s : ByteArray) (w : World) (hs : s.size ≤ 281474976710656) :
    Calls Tryz.prog 148 #[.string s] w fun e w' => e = .returned (.string s) ∧ Below w.heap.size w w' := by
  go_enter Tryz.func148, Tryz.ntmps148
  go_wp2_with fail
  refine (cloneIn_any s w hs).mono ?_
  rintro e w1 ⟨rfl, hb⟩
  go_wp2_with fail
  go_ret
  exact ⟨rfl, hb⟩
end Go.Proofs.YtlplbnlfajdcbaaGreatDoor
