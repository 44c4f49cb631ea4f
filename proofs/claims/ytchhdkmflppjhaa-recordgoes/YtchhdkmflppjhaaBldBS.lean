/-
  What a strings.Builder's Grow and String do, at a Builder of the call's own. Conditions: as each says.
-/
import Derived.Test.YtchhdkmflppjhaaBldGS
import Derived.Lib.UnsafeStr
import Derived.Laws.MakeOwn
namespace Go.Proofs.Ytchhdkmflppjhaa
open Go.RowKit
set_option linter.unusedVariables false
theorem cellsB : Try.prog.cellsOf 5 = 1 := by kernel_rfl
set_option maxRecDepth 1000000 in
set_option maxHeartbeats 2000000 in
theorem Grow_zero (B b : Nat) (w : World) (hB : B ≤ b) (hbk : w.heap[b]? = some (.cells #[.pointer none, .slice none 0 0] 83 (0, 0))) (hBw : B ≤ w.heap.size) :
    Calls Try.prog 43 #[own b, .int .i64 0] w fun e w' => e = .returned (.tuple #[]) ∧ w'.heap[b]? = some (.cells #[own b, .slice none 0 0] 83 (0, 0)) ∧ Below B w w' := by
  obtain ⟨w1, hw1⟩ : ∃ w1, w1 = w.setCell ⟨b, 0, none⟩ (own b) := ⟨_, rfl⟩
  have hbk1 : w1.heap[b]? = some (.cells #[own b, .slice none 0 0] 83 (0, 0)) := by
    rw [hw1]
    simp [World.setCell, Array.getElem?_modify, hbk]
  have hb1 : Below B w w1 := by rw [hw1]; exact (Below.refl B w).setCell (p := ⟨b, 0, none⟩) hB _
  have c1 : w1.cell? ⟨b, 1, none⟩ = some (.slice none 0 0) := by rw [Lib.cell_of_heap hbk1]; rfl
  have hz : B ≤ w1.heap.size := Nat.le_trans hBw hb1.size
  have hcheck := check_fresh b w (by rw [Lib.cell_of_heap hbk]; rfl) (by simp [World.shape?, hbk]) (Lib.frozen_of_heap hbk 0)
  rw [← hw1] at hcheck
  have HB1 := Hid.mk' hb1
  have HBK1 := Hid.mk' hbk1
  clear hw1 hb1 hbk hbk1
  go_enter Try.func43, Try.ntmps43
  go_wp2_with fail
  refine hcheck.mono ?_
  rintro e w2 ⟨rfl, rfl⟩
  clear hcheck
  go_wp2_with fail
  go_quiet (fail)
  go_wp2_with fail
  go_end0
  exact ⟨rfl, HBK1.out, HB1.out.drewN' _⟩
set_option maxRecDepth 1000000 in
set_option maxHeartbeats 2000000 in
theorem Grow_new (B b n : Nat) (w : World) (hB : B ≤ b) (hbk : w.heap[b]? = some (.cells #[.pointer none, .slice none 0 0] 83 (0, 0))) (hBw : B ≤ w.heap.size) (hn : n ≤ 281474976710656) (hy : 0 < n) :
    Calls Try.prog 43 #[own b, .int .i64 (n : Int)] w fun e w' => e = .returned (.tuple #[]) ∧ Bld B b (own b) [] w' ∧ Below B w w' := by
  obtain ⟨w1, hw1⟩ : ∃ w1, w1 = w.setCell ⟨b, 0, none⟩ (own b) := ⟨_, rfl⟩
  have hbk1 : w1.heap[b]? = some (.cells #[own b, .slice none 0 0] 83 (0, 0)) := by
    rw [hw1]
    simp [World.setCell, Array.getElem?_modify, hbk]
  have hb1 : Below B w w1 := by rw [hw1]; exact (Below.refl B w).setCell (p := ⟨b, 0, none⟩) hB _
  have c1 : w1.cell? ⟨b, 1, none⟩ = some (.slice none 0 0) := by rw [Lib.cell_of_heap hbk1]; rfl
  have hz : B ≤ w1.heap.size := Nat.le_trans hBw hb1.size
  have hcheck := check_fresh b w (by rw [Lib.cell_of_heap hbk]; rfl) (by simp [World.shape?, hbk]) (Lib.frozen_of_heap hbk 0)
  rw [← hw1] at hcheck
  have HB1 := Hid.mk' hb1
  have HBK1 := Hid.mk' hbk1
  have n0 : ¬ (n : Int) < 0 := by omega
  clear hw1 hb1 hbk hbk1
  go_enter Try.func43, Try.ntmps43
  go_wp2_with fail
  refine hcheck.mono ?_
  rintro e w2 ⟨rfl, rfl⟩
  clear hcheck
  have hx : decide ((0 : Int) < (n : Int)) = true := decide_eq_true (by omega)
  have HN := Hid.mk' hn
  clear hn
  go_wp2_with fail
  go_quiet (fail)
  go_wp2_with fail
  refine (grow_new B b n (w2.drewN nq) hB HBK1.out hz HN.out).mono ?_
  rintro e w3 ⟨rfl, h1, h2⟩
  go_wp2_with fail
  go_end0
  exact ⟨rfl, h1, (HB1.out.drewN' _).trans h2⟩
set_option maxRecDepth 100000 in
set_option maxHeartbeats 2000000 in
theorem str_nil (B b : Nat) (p : Value) (w : World) (hbk : w.heap[b]? = some (.cells #[p, .slice none 0 0] 83 (0, 0))) :
    Calls Try.prog 47 #[own b] w fun e w' => e = .returned (.string ⟨#[]⟩) ∧ Below B w w' := by
  have hUS : ∀ (W : World) (q : Option Addr), (Builtin.unsafeString_ #[98, 3] 9 #[.pointer q, .int .i64 0]).run Try.prog W = .ok (.string .empty) W := fun W q => Lib.run_unsafeString_none W _ _ _ q
  have c1 : w.drew.cell? ⟨b, 1, none⟩ = some (.slice none 0 0) := by
    have : w.drew.heap[b]? = some (.cells #[p, .slice none 0 0] 83 (0, 0)) := hbk
    rw [Lib.cell_of_heap this]; rfl
  have hSD : (Builtin.unsafeSliceData_ #[70] 98 #[.slice none 0 0]).run Try.prog w.drew = .ok (.pointer none) w.drew := rfl
  go_enter Try.func47, Try.ntmps47
  go_wp2
  go_region
  all_goals (go_wp2; go_ret; exact ⟨rfl, Below.drew (Below.refl B w)⟩)
theorem byv_cells (l : List Nat) (hl : ∀ z ∈ l, z < 256) : byv l = Lib.byteCells (l.map UInt8.ofNat) := by
  unfold byv Lib.byteCells
  rw [List.map_map]
  apply List.map_congr_left
  intro z hz
  show Value.int .u8 (z : Int) = Value.int .u8 (((UInt8.ofNat z).toNat : Nat) : Int)
  exact congrArg (fun n : Nat => Value.int .u8 (n : Int)) (UInt8.toNat_ofNat_of_lt (hl z hz)).symm
theorem nums_arr (l : List Nat) : (⟨(l.map UInt8.ofNat).toArray⟩ : ByteArray) = nums l := by
  show _ = (⟨((l.map fun z => ((z : Nat) : Int)).map fun n => UInt8.ofNat n.toNat).toArray⟩ : ByteArray)
  rw [List.map_map]
  rfl
set_option maxRecDepth 100000 in
set_option maxHeartbeats 2000000 in
theorem str_some (B b : Nat) (p : Value) (l : List Nat) (w : World) (h : Bld B b p l w) (h0 : l ≠ []) (hl : ∀ z ∈ l, z < 256) :
    Calls Try.prog 47 #[own b] w fun e w' => e = .returned (.string (nums l)) ∧ Below B w w' := by
  obtain ⟨hB, v, hbk, hown, hne⟩ := h
  have hl0 : l.length ≠ 0 := by simpa using h0
  rw [byv_len] at hown
  obtain ⟨g, cap, cur, rfl, hbg, hg, hnc, hcm, hcs, htake⟩ : ∃ g cap cur, v = .slice (some ⟨g, 0, none⟩) l.length cap ∧ B ≤ g ∧ w.heap[g]? = some (.cells cur 5 (0, 0)) ∧ l.length ≤ cap ∧ cap ≤ maxLen ∧ cur.size = cap * 1 ∧ cur.toList.take (l.length * 1) = byv l := by
    rcases hown.2 with ⟨_, hz⟩ | ⟨g, cap, cur, hv, r⟩
    · exact absurd hz hl0
    · exact ⟨g, cap, cur, hv, r⟩
  have c1 : w.drew.cell? ⟨b, 1, none⟩ = some (.slice (some ⟨g, 0, none⟩) l.length cap) := by
    have : w.drew.heap[b]? = some (.cells #[p, .slice (some ⟨g, 0, none⟩) l.length cap] 83 (0, 0)) := hbk
    rw [Lib.cell_of_heap this]; rfl
  have hSD : (Builtin.unsafeSliceData_ #[70] 98 #[.slice (some ⟨g, 0, none⟩) l.length cap]).run Try.prog w.drew = .ok (.pointer (some ⟨g, 0, none⟩)) w.drew :=
    Lib.run_unsafeSliceData_row _ _ _ _ _ _ (by omega)
  have hUS : (Builtin.unsafeString_ #[98, 3] 9 #[.pointer (some ⟨g, 0, none⟩), .int .i64 l.length]).run Try.prog w.drew = .ok (.string (nums l)) (w.drew.freeze ⟨g, 0, none⟩ l.length) := by
    have hm : (l.map UInt8.ofNat).length = l.length := List.length_map ..
    have := Lib.run_unsafeString_row (P := Try.prog) w.drew 98 3 9 5 Try.underlying98 cellsB g cur.size (by have hg' : w.drew.heap[g]? = some (.cells cur 5 (0, 0)) := hg; simp [World.shape?, hg']) (l.map UInt8.ofNat) (by simpa using h0) (by omega) (by unfold maxLen at hcm; omega) (fun j x hx => by
      have hjl : j < l.length := by have := (List.getElem?_eq_some_iff.1 hx).1; omega
      have hc := hown.cellAt j (by omega)
      rw [byv_cells l hl] at hc
      rw [show ((⟨g, 0, none⟩ : Addr).add j) = ⟨g, j, none⟩ by simp [Addr.add]; omega]
      show w.cell? ⟨g, j, none⟩ = _
      rw [hc]
      simp only [Lib.byteCells, List.getElem?_map, hx, Option.map_some])
    rw [hm, nums_arr] at this
    exact this
  have HBG := Hid.mk' hbg
  clear hown htake hcs hcm hnc hg hbg hl0 hne hbk h0 hl
  go_enter Try.func47, Try.ntmps47
  go_wp2
  go_region
  all_goals (go_wp2; go_ret; exact ⟨rfl, Lib.below_freeze (Below.drew (Below.refl B w)) (p := ⟨g, 0, none⟩) HBG.out _⟩)
end Go.Proofs.Ytchhdkmflppjhaa
