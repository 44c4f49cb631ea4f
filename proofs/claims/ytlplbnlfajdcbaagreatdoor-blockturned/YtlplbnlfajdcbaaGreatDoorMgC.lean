/-
  strings.Builder as it grows. Conditions: as each says.
-/
import Derived.Test.YtlplbnlfajdcbaaGreatDoorMgA
import Derived.Lib.Builder
import Derived.Lib.MakeNoZero
import Derived.Laws.IdiomCopy
import Derived.Laws.Externs
import Derived.RegionTactic
import Derived.Deep.RegionHeld3
import Derived.Lib.UnsafeStr
import Derived.Laws.MakeOwn
import Derived.Test.YtlplbnlfajdcbaaGreatDoorRcC
import Derived.Lib.AppendStr
import Derived.Laws.AppendOwnNone
namespace Go.Proofs.YtlplbnlfajdcbaaGreatDoor
open Go.RowKit
set_option linter.unusedVariables false
/-- block b, from B on, holds a Builder of the bytes l; p: what its first cell holds -/
abbrev Bld (B b : Nat) (p : Value) (l : List Nat) (w : World) : Prop := Lib.BuilderAt 142 5 B b p (byv l) w
abbrev own (b : Nat) : Value := .pointer (some ⟨b, 0, none⟩)
theorem infoS : (Tryz.prog.info? 5).map (·.size) = some 1 := by kernel_rfl
theorem infoBl : (Tryz.prog.info? 142).map (·.size) = some 2 := by kernel_rfl
theorem liesBl : liesAt Tryz.prog Tryz.prog.depth 142 (2 / Tryz.prog.cellsOf 142) 0 142 1 = true := by kernel_rfl
theorem noEsc (args : Array Value) (w : World) : (callFunc 139 args).run Tryz.prog w = ((Extern.AbiNoEscape.same args).run Tryz.prog w).andThen fun v w' => .ok (.value v) w' :=
  run_callFunc_extern Tryz.func139 (by kernel_rfl) (by kernel_rfl) (by kernel_rfl) (by kernel_rfl) args w
set_option maxHeartbeats 1000000 in
theorem check_used (b : Nat) (w : World) (h0 : w.cell? ⟨b, 0, none⟩ = some (own b)) :
    Calls Tryz.prog 116 #[own b] w fun e w' => e = .returned (.tuple #[]) ∧ w' = w := by
  obtain ⟨j, hj, _⟩ := Option.map_eq_some_iff.1 infoBl
  have hq := Lib.run_neq_ptr_same (P := Tryz.prog) w ⟨b, 0, none⟩ Tryz.underlying140 hj
  go_enter Tryz.func116, Tryz.ntmps116
  go_wp2
  go_end0
  exact ⟨rfl, rfl⟩
set_option maxRecDepth 100000 in
set_option maxHeartbeats 1000000 in
theorem check_fresh (b : Nat) (w : World) (h0 : w.cell? ⟨b, 0, none⟩ = some (.pointer none)) (hsh : w.shape? b = some (142, 2)) (hfz : w.frozen? ⟨b, 0, none⟩ = false) :
    Calls Tryz.prog 116 #[own b] w fun e w' => e = .returned (.tuple #[]) ∧ w' = w.setCell ⟨b, 0, none⟩ (own b) := by
  obtain ⟨j, hj, hjs⟩ := Option.map_eq_some_iff.1 infoBl
  have q1 := Lib.run_to_unsafe (P := Tryz.prog) w ⟨b, 0, none⟩ Tryz.underlying140 Tryz.underlying99 hj (by rw [hjs]; decide) hsh (Nat.zero_lt_succ 1)
  have q2 : (callFunc 139 #[.pointer (some ⟨b, 0, none⟩)]).run Tryz.prog w = .ok (.value (.pointer (some ⟨b, 0, none⟩))) w := by rw [noEsc, Lib.run_noEscape]; rfl
  have q3 := Lib.run_from_unsafe (P := Tryz.prog) w ⟨b, 0, none⟩ Tryz.underlying99 Tryz.underlying140 hj hsh liesBl
  go_enter Tryz.func116, Tryz.ntmps116
  go_wp2
  go_end0
  exact ⟨rfl, rfl⟩
/-- rows that are no bytes stay as they were, but for block b -/
def Rest (b : Nat) (w w' : World) : Prop := ∀ k cs T, k ≠ b → T ≠ 5 → w.heap[k]? = some (.cells cs T (0, 0)) → w'.heap[k]? = some (.cells cs T (0, 0))
end Go.Proofs.YtlplbnlfajdcbaaGreatDoor

namespace Go.Proofs.YtlplbnlfajdcbaaGreatDoor
open Go.RowKit
set_option linter.unusedVariables false
theorem mkNoZero (args : Array Value) (w : World) : (callFunc 140 args).run Tryz.prog w = ((Extern.BytealgMakeNoZero.makeNoZero #[3] #[52] args).run Tryz.prog w).andThen fun v w' => .ok (.value v) w' :=
  run_callFunc_extern Tryz.func140 (by kernel_rfl) (by kernel_rfl) (by kernel_rfl) (by kernel_rfl) args w
set_option maxRecDepth 1000000 in
set_option maxHeartbeats 2000000 in
theorem grow_new (B b n : Nat) (w : World) (hB : B ≤ b) (hbk : w.heap[b]? = some (.cells #[own b, .slice none 0 0] 142 (0, 0))) (hBw : B ≤ w.heap.size) (hn : n ≤ 281474976710656) :
    Calls Tryz.prog 117 #[own b, .int .i64 (n : Int)] w fun e w' => e = .returned (.tuple #[]) ∧ Bld B b (own b) [] w' ∧ Below B w w' := by
  obtain ⟨cs, hrun, hle, hmax⟩ := Lib.run_makeNoZero (P := Tryz.prog) w.drew #[3] 52 5 Tryz.underlying52 n hn
  have hw : IntKind.i64.wrap (IntKind.i64.wrap 0 + (n : Int)) = n := by
    rw [IntKind.wrap_i64, IntKind.wrap_i64]
    omega
  have hcall : (callFunc 140 #[.int .i64 (IntKind.i64.wrap (IntKind.i64.wrap 0 + (n : Int)))]).run Tryz.prog w.drew = .ok (.value (.slice (some ⟨w.drew.heap.size, 0, none⟩) n cs.size)) (w.drew.drew.drew.alloc (.cells cs 5)) := by
    rw [hw, mkNoZero, hrun]
    rfl
  have hlt : b < w.heap.size := (Array.getElem?_eq_some_iff.1 hbk).1
  have c1 : w.drew.cell? ⟨b, 1, none⟩ = some (.slice none 0 0) := by
    have : w.drew.heap[b]? = _ := hbk
    rw [Lib.cell_of_heap this]; rfl
  have c2 : (w.alloc (.cells cs 5)).cell? ⟨b, 1, none⟩ = some (.slice none 0 0) := by
    have : (w.alloc (.cells cs 5)).heap[b]? = _ := (Below.heap_alloc w _ b hlt).trans hbk
    rw [Lib.cell_of_heap this]; rfl
  have f2 : (w.alloc (.cells cs 5)).frozen? ⟨b, 1, none⟩ = false := Lib.frozen_of_heap ((Below.heap_alloc w _ b hlt).trans hbk) 1
  have hcopy : ∀ W : World, (Builtin.copy_ #[52, 52] 3 #[.slice (some ⟨w.heap.size, 0, none⟩) 0 cs.size, .slice none 0 0]).run Tryz.prog W = .ok (goInt 0) W :=
    fun W => run_copy_none W 52 52 3 5 _ _ 0 cs.size 0 0 Tryz.underlying52 infoS rfl
  clear hw hlt
  go_enter Tryz.func117, Tryz.ntmps117
  go_wp2
  have hfin := Lib.grown_fresh (T := 142) (e := 5) (cs := cs) hB hbk hBw (hmax (by unfold maxLen; omega)) (by decide)
  go_region
  all_goals (go_wp2; go_end0; exact ⟨rfl, hfin⟩)
end Go.Proofs.YtlplbnlfajdcbaaGreatDoor

namespace Go.Proofs.YtlplbnlfajdcbaaGreatDoor
open Go.RowKit
set_option linter.unusedVariables false
theorem cellsB : Tryz.prog.cellsOf 5 = 1 := by kernel_rfl
set_option maxRecDepth 1000000 in
set_option maxHeartbeats 2000000 in
theorem Grow_zero (B b : Nat) (w : World) (hB : B ≤ b) (hbk : w.heap[b]? = some (.cells #[.pointer none, .slice none 0 0] 142 (0, 0))) (hBw : B ≤ w.heap.size) :
    Calls Tryz.prog 86 #[own b, .int .i64 0] w fun e w' => e = .returned (.tuple #[]) ∧ w'.heap[b]? = some (.cells #[own b, .slice none 0 0] 142 (0, 0)) ∧ Below B w w' := by
  obtain ⟨w1, hw1⟩ : ∃ w1, w1 = w.setCell ⟨b, 0, none⟩ (own b) := ⟨_, rfl⟩
  have hbk1 : w1.heap[b]? = some (.cells #[own b, .slice none 0 0] 142 (0, 0)) := by
    rw [hw1]
    simp [World.setCell, Array.getElem?_modify, hbk]
  have hb1 : Below B w w1 := by rw [hw1]; exact (Below.refl B w).setCell (p := ⟨b, 0, none⟩) hB _
  have c1 : w1.cell? ⟨b, 1, none⟩ = some (.slice none 0 0) := by rw [Lib.cell_of_heap hbk1]; rfl
  have hz : B ≤ w1.heap.size := Nat.le_trans hBw hb1.size
  have hcheck := check_fresh b w (by rw [Lib.cell_of_heap hbk]; rfl) (by simp [World.shape?, hbk]) (Lib.frozen_of_heap hbk 0)
  rw [← hw1] at hcheck
  have HB1 := Hid.mk' hb1
  have HBK1 := Hid.mk' hbk1
  clear hw1 hb1 hbk hbk1
  go_enter Tryz.func86, Tryz.ntmps86
  go_wp2_with fail
  refine hcheck.mono ?_
  rintro e w2 ⟨rfl, rfl⟩
  clear hcheck
  go_wp2_with fail
  go_quiet (fail)
  go_wp2_with fail
  go_end0
  exact ⟨rfl, HBK1.out, HB1.out.drewN' _⟩
set_option maxRecDepth 1000000 in
set_option maxHeartbeats 2000000 in
theorem Grow_new (B b n : Nat) (w : World) (hB : B ≤ b) (hbk : w.heap[b]? = some (.cells #[.pointer none, .slice none 0 0] 142 (0, 0))) (hBw : B ≤ w.heap.size) (hn : n ≤ 281474976710656) (hy : 0 < n) :
    Calls Tryz.prog 86 #[own b, .int .i64 (n : Int)] w fun e w' => e = .returned (.tuple #[]) ∧ Bld B b (own b) [] w' ∧ Below B w w' := by
  obtain ⟨w1, hw1⟩ : ∃ w1, w1 = w.setCell ⟨b, 0, none⟩ (own b) := ⟨_, rfl⟩
  have hbk1 : w1.heap[b]? = some (.cells #[own b, .slice none 0 0] 142 (0, 0)) := by
    rw [hw1]
    simp [World.setCell, Array.getElem?_modify, hbk]
  have hb1 : Below B w w1 := by rw [hw1]; exact (Below.refl B w).setCell (p := ⟨b, 0, none⟩) hB _
  have c1 : w1.cell? ⟨b, 1, none⟩ = some (.slice none 0 0) := by rw [Lib.cell_of_heap hbk1]; rfl
  have hz : B ≤ w1.heap.size := Nat.le_trans hBw hb1.size
  have hcheck := check_fresh b w (by rw [Lib.cell_of_heap hbk]; rfl) (by simp [World.shape?, hbk]) (Lib.frozen_of_heap hbk 0)
  rw [← hw1] at hcheck
  have HB1 := Hid.mk' hb1
  have HBK1 := Hid.mk' hbk1
  have n0 : ¬ (n : Int) < 0 := by omega
  clear hw1 hb1 hbk hbk1
  go_enter Tryz.func86, Tryz.ntmps86
  go_wp2_with fail
  refine hcheck.mono ?_
  rintro e w2 ⟨rfl, rfl⟩
  clear hcheck
  have hx : decide ((0 : Int) < (n : Int)) = true := decide_eq_true (by omega)
  have HN := Hid.mk' hn
  clear hn
  go_wp2_with fail
  go_quiet (fail)
  go_wp2_with fail
  refine (grow_new B b n (w2.drewN nq) hB HBK1.out hz HN.out).mono ?_
  rintro e w3 ⟨rfl, h1, h2⟩
  go_wp2_with fail
  go_end0
  exact ⟨rfl, h1, (HB1.out.drewN' _).trans h2⟩
set_option maxRecDepth 100000 in
set_option maxHeartbeats 2000000 in
theorem str_nil (B b : Nat) (p : Value) (w : World) (hbk : w.heap[b]? = some (.cells #[p, .slice none 0 0] 142 (0, 0))) :
    Calls Tryz.prog 91 #[own b] w fun e w' => e = .returned (.string ⟨#[]⟩) ∧ Below B w w' := by
  have hUS : ∀ (W : World) (q : Option Addr), (Builtin.unsafeString_ #[189, 3] 9 #[.pointer q, .int .i64 0]).run Tryz.prog W = .ok (.string .empty) W := fun W q => Lib.run_unsafeString_none W _ _ _ q
  have c1 : w.drew.cell? ⟨b, 1, none⟩ = some (.slice none 0 0) := by
    have : w.drew.heap[b]? = some (.cells #[p, .slice none 0 0] 142 (0, 0)) := hbk
    rw [Lib.cell_of_heap this]; rfl
  have hSD : (Builtin.unsafeSliceData_ #[52] 189 #[.slice none 0 0]).run Tryz.prog w.drew = .ok (.pointer none) w.drew := rfl
  go_enter Tryz.func91, Tryz.ntmps91
  go_wp2
  go_region
  all_goals (go_wp2; go_ret; exact ⟨rfl, Below.drew (Below.refl B w)⟩)
theorem byv_cells (l : List Nat) (hl : ∀ z ∈ l, z < 256) : byv l = Lib.byteCells (l.map UInt8.ofNat) := by
  unfold byv Lib.byteCells
  rw [List.map_map]
  apply List.map_congr_left
  intro z hz
  show Value.int .u8 (z : Int) = Value.int .u8 (((UInt8.ofNat z).toNat : Nat) : Int)
  exact congrArg (fun n : Nat => Value.int .u8 (n : Int)) (UInt8.toNat_ofNat_of_lt (hl z hz)).symm
theorem nums_arr (l : List Nat) : (⟨(l.map UInt8.ofNat).toArray⟩ : ByteArray) = nums l := by
  show _ = (⟨((l.map fun z => ((z : Nat) : Int)).map fun n => UInt8.ofNat n.toNat).toArray⟩ : ByteArray)
  rw [List.map_map]
  rfl
set_option maxRecDepth 100000 in
set_option maxHeartbeats 2000000 in
theorem str_some (B b : Nat) (p : Value) (l : List Nat) (w : World) (h : Bld B b p l w) (h0 : l ≠ []) (hl : ∀ z ∈ l, z < 256) :
    Calls Tryz.prog 91 #[own b] w fun e w' => e = .returned (.string (nums l)) ∧ Below B w w' := by
  obtain ⟨hB, v, hbk, hown, hne⟩ := h
  have hl0 : l.length ≠ 0 := by simpa using h0
  rw [byv_len] at hown
  obtain ⟨g, cap, cur, rfl, hbg, hg, hnc, hcm, hcs, htake⟩ : ∃ g cap cur, v = .slice (some ⟨g, 0, none⟩) l.length cap ∧ B ≤ g ∧ w.heap[g]? = some (.cells cur 5 (0, 0)) ∧ l.length ≤ cap ∧ cap ≤ maxLen ∧ cur.size = cap * 1 ∧ cur.toList.take (l.length * 1) = byv l := by
    rcases hown.2 with ⟨_, hz⟩ | ⟨g, cap, cur, hv, r⟩
    · exact absurd hz hl0
    · exact ⟨g, cap, cur, hv, r⟩
  have c1 : w.drew.cell? ⟨b, 1, none⟩ = some (.slice (some ⟨g, 0, none⟩) l.length cap) := by
    have : w.drew.heap[b]? = some (.cells #[p, .slice (some ⟨g, 0, none⟩) l.length cap] 142 (0, 0)) := hbk
    rw [Lib.cell_of_heap this]; rfl
  have hSD : (Builtin.unsafeSliceData_ #[52] 189 #[.slice (some ⟨g, 0, none⟩) l.length cap]).run Tryz.prog w.drew = .ok (.pointer (some ⟨g, 0, none⟩)) w.drew :=
    Lib.run_unsafeSliceData_row _ _ _ _ _ _ (by omega)
  have hUS : (Builtin.unsafeString_ #[189, 3] 9 #[.pointer (some ⟨g, 0, none⟩), .int .i64 l.length]).run Tryz.prog w.drew = .ok (.string (nums l)) (w.drew.freeze ⟨g, 0, none⟩ l.length) := by
    have hm : (l.map UInt8.ofNat).length = l.length := List.length_map ..
    have := Lib.run_unsafeString_row (P := Tryz.prog) w.drew 189 3 9 5 Tryz.underlying189 cellsB g cur.size (by have hg' : w.drew.heap[g]? = some (.cells cur 5 (0, 0)) := hg; simp [World.shape?, hg']) (l.map UInt8.ofNat) (by simpa using h0) (by omega) (by unfold maxLen at hcm; omega) (fun j x hx => by
      have hjl : j < l.length := by have := (List.getElem?_eq_some_iff.1 hx).1; omega
      have hc := hown.cellAt j (by omega)
      rw [byv_cells l hl] at hc
      rw [show ((⟨g, 0, none⟩ : Addr).add j) = ⟨g, j, none⟩ by simp [Addr.add]; omega]
      show w.cell? ⟨g, j, none⟩ = _
      rw [hc]
      simp only [Lib.byteCells, List.getElem?_map, hx, Option.map_some])
    rw [hm, nums_arr] at this
    exact this
  have HBG := Hid.mk' hbg
  clear hown htake hcs hcm hnc hg hbg hl0 hne hbk h0 hl
  go_enter Tryz.func91, Tryz.ntmps91
  go_wp2
  go_region
  all_goals (go_wp2; go_ret; exact ⟨rfl, Lib.below_freeze (Below.drew (Below.refl B w)) (p := ⟨g, 0, none⟩) HBG.out _⟩)
end Go.Proofs.YtlplbnlfajdcbaaGreatDoor

namespace Go.Proofs.YtlplbnlfajdcbaaGreatDoor
open Go.RowKit
set_option linter.unusedVariables false
theorem check_any (B b : Nat) (p : Value) (l : List Nat) (w : World) (h : Bld B b p l w) (hp : p = .pointer none ∨ p = own b) :
    Calls Tryz.prog 116 #[own b] w fun e w' => e = .returned (.tuple #[]) ∧ Bld B b (own b) l w' ∧ Below B w w' ∧ Rest b w w' ∧ w'.heap.size = w.heap.size := by
  rcases hp with rfl | rfl
  · refine (check_fresh b w h.cell0 h.shape h.frozen0).mono ?_
    rintro e w' ⟨rfl, rfl⟩
    refine ⟨rfl, h.used _, (Below.refl B w).setCell (p := ⟨b, 0, none⟩) h.1 _, ?_, by simp [World.setCell]⟩
    intro k cs T hkb hT hk
    rw [Below.heap_setCell _ _ _ _ (by exact hkb)]
    exact hk
  · refine (check_used b w h.cell0).mono ?_
    rintro e w' ⟨rfl, rfl⟩
    exact ⟨rfl, h, Below.refl _ _, fun _ _ _ _ _ hk => hk, rfl⟩
theorem Rest.trans {b : Nat} {x y z : World} (h : Rest b x y) (k : Rest b y z) : Rest b x z := fun i cs T h1 h2 h3 => k i cs T h1 h2 (h i cs T h1 h2 h3)
set_option maxRecDepth 100000 in
set_option maxHeartbeats 2000000 in
theorem wstr_any (B b : Nat) (p : Value) (l : List Nat) (s : ByteArray) (w : World) (h : Bld B b p l w) (hp : p = .pointer none ∨ p = own b) (hlen : l.length + s.size ≤ 140737488355328) (hBw : B ≤ w.heap.size) :
    Calls Tryz.prog 88 #[own b, .string s] w fun e w' => e = .returned (.tuple #[.int .i64 s.size, .nilIface]) ∧ Bld B b (own b) (l ++ Sums.bl s) w' ∧ Below B w w' ∧ Rest b w w' := by
  obtain ⟨i0, hi, hz0, hz1, hz2⟩ := info_parts infoB
  have hsI : (s.size : Int) ≤ 140737488355328 := by omega
  have HC := Hid.mk' (check_any B b p l w h hp)
  clear h hp
  go_enter Tryz.func88, Tryz.ntmps88
  go_wp2_with fail
  refine HC.out.mono ?_
  rintro e w1 ⟨rfl, h1, hbel, hrest, hsz⟩
  rw [← hsz] at hBw
  have HX := Hid.mk' (And.intro hbel hrest)
  clear hbel hrest hsz HC
  obtain ⟨hB, v, hbk, hown, hne⟩ := h1
  rw [byv_len] at hown
  have c0 : w1.cell? ⟨b, 0, none⟩ = some (own b) := by rw [Lib.cell_of_heap hbk]; rfl
  have c1 : w1.cell? ⟨b, 1, none⟩ = some v := by rw [Lib.cell_of_heap hbk]; rfl
  have HBK := Hid.mk' hbk
  have HNE := Hid.mk' hne
  clear hbk hne
  go_wp2_with (at_builtin; refine Lib.wpList_append_own_string _ rfl _ _ 52 9 rfl B 5 i0 Tryz.underlying52 Tryz.underlying9 hi hz0 hz1 hz2 _ _ _ rfl hown s rfl (by unfold maxLen; omega) (by omega) (by omega) ?_)
  intro v' w2 hown' hgrow _
  have hlt : b < w1.heap.size := (Array.getElem?_eq_some_iff.1 HBK.out).1
  have hb2 : w2.heap[b]? = some (.cells #[own b, v] 142 (0, 0)) := by
    rw [hgrow.block b hlt (fun e => HNE.out e.symm)]
    exact HBK.out
  have d1 : w2.cell? ⟨b, 1, none⟩ = some v := by rw [Lib.cell_of_heap hb2]; rfl
  have f1 : w2.frozen? ⟨b, 1, none⟩ = false := Lib.frozen_of_heap hb2 1
  obtain ⟨ao, n', cap, rfl⟩ : ∃ ao n' cap, v' = .slice ao n' cap := by
    rcases hown'.2 with ⟨hv, _⟩ | ⟨g, cap, cur, hv, _⟩
    · exact ⟨_, _, _, hv⟩
    · exact ⟨_, _, _, hv⟩
  have HBL : Hid (Bld B b (own b) (l ++ Sums.bl s) (w2.setCell ⟨b, 1, none⟩ (.slice ao n' cap)) ∧ Below B w (w2.setCell ⟨b, 1, none⟩ (.slice ao n' cap)) ∧ Rest b w (w2.setCell ⟨b, 1, none⟩ (.slice ao n' cap))) := by
    refine ⟨Lib.BuilderAt.put hB hb2 ?_ (by decide), HX.out.1.trans (((Below.refl B w1).grown hgrow hBw (fun k hk => (hown.lt k hk).1)).setCell (p := ⟨b, 1, none⟩) hB _), HX.out.2.trans ?_⟩
    · rw [byv_len, byv_append, List.length_append, Sums.bl_length, ← str_byv]
      exact hown'
    · intro k cs T hkb hT hk
      have hkl : k < w1.heap.size := (Array.getElem?_eq_some_iff.1 hk).1
      rw [Below.heap_setCell _ _ _ _ (by exact hkb), hgrow.block k hkl (fun e => Lib.ownBlock_ne hown hk hT e.symm)]
      exact hk
  clear hown hown' hgrow c0 c1 hb2 hlt
  go_wp2_with fail
  go_ret2
  exact ⟨rfl, HBL.out⟩
theorem Bld.below {B b : Nat} {p : Value} {l : List Nat} {w w' : World} (h : Bld B b p l w) (hb : Below w.heap.size w w') : Bld B b p l w' := by
  obtain ⟨hB, v, hbk, hown, hne⟩ := h
  refine ⟨hB, v, (hb.block b (Array.getElem?_eq_some_iff.1 hbk).1).trans hbk, ?_, hne⟩
  exact ⟨hown.1, hown.2.imp id fun ⟨g, cap, cur, e1, e2, e3, r⟩ => ⟨g, cap, cur, e1, e2, (hb.block g (Array.getElem?_eq_some_iff.1 e3).1).trans e3, r⟩⟩
set_option maxRecDepth 100000 in
set_option maxHeartbeats 2000000 in
theorem wmany2_any (B b : Nat) (l ns : List Nat) (g0 c : Nat) (w : World) (h : Bld B b (own b) l w) (hc : ∀ j u, (byv ns)[j]? = some u → w.cell? ((⟨g0, 0, none⟩ : Addr).add j) = some u) (hlen : l.length + ns.length ≤ 140737488355328) (hBw : B ≤ w.heap.size) :
    Calls Tryz.prog 90 #[own b, .slice (some ⟨g0, 0, none⟩) ns.length c] w fun e w' => e = .returned (.tuple #[.int .i64 (ns.length : Int), .nilIface]) ∧ Bld B b (own b) (l ++ ns) w' ∧ Below B w w' ∧ Rest b w w' := by
  obtain ⟨i0, hi, hz0, hz1, hz2⟩ := info_parts infoB
  obtain ⟨hB, v, hbk, hown, hne⟩ := h
  rw [byv_len] at hown
  have c0 : w.cell? ⟨b, 0, none⟩ = some (own b) := by rw [Lib.cell_of_heap hbk]; rfl
  have c1 : w.cell? ⟨b, 1, none⟩ = some v := by rw [Lib.cell_of_heap hbk]; rfl
  go_enter Tryz.func90, Tryz.ntmps90
  go_wp2_with fail
  refine (check_used b w c0).mono ?_
  rintro e w1 ⟨rfl, rfl⟩
  have HBK := Hid.mk' hbk
  have HNE := Hid.mk' hne
  clear hbk hne
  go_wp2_with (at_builtin; refine wpList_append_own _ rfl _ _ 52 rfl B 5 i0 (.int .u8 0) 1 1 Tryz.underlying52 hi hz0 hz1 hz2 rfl (by decide) _ _ _ rfl hown ⟨g0, 0, none⟩ ns.length c (byv ns) rfl (by rw [byv_len]; omega) hc (by intro u hu; unfold byv at hu; obtain ⟨z, _, rfl⟩ := List.mem_map.1 hu; rfl) (by unfold maxLen; omega) (by omega) hBw ?_)
  intro v' w2 hown' hgrow _
  have hlt : b < w1.heap.size := (Array.getElem?_eq_some_iff.1 HBK.out).1
  have hb2 : w2.heap[b]? = some (.cells #[own b, v] 142 (0, 0)) := by
    rw [hgrow.block b hlt (fun e => HNE.out e.symm)]
    exact HBK.out
  have d1 : w2.cell? ⟨b, 1, none⟩ = some v := by rw [Lib.cell_of_heap hb2]; rfl
  have f1 : w2.frozen? ⟨b, 1, none⟩ = false := Lib.frozen_of_heap hb2 1
  obtain ⟨g, cap, rfl⟩ := row_shape hown'
  have HBL : Hid (Bld B b (own b) (l ++ ns) (w2.setCell ⟨b, 1, none⟩ (.slice g (l.length + ns.length) cap)) ∧ Below B w1 (w2.setCell ⟨b, 1, none⟩ (.slice g (l.length + ns.length) cap)) ∧ Rest b w1 (w2.setCell ⟨b, 1, none⟩ (.slice g (l.length + ns.length) cap))) := by
    refine ⟨Lib.BuilderAt.put hB hb2 ?_ (by decide), ((Below.refl B w1).grown hgrow (by omega) (fun k hk => (hown.lt k hk).1)).setCell (p := ⟨b, 1, none⟩) hB _, ?_⟩
    · rw [byv_len, byv_append, List.length_append]
      exact hown'
    · intro k cs T hkb hT hk
      have hkl : k < w1.heap.size := (Array.getElem?_eq_some_iff.1 hk).1
      rw [Below.heap_setCell _ _ _ _ (by exact hkb), hgrow.block k hkl (fun e => Lib.ownBlock_ne hown hk hT e.symm)]
      exact hk
  clear hown hown' hgrow c0 c1 hb2 hlt hc
  go_wp2_with fail
  go_ret2
  exact ⟨rfl, HBL.out⟩
set_option maxRecDepth 100000 in
set_option maxHeartbeats 1000000 in
theorem wmany0_any (B b : Nat) (l : List Nat) (w : World) (h : Bld B b (own b) l w) :
    Calls Tryz.prog 90 #[own b, .slice none 0 0] w fun e w' => e = .returned (.tuple #[.int .i64 0, .nilIface]) ∧ Bld B b (own b) l w' ∧ Below B w w' := by
  obtain ⟨i0, hi, hz0, hz1, hz2⟩ := info_parts infoB
  obtain ⟨hB, v, hbk, hown, hne⟩ := h
  rw [byv_len] at hown
  obtain ⟨g, cap, rfl⟩ := row_shape hown
  have c0 : w.cell? ⟨b, 0, none⟩ = some (own b) := by rw [Lib.cell_of_heap hbk]; rfl
  have c1 : w.cell? ⟨b, 1, none⟩ = some (.slice g l.length cap) := by rw [Lib.cell_of_heap hbk]; rfl
  have f1 : w.frozen? ⟨b, 1, none⟩ = false := Lib.frozen_of_heap hbk 1
  have HBL : Hid (Bld B b (own b) l (w.setCell ⟨b, 1, none⟩ (.slice g l.length cap)) ∧ Below B w (w.setCell ⟨b, 1, none⟩ (.slice g l.length cap))) := by
    refine ⟨Lib.BuilderAt.put hB hbk ?_ (by decide), (Below.refl B w).setCell (p := ⟨b, 1, none⟩) hB _⟩
    rw [byv_len]
    exact hown
  clear hbk hne
  go_enter Tryz.func90, Tryz.ntmps90
  go_wp2_with fail
  refine (check_used b w c0).mono ?_
  rintro e w1 ⟨rfl, rfl⟩
  go_wp2_with (at_builtin; refine wpList_append_own_none rfl _ _ 52 rfl B 5 i0 1 Tryz.underlying52 hi _ _ _ rfl hown rfl ?_)
  go_wp2_with fail
  go_ret2
  exact ⟨rfl, HBL.out⟩
theorem byv_nil_own {w : World} {B n : Nat} {v : Value} {l : List Nat} (h : w.ownsRow B 5 1 v n (byv l)) (hn : n = l.length) : v = .slice none 0 0 ∧ l = [] ∨ ∃ g c, v = .slice (some ⟨g, 0, none⟩) l.length c ∧ ∀ j u, (byv l)[j]? = some u → w.cell? ((⟨g, 0, none⟩ : Addr).add j) = some u := by
  subst hn
  rcases h.2 with ⟨rfl, h0⟩ | ⟨g, cap, cur, rfl, h1, h2, h3⟩
  · exact .inl ⟨rfl, List.length_eq_zero_iff.1 h0⟩
  · exact .inr ⟨g, cap, rfl, h.cells (g := g) rfl⟩
end Go.Proofs.YtlplbnlfajdcbaaGreatDoor
