/-
  What a strings.Builder's calls do, at a Builder of the call's own. Conditions: as each says.
-/
import Derived.Test.YthmaaeibdcoemaaClone
import Derived.Lib.Builder
import Derived.Lib.MakeNoZero
import Derived.Laws.IdiomCopy
import Derived.Laws.Externs
import Derived.RegionTactic
import Derived.Deep.RegionHeld3
namespace Go.Proofs.Ythmaaeibdcoemaa
open Go.RowKit
set_option linter.unusedVariables false
/-- block b, from B on, holds a Builder of the bytes l; p: what its first cell holds -/
abbrev Bld (B b : Nat) (p : Value) (l : List Nat) (w : World) : Prop := Lib.BuilderAt 69 5 B b p (byv l) w
abbrev own (b : Nat) : Value := .pointer (some ⟨b, 0, none⟩)
theorem infoBl : (Try.prog.info? 69).map (·.size) = some 2 := by kernel_rfl
theorem liesBl : liesAt Try.prog Try.prog.depth 69 (2 / Try.prog.cellsOf 69) 0 69 1 = true := by kernel_rfl
theorem noEsc (args : Array Value) (w : World) : (callFunc 68 args).run Try.prog w = ((Extern.AbiNoEscape.same args).run Try.prog w).andThen fun v w' => .ok (.value v) w' :=
  run_callFunc_extern Try.func68 (by kernel_rfl) (by kernel_rfl) (by kernel_rfl) (by kernel_rfl) args w
set_option maxHeartbeats 1000000 in
theorem check_used (b : Nat) (w : World) (h0 : w.cell? ⟨b, 0, none⟩ = some (own b)) :
    Calls Try.prog 60 #[own b] w fun e w' => e = .returned (.tuple #[]) ∧ w' = w := by
  obtain ⟨j, hj, _⟩ := Option.map_eq_some_iff.1 infoBl
  have hq := Lib.run_neq_ptr_same (P := Try.prog) w ⟨b, 0, none⟩ Try.underlying67 hj
  go_enter Try.func60, Try.ntmps60
  go_wp2
  go_end0
  exact ⟨rfl, rfl⟩
set_option maxRecDepth 100000 in
set_option maxHeartbeats 1000000 in
theorem check_fresh (b : Nat) (w : World) (h0 : w.cell? ⟨b, 0, none⟩ = some (.pointer none)) (hsh : w.shape? b = some (69, 2)) (hfz : w.frozen? ⟨b, 0, none⟩ = false) :
    Calls Try.prog 60 #[own b] w fun e w' => e = .returned (.tuple #[]) ∧ w' = w.setCell ⟨b, 0, none⟩ (own b) := by
  obtain ⟨j, hj, hjs⟩ := Option.map_eq_some_iff.1 infoBl
  have q1 := Lib.run_to_unsafe (P := Try.prog) w ⟨b, 0, none⟩ Try.underlying67 Try.underlying96 hj (by rw [hjs]; decide) hsh (Nat.zero_lt_succ 1)
  have q2 : (callFunc 68 #[.pointer (some ⟨b, 0, none⟩)]).run Try.prog w = .ok (.value (.pointer (some ⟨b, 0, none⟩))) w := by rw [noEsc, Lib.run_noEscape]; rfl
  have q3 := Lib.run_from_unsafe (P := Try.prog) w ⟨b, 0, none⟩ Try.underlying96 Try.underlying67 hj hsh liesBl
  go_enter Try.func60, Try.ntmps60
  go_wp2
  go_end0
  exact ⟨rfl, rfl⟩
/-- rows that are no bytes stay as they were, but for block b -/
def Rest (b : Nat) (w w' : World) : Prop := ∀ k cs T, k ≠ b → T ≠ 5 → w.heap[k]? = some (.cells cs T (0, 0)) → w'.heap[k]? = some (.cells cs T (0, 0))
set_option maxRecDepth 100000 in
set_option maxHeartbeats 2000000 in
theorem wbyte_any (B b : Nat) (l : List Nat) (c : Nat) (w : World) (h : Bld B b (own b) l w) (hlen : l.length + 1 ≤ 140737488355328) (hBw : B ≤ w.heap.size) :
    Calls Try.prog 40 #[own b, .int .u8 (c : Int)] w fun e w' => e = .returned .nilIface ∧ Bld B b (own b) (l ++ [c]) w' ∧ Below B w w' ∧ Rest b w w' := by
  obtain ⟨i0, hi, hz0, hz1, hz2⟩ := info_parts infoB
  obtain ⟨hB, v, hbk, hown, hne⟩ := h
  rw [byv_len] at hown
  have c0 : w.cell? ⟨b, 0, none⟩ = some (own b) := by rw [Lib.cell_of_heap hbk]; rfl
  have c1 : w.cell? ⟨b, 1, none⟩ = some v := by rw [Lib.cell_of_heap hbk]; rfl
  go_enter Try.func40, Try.ntmps40
  go_wp2_with fail
  refine (check_used b w c0).mono ?_
  rintro e w1 ⟨rfl, rfl⟩
  have HBK := Hid.mk' hbk
  have HNE := Hid.mk' hne
  clear hbk hne
  go_wp2_with (at_builtin; refine wpList_append_own _ rfl _ _ 64 rfl B 5 i0 (.int .u8 0) 1 1 Try.underlying64 hi hz0 hz1 hz2 rfl (by decide) _ _ _ rfl (hown.alloc _) ⟨w1.heap.size, 0, none⟩ 1 1 [.int .u8 (c : Int)] rfl rfl (cell_one_new _ _ _) (by simp [Value.oneCell']) (by unfold maxLen; omega) (by omega) (by simp; omega) ?_)
  intro v' w2 hown' hgrow _
  have hlt : b < w1.heap.size := (Array.getElem?_eq_some_iff.1 HBK.out).1
  have hb2 : w2.heap[b]? = some (.cells #[own b, v] 69 (0, 0)) := by
    rw [hgrow.block b (by simp; omega) (fun e => HNE.out e.symm), Below.heap_alloc w1 _ b hlt]
    exact HBK.out
  have d1 : w2.cell? ⟨b, 1, none⟩ = some v := by rw [Lib.cell_of_heap hb2]; rfl
  have f1 : w2.frozen? ⟨b, 1, none⟩ = false := Lib.frozen_of_heap hb2 1
  obtain ⟨g, cap, rfl⟩ : ∃ g cap, v' = .slice (some ⟨g, 0, none⟩) (l.length + 1) cap := by
    rcases hown'.2 with ⟨_, h0⟩ | ⟨g, cap, cur, hv, _⟩
    · omega
    · exact ⟨g, cap, hv⟩
  have HBL : Hid (Bld B b (own b) (l ++ [c]) (w2.setCell ⟨b, 1, none⟩ (.slice (some ⟨g, 0, none⟩) (l.length + 1) cap)) ∧ Below B w1 (w2.setCell ⟨b, 1, none⟩ (.slice (some ⟨g, 0, none⟩) (l.length + 1) cap)) ∧ Rest b w1 (w2.setCell ⟨b, 1, none⟩ (.slice (some ⟨g, 0, none⟩) (l.length + 1) cap))) := by
    refine ⟨Lib.BuilderAt.put hB hb2 ?_ (by decide), (((Below.refl B w1).alloc hBw _).grown hgrow (by simp; omega) (fun k hk => (hown.lt k hk).1)).setCell (p := ⟨b, 1, none⟩) hB _, ?_⟩
    · rw [byv_len, byv_append, List.length_append]
      exact hown'
    · intro k cs T hkb hT hk
      have hkl : k < w1.heap.size := (Array.getElem?_eq_some_iff.1 hk).1
      rw [Below.heap_setCell _ _ _ _ (by exact hkb), hgrow.block k (by simp; omega) (fun e => Lib.ownBlock_ne hown hk hT e.symm), Below.heap_alloc w1 _ k hkl]
      exact hk
  clear hown hown' hgrow c0 c1 hb2 hlt
  go_wp2_with fail
  go_ret
  exact ⟨rfl, HBL.out⟩
end Go.Proofs.Ythmaaeibdcoemaa
