/-
  fields.Is by OpHas; what compare tells, there and back. Conditions: a text below 4294967281 bytes; some int lies in the library's variable.
-/
import Derived.Test.YtacbmpjpindepaaGreatDoorTotA
import Derived.Test.YtacbmpjpindepaaGreatDoorFmV
import Derived.Shelf.Vars
namespace Go.Proofs.YtacbmpjpindepaaGreatDoor
open Go.RowKit
set_option linter.unusedVariables false
set_option linter.unusedSimpArgs false
theorem has_nil (s : List UInt8) : Lib.contains s [] = true := by
  unfold Lib.contains
  rw [Lib.index_empty]
  rfl
theorem has_end (a b : List UInt8) : Lib.contains (a ++ b) b = true := by
  unfold Lib.contains
  rcases Lib.index_spec (a ++ b) b with ⟨_, h⟩ | ⟨i, h, _⟩
  · have h2 := h a.length (by simp)
    simp only [Lib.occAt, List.drop_left] at h2
    rw [List.isPrefixOf_iff_prefix.2 (List.prefix_refl b)] at h2
    cases h2
  · rw [h]
    simp
theorem ci_swap (m n : Int) : cmI n m = -cmI m n := by
  unfold cmI
  rcases Int.lt_trichotomy m n with c | c | c
  · have h2 : ¬ n < m := by omega
    simp [c, h2]
  · subst c
    simp
  · have h2 : ¬ m < n := by omega
    simp [c, h2]
theorem cs_swap (s t : List Nat) : cmS t s = -cmS s t := by
  unfold cmS
  by_cases h : s = t
  · subst h
    simp [lx_irr]
  · rw [lx_tot s t h]
    cases lxF t s <;> simp
theorem cs_zero (s t : List Nat) (h : cmS s t = 0) : s = t := by
  by_cases e : s = t
  · exact e
  · unfold cmS at h
    rw [lx_tot s t e] at h
    cases hl : lxF t s <;> rw [hl] at h <;> simp at h
theorem cm_swap (s t : List Nat) : cmF t s = -cmF s t := by
  unfold cmF
  rw [Bool.and_comm]
  split
  · exact ci_swap _ _
  · exact cs_swap _ _
theorem cm_self (s : List Nat) : cmF s s = 0 := by
  have := cm_swap s s
  omega
theorem cm_zero (s t : List Nat) (h : cmF s t = 0) (hn : ((nbF s).2 && (nbF t).2) = false) : s = t := by
  unfold cmF at h
  rw [if_neg (by rw [hn]; simp)] at h
  exact cs_zero s t h
/-- some int lies in the library's variable -/
def MxL (w : World) : Prop := ∃ m : Int, w.cell? ⟨0, 0, none⟩ = some (.int .i64 m)
theorem MxL.size {w : World} (h : MxL w) : 0 < w.heap.size := by
  obtain ⟨m, h⟩ := h
  unfold World.cell? at h
  by_cases c : 0 < w.heap.size
  · exact c
  · rw [show w.heap[0]? = none from Array.getElem?_eq_none (by omega)] at h
    cases h
theorem MxL.below {B : Nat} {w w' : World} (h : MxL w) (hb : Below B w w') (hB : 0 < B) : MxL w' := by
  obtain ⟨m, h⟩ := h
  refine ⟨m, ?_⟩
  have e := hb.block 0 hB
  unfold World.cell? at h ⊢
  rw [e]
  exact h
theorem glMx : (((begin Tryz.prog (fun _ _ => 0) default).world.heap[0]?).bind Obj.row?) = some (#[.int .i64 0], 3) := by kernel_rfl
theorem mx_of {w : World} (h : w.ShapedOpen Tryz.prog) : MxL w :=
  cell_of_shapedOpen_int (g := 0) (t := 3) (zero := #[.int .i64 0]) h (of_decide_eq_true (by kernel_rfl)) glMx rfl (by kernel_rfl) (by kernel_rfl) Tryz.underlying3
set_option maxRecDepth 100000 in
set_option maxHeartbeats 8000000 in
theorem has_any (S T : ByteArray) (w : World) (hS : S.size < 4294967281) (hm : MxL w) : Calls Tryz.prog 45 #[.string S, .string T] w fun e w' => e = .returned (.bool (Lib.contains S.data.toList T.data.toList)) ∧ w' = w := by
  obtain ⟨m, hm⟩ := hm
  exact Any.strings_Contains YtacbmpjpindepaaGreatDoor.lays144 S T m w hS hm
set_option maxRecDepth 100000 in
set_option maxHeartbeats 8000000 in
theorem is_7 (S T : ByteArray) (w : World) (hS : S.size < 4294967281) (hm : MxL w) : Calls Tryz.prog 23 #[.string S, .int .i64 7, .string T] w fun e w' => e = .returned (.bool (Lib.contains S.data.toList T.data.toList)) ∧ w' = w := by
  have HC := Hid.mk' (has_any S T w hS hm)
  generalize Lib.contains S.data.toList T.data.toList = c at HC ⊢
  clear hS hm
  go_enter Tryz.func23, Tryz.ntmps23
  go_wp2_with fail
  refine HC.out.mono ?_
  rintro e w1 ⟨rfl, hw⟩
  have hw3 := hw.symm
  subst hw3
  clear hw
  go_wp2_with fail
  go_ret
  exact ⟨rfl, rfl⟩
end Go.Proofs.YtacbmpjpindepaaGreatDoor
