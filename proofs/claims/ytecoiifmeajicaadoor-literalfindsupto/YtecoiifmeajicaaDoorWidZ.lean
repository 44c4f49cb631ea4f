/-
  The table of bits of several words. Conditions: as each says.
-/
import Derived.Test.YtecoiifmeajicaaDoorHor
namespace Go.Proofs.YtecoiifmeajicaaDoor
open Go.RowKit
set_option linter.unusedVariables false
structure WidT (X m : Nat) (J : Nat → Nat) (W : World) : Prop where
  c0 : W.cell? ⟨X, 0, none⟩ = some (.int .i64 (m : Int))
  cj : TblAt X 1 1024 .u64 J W
  fz : Thaw X W
theorem WidT.below {X N m : Nat} {J : Nat → Nat} {W W' : World} (h : WidT X m J W) (hb : Below N W W') (hX : X < N) : WidT X m J W' :=
  ⟨(hb.cell (p := ⟨X, 0, none⟩) hX).trans h.c0, h.cj.below hb hX, h.fz.below hb hX⟩
theorem WidT.set {X m : Nat} {J : Nat → Nat} {W : World} (h : WidT X m J W) (b v : Nat) (hb : b < 1024) : WidT X m (upd J b v) (W.setCell ⟨X, 1 + b, none⟩ (.int .u64 (v : Int))) :=
  ⟨cell_far h.c0 (by omega), h.cj.set b v hb, h.fz.set _ _⟩
theorem zc_wid : Tryd.zeroCells100 = (#[.int .i64 0] ++ Array.replicate 1024 (.int .u64 0)) := by kernel_rfl
theorem wid_size : Tryd.zeroCells100.size = 1025 := by rw [zc_wid]; simp
theorem wid_new (w : World) (m : Nat) : WidT w.heap.size m (fun _ => 0) (w.alloc (.cells (Tryd.zeroCells100.setIfInBounds 0 (.int .i64 (m : Int))) 100)) := by
  have hz := wid_size
  refine ⟨cells_new _ _ _ _ _ ?_, fun b hb => cells_new _ _ _ _ _ ?_, thaw_new _ _ _⟩
  · exact set_same _ _ _ (by omega)
  · refine set_ne _ _ _ _ _ (by omega) ?_
    rw [zc_wid]
    exact app_hi _ _ _ _ _ rfl hb
end Go.Proofs.YtecoiifmeajicaaDoor
