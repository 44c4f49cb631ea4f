/-
  From what the rows list of the sums' table to what the walks ask of memory. No conditions.
-/
import Derived.Test.YtlplbnlfajdcbaaGreatDoorMgA
import Derived.Test.YtlplbnlfajdcbaaGreatDoorRows
import Derived.Lib.LaidU8
import Derived.Lib.LaidTab
import Derived.Lay
namespace Go.Proofs.YtlplbnlfajdcbaaGreatDoor
open Go.RowKit
set_option linter.unusedVariables false
theorem gl4 : Tryz.prog.globalNamed "dragnet/sums.fourSteps" = some 1 := by kernel_rfl
def tab18L : List Int := [0, 274646895, 549293790, 820201905, 1098587580, 1361435347, 1640403810, 1905808397, 2197175160, 2460548119, 2722870694, 2987750089, 3280807620, 3553878443, 3811616794, 4084100981]
theorem tab18_get : ∀ i < 16, tab18L.getD i 0 = ((Sums.tab4.getD i 0 : Nat) : Int) := by decide +kernel
theorem tab18 {W : World} (h : Lib.VarReads Tryz.prog W "dragnet/sums.fourSteps" Rows.laid_dragnet_sums_fourSteps) : Tab W := by
  obtain ⟨g, t, cs, fuel, p, h1, h2, h3, h4⟩ := h
  rw [gl4] at h1
  obtain rfl := Option.some.inj h1
  have hty : (Tryz.prog.globals[1]?).map (·.type) = some 201 := by kernel_rfl
  rw [hty] at h2
  obtain rfl := Option.some.inj h2
  have := Lib.cells_of_tab (zs := tab18L) Tryz.underlying201 Tryz.underlying90 (by kernel_rfl) (by kernel_rfl) h4
  have ht : Lib.TabIs Tryz.prog W "dragnet/sums.fourSteps" .u32 tab18L := by
    unfold Lib.TabIs
    rw [h3, ← this]
  intro i hi
  have hc := ht.cell gl4 i hi
  rw [tab18_get i hi] at hc
  exact hc
end Go.Proofs.YtlplbnlfajdcbaaGreatDoor
