/-
  From the rows' list to what the walks ask. Conditions: as each says.
-/
import Derived.Test.YtlplbnlfajdcbaaGreatDoorMgA
import Derived.Test.YtlplbnlfajdcbaaGreatDoorRows
import Derived.Lib.LaidU8
import Derived.Lib.LaidTab
import Derived.Lay
import Derived.Test.YtlplbnlfajdcbaaGreatDoorMhE
import Derived.LaidHandle
import Derived.LaidSub
namespace Go.Proofs.YtlplbnlfajdcbaaGreatDoor
open Go.RowKit
set_option linter.unusedVariables false
theorem gl4 : Tryz.prog.globalNamed "dragnet/sums.fourSteps" = some 1 := by kernel_rfl
def tab18L : List Int := [0, 274646895, 549293790, 820201905, 1098587580, 1361435347, 1640403810, 1905808397, 2197175160, 2460548119, 2722870694, 2987750089, 3280807620, 3553878443, 3811616794, 4084100981]
theorem tab18_get : ∀ i < 16, tab18L.getD i 0 = ((Sums.tab4.getD i 0 : Nat) : Int) := by decide +kernel
theorem tab18 {W : World} (h : Lib.VarReads Tryz.prog W "dragnet/sums.fourSteps" Rows.laid_dragnet_sums_fourSteps) : Tab W := by
  obtain ⟨g, t, cs, fuel, p, h1, h2, h3, h4⟩ := h
  rw [gl4] at h1
  obtain rfl := Option.some.inj h1
  have hty : (Tryz.prog.globals[1]?).map (·.type) = some 201 := by kernel_rfl
  rw [hty] at h2
  obtain rfl := Option.some.inj h2
  have := Lib.cells_of_tab (zs := tab18L) Tryz.underlying201 Tryz.underlying90 (by kernel_rfl) (by kernel_rfl) h4
  have ht : Lib.TabIs Tryz.prog W "dragnet/sums.fourSteps" .u32 tab18L := by
    unfold Lib.TabIs
    rw [h3, ← this]
  intro i hi
  have hc := ht.cell gl4 i hi
  rw [tab18_get i hi] at hc
  exact hc
end Go.Proofs.YtlplbnlfajdcbaaGreatDoor

namespace Go.Proofs.YtlplbnlfajdcbaaGreatDoor
open Go.RowKit
set_option linter.unusedVariables false
theorem et_glob : Tryz.prog.globalNamed "errors.errorType" = some 0 := by kernel_rfl
theorem et_rtype : (Tryz.prog.cutTypes.find? (·.1 == "internal/reflectlite.rtype")).map (·.2) = some 153 := by kernel_rfl
theorem et_one : ((List.range 242).filter fun t => Tryz.prog.rowNamed t [101, 114, 114, 111, 114]) = [33] := by kernel_rfl
theorem et_many : Tryz.prog.types.size = 242 := by kernel_rfl
theorem et_handle : typeHandle Tryz.prog 33 = th 33 := by kernel_rfl
theorem ert_of {W : World} {hs : List (String × DataW Unit)} (h : handlesMet Tryz.prog hs W) (hm : ("errors.errorType", Rows.laid_errors_errorType) ∈ hs) : ErT W := by
  obtain ⟨name, u, ty, e1, e2, e3, e4, e5⟩ := h _ hm
  have en : name = [101, 114, 114, 111, 114] := (Option.some.inj e1).symm
  subst en
  obtain rfl := Option.some.inj (et_rtype.symm.trans e2)
  have hin : ty ∈ (List.range 242).filter fun t => Tryz.prog.rowNamed t [101, 114, 114, 111, 114] := List.mem_filter.2 ⟨List.mem_range.2 (by rw [← et_many]; exact e3), e4⟩
  rw [et_one] at hin
  obtain rfl := List.mem_singleton.1 hin
  rw [et_handle] at e5
  unfold ErT
  simpa using World.var?_cell et_glob e5 0
end Go.Proofs.YtlplbnlfajdcbaaGreatDoor
