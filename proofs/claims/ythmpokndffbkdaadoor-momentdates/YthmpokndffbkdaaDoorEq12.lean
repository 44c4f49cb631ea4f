/-
  Two days and times are held one against the other. No conditions.
-/
import Derived.Test.YthmpokndffbkdaaDoorPk12
import Derived.Laws.StructEq
import Derived.ChangeKeysEq
namespace Go.Proofs.YthmpokndffbkdaaDoor
open Go.RowKit
set_option linter.unusedVariables false
set_option linter.unusedSimpArgs false
set_option maxRecDepth 100000 in
theorem eql_date (a0 a1 a2 a3 a4 a5 a6 b0 b1 b2 b3 b4 b5 b6 : Int) (w : World) : (binOp .eql 23 (.agg #[.int .i64 a0, .int .i64 a1, .int .i64 a2, .int .i64 a3, .int .i64 a4, .int .i64 a5, .int .i64 a6]) (.agg #[.int .i64 b0, .int .i64 b1, .int .i64 b2, .int .i64 b3, .int .i64 b4, .int .i64 b5, .int .i64 b6])).run Tryd.prog w = .ok (.bool (a0 == b0 && a1 == b1 && a2 == b2 && a3 == b3 && a4 == b4 && a5 == b5 && a6 == b6)) w := by
  have hu := Tryd.underlying23
  have hi := Tryd.underlying3
  obtain ⟨i, q1, q2, q3, q4⟩ := info_parts (show (Tryd.prog.info? 3).map (fun i => (i.zero, i.size, i.bytes)) = some (some (.int .i64 0), 1, 8) by kernel_rfl)
  have hc : Tryd.prog.cellsOf 3 = 1 := by kernel_rfl
  have hst : Tryd.prog.underlying 23 = some (.struct (Tryd.prog.fieldsOf 23)) := by kernel_rfl
  rw [run_eql_struct, run_equalIn_struct w 9999 23 _ _ hst (by kernel_rfl)]
  have hfo := TypeDesc.struct.inj (Option.some.inj (hst.symm.trans hu))
  rw [hfo]
  simp [Op.eqFields, part, run_underlying hi, typeInfo, sizeOf, q1, q2, q3, go_sem, run_equalIn_int _ 9998 3 .i64 .i64 _ _ hi]
  by_cases e0 : a0 = b0 <;> by_cases e1 : a1 = b1 <;> by_cases e2 : a2 = b2 <;> by_cases e3 : a3 = b3 <;> by_cases e4 : a4 = b4 <;> by_cases e5 : a5 = b5 <;> by_cases e6 : a6 = b6 <;> simp [e0, e1, e2, e3, e4, e5, e6]
end Go.Proofs.YthmpokndffbkdaaDoor
