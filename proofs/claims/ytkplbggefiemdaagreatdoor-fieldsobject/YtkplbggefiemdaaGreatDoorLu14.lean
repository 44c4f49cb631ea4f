/-
  From what the rows list of the tables of utf8 to what the walks ask of memory. No conditions.
-/
import Derived.Test.YtkplbggefiemdaaGreatDoorObV
import Derived.Test.YtkplbggefiemdaaGreatDoorShM
import Derived.Test.YtkplbggefiemdaaGreatDoorRows
import Derived.Lib.LaidU8
namespace Go.Proofs.YtkplbggefiemdaaGreatDoor
open Go.RowKit Go.Shelf Go.Lib
set_option linter.unusedVariables false
theorem glFi : Tryz.prog.globalNamed "unicode/utf8.first" = some 3 := by kernel_rfl
theorem glFiT : (Tryz.prog.globals[3]?).map (·.type) = some (YtkplbggefiemdaaGreatDoor.lays196_ren.t 119) := by kernel_rfl
theorem glAc : Tryz.prog.globalNamed "unicode/utf8.acceptRanges" = some 4 := by kernel_rfl
theorem glAcT : (Tryz.prog.globals[4]?).map (·.type) = some (YtkplbggefiemdaaGreatDoor.lays196_ren.t 139) := by kernel_rfl
theorem clU8 : Tryz.prog.cellsOf (YtkplbggefiemdaaGreatDoor.lays196_ren.t 5) = 1 := by kernel_rfl
theorem clFi : Tryz.prog.cellsOf (YtkplbggefiemdaaGreatDoor.lays196_ren.t 119) = 256 := by kernel_rfl
theorem clAc : Tryz.prog.cellsOf (YtkplbggefiemdaaGreatDoor.lays196_ren.t 138) = 2 := by kernel_rfl
theorem acc_eq : (Rows.laid_unicode_utf8_acceptRanges : DataW Unit) = acceptData := by kernel_rfl
theorem fst_eq : Go.Pinned.utf8First = firstData := by kernel_rfl
theorem first_of {W : World} (h : Lib.VarReads Tryz.prog W "unicode/utf8.first" firstData) (c : Nat) (hc : c < 256) : W.cell? ⟨3, c, none⟩ = some (.int .u8 (firstT c : Int)) := by
  obtain ⟨g, t, cs, fuel, p, hg, hty, hvar, hd⟩ := h
  cases Option.some.inj (glFi.symm.trans hg)
  cases Option.some.inj (glFiT.symm.trans hty)
  have e := cells_of_tab YtkplbggefiemdaaGreatDoor.lays196.t119 YtkplbggefiemdaaGreatDoor.lays196.t5 clU8 clFi hd
  rw [World.var?_cell hg hvar c, ← Array.getElem?_toList, e]
  simp [firstTab, hc]
theorem accept_of {W : World} (h : Lib.VarReads Tryz.prog W "unicode/utf8.acceptRanges" acceptData) (i : Nat) (hi : i < 16) : W.cell? ⟨4, 2 * i, none⟩ = some (.int .u8 (accLo i : Int)) ∧ W.cell? ⟨4, 2 * i + 1, none⟩ = some (.int .u8 (accHi i : Int)) := by
  obtain ⟨g, t, cs, fuel, p, hg, hty, hvar, hd⟩ := h
  cases Option.some.inj (glAc.symm.trans hg)
  cases Option.some.inj (glAcT.symm.trans hty)
  obtain ⟨f, d, q, hdi, he⟩ := array_elem YtkplbggefiemdaaGreatDoor.lays196.t139 hd i hi
  simp only [List.getElem?_map, List.getElem?_range hi, Option.map_some, Option.some.injEq] at hdi
  subst hdi
  rw [clAc] at he
  have e := ints_of_struct YtkplbggefiemdaaGreatDoor.lays196.t138 (fun j f hj => by
    match j, hj with
    | 0, hj => simp at hj; subst hj; exact ⟨YtkplbggefiemdaaGreatDoor.lays196.t5, rfl, clU8⟩
    | 1, hj => simp at hj; subst hj; exact ⟨YtkplbggefiemdaaGreatDoor.lays196.t5, rfl, clU8⟩
    | j + 2, hj => simp at hj) (by rw [clAc]; rfl) he
  have e0 := congrArg (·[0]?) e
  have e1 := congrArg (·[1]?) e
  simp only [List.getElem?_take, List.getElem?_drop] at e0 e1
  refine ⟨?_, ?_⟩
  · rw [World.var?_cell hg hvar (2 * i), ← Array.getElem?_toList]
    simpa [Nat.mul_comm] using e0
  · rw [World.var?_cell hg hvar (2 * i + 1), ← Array.getElem?_toList]
    simpa [Nat.mul_comm] using e1
theorem utt_of {W : World} (h3 : Lib.VarReads Tryz.prog W "unicode/utf8.first" Rows.laid_unicode_utf8_first) (h4 : Lib.VarReads Tryz.prog W "unicode/utf8.acceptRanges" Rows.laid_unicode_utf8_acceptRanges) : UtT W := by
  have e3 : (Rows.laid_unicode_utf8_first : DataW Unit) = firstData := fst_eq
  rw [e3] at h3
  rw [acc_eq] at h4
  exact ⟨fun c hc => first_of h3 c hc, fun i hi => accept_of h4 i hi⟩
end Go.Proofs.YtkplbggefiemdaaGreatDoor
