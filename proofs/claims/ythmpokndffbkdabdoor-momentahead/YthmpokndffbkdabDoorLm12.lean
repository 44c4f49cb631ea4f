/-
  From what the row lists of the months' names to what the walks ask of memory. No conditions.
-/
import Derived.Test.YthmpokndffbkdabDoorLt12
import Derived.Test.YthmpokndffbkdabDoorMoU
namespace Go.Proofs.YthmpokndffbkdabDoor
open Go.RowKit
set_option linter.unusedVariables false
theorem glMn : Tryd.prog.globalNamed "dragnet/moment.monthNames" = some 1 := by kernel_rfl
theorem glMnT : (Tryd.prog.globals[1]?).map (·.type) = some 96 := by kernel_rfl
theorem trod_len {cs : List Value} {fuel : Nat} {x : DataW Unit × List MemPlace} {W : World} (h : DataW.trod (fun _ => ()) Tryd.prog W 0 (fun _ => true) false fuel 96 cs = some x) : cs.length = 12 := by
  have hct : Tryd.prog.cellsOf 96 = 12 := by kernel_rfl
  cases fuel with
  | zero => simp [DataW.trod] at h
  | succ fuel =>
    simp only [DataW.trod, Tryd.underlying96] at h
    split at h
    · rename_i hl
      rw [hct] at hl
      simpa using hl
    · cases h
theorem mn_of {W : World} (h : Lib.VarReads Tryd.prog W "dragnet/moment.monthNames" Rows.laid_dragnet_moment_monthNames) : MnT W := by
  obtain ⟨g, t, cs, fuel, p, h1, h2, h3, h4⟩ := h
  rw [glMn] at h1
  obtain rfl := Option.some.inj h1
  rw [glMnT] at h2
  obtain rfl := Option.some.inj h2
  have hc : Tryd.prog.cellsOf 9 = 1 := by kernel_rfl
  have hlen := trod_len h4
  have el := fun i hi => Lib.array_elem Tryd.underlying96 h4 i hi
  have el2 : ∀ i nm, i < 12 → (match Rows.laid_dragnet_moment_monthNames (H := Unit) with | .agg l => l | _ => [])[i]? = some (.lit (.string nm)) → cs.toList[i]? = some (.string ⟨nm.toArray⟩) := by
    intro i nm hi hd
    obtain ⟨f, d, q, e1, e2⟩ := el i hi
    have : some d = some (.lit (.string nm)) := e1.symm.trans hd
    obtain rfl := Option.some.inj this
    obtain ⟨s, hs, ha, _⟩ := DataW.trod_string Tryd.underlying9 e2
    rw [hc, Nat.mul_one] at hs
    have h0 := congrArg (·[0]?) hs
    simp at h0
    have ha2 := congrArg Prod.fst ha
    simp only [DataW.lit.injEq, Lit.string.injEq] at ha2
    rw [ha2]
    simpa using h0
  have hcs : cs = monV.toArray := by
    apply Array.toList_inj.1
    rw [List.toList_toArray]
    apply List.ext_getElem?
    intro i
    by_cases hi : i < 12
    · rcases (show i = 0 ∨ i = 1 ∨ i = 2 ∨ i = 3 ∨ i = 4 ∨ i = 5 ∨ i = 6 ∨ i = 7 ∨ i = 8 ∨ i = 9 ∨ i = 10 ∨ i = 11 by omega) with rfl | rfl | rfl | rfl | rfl | rfl | rfl | rfl | rfl | rfl | rfl | rfl
      all_goals exact el2 _ _ (by decide) rfl
    · rw [List.getElem?_eq_none (by omega), List.getElem?_eq_none (by simp [monV]; omega)]
  unfold World.var? at h3
  rw [glMn] at h3
  simp only [Option.bind_some] at h3
  split at h3
  · rename_i c t f hh
    obtain rfl := Option.some.inj h3
    rw [hcs] at hh
    exact ⟨t, f, hh⟩
  · cases h3
end Go.Proofs.YthmpokndffbkdabDoor
