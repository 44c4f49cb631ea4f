/-
  What a strings.Builder's calls do, at a Builder of the call's own. Conditions: as each says.
-/
import Derived.Test.YtchhdkmflppjhaaBas
import Derived.Lib.Builder
import Derived.Lib.MakeNoZero
import Derived.Laws.IdiomCopy
import Derived.Laws.Externs
import Derived.RegionTactic
import Derived.Deep.RegionHeld3
namespace Go.Proofs.Ytchhdkmflppjhaa
open Go.RowKit
set_option linter.unusedVariables false
/-- block b, from B on, holds a Builder of the bytes l; p: what its first cell holds -/
abbrev Bld (B b : Nat) (p : Value) (l : List Nat) (w : World) : Prop := Lib.BuilderAt 83 5 B b p (byv l) w
abbrev own (b : Nat) : Value := .pointer (some ⟨b, 0, none⟩)
theorem infoS : (Try.prog.info? 5).map (·.size) = some 1 := by kernel_rfl
theorem infoBl : (Try.prog.info? 83).map (·.size) = some 2 := by kernel_rfl
theorem liesBl : liesAt Try.prog Try.prog.depth 83 (2 / Try.prog.cellsOf 83) 0 83 1 = true := by kernel_rfl
theorem noEsc (args : Array Value) (w : World) : (callFunc 68 args).run Try.prog w = ((Extern.AbiNoEscape.same args).run Try.prog w).andThen fun v w' => .ok (.value v) w' :=
  run_callFunc_extern Try.func68 (by kernel_rfl) (by kernel_rfl) (by kernel_rfl) (by kernel_rfl) args w
set_option maxHeartbeats 1000000 in
theorem check_used (b : Nat) (w : World) (h0 : w.cell? ⟨b, 0, none⟩ = some (own b)) :
    Calls Try.prog 62 #[own b] w fun e w' => e = .returned (.tuple #[]) ∧ w' = w := by
  obtain ⟨j, hj, _⟩ := Option.map_eq_some_iff.1 infoBl
  have hq := Lib.run_neq_ptr_same (P := Try.prog) w ⟨b, 0, none⟩ Try.underlying81 hj
  go_enter Try.func62, Try.ntmps62
  go_wp2
  go_end0
  exact ⟨rfl, rfl⟩
set_option maxRecDepth 100000 in
set_option maxHeartbeats 1000000 in
theorem check_fresh (b : Nat) (w : World) (h0 : w.cell? ⟨b, 0, none⟩ = some (.pointer none)) (hsh : w.shape? b = some (83, 2)) (hfz : w.frozen? ⟨b, 0, none⟩ = false) :
    Calls Try.prog 62 #[own b] w fun e w' => e = .returned (.tuple #[]) ∧ w' = w.setCell ⟨b, 0, none⟩ (own b) := by
  obtain ⟨j, hj, hjs⟩ := Option.map_eq_some_iff.1 infoBl
  have q1 := Lib.run_to_unsafe (P := Try.prog) w ⟨b, 0, none⟩ Try.underlying81 Try.underlying102 hj (by rw [hjs]; decide) hsh (Nat.zero_lt_succ 1)
  have q2 : (callFunc 68 #[.pointer (some ⟨b, 0, none⟩)]).run Try.prog w = .ok (.value (.pointer (some ⟨b, 0, none⟩))) w := by rw [noEsc, Lib.run_noEscape]; rfl
  have q3 := Lib.run_from_unsafe (P := Try.prog) w ⟨b, 0, none⟩ Try.underlying102 Try.underlying81 hj hsh liesBl
  go_enter Try.func62, Try.ntmps62
  go_wp2
  go_end0
  exact ⟨rfl, rfl⟩
/-- rows that are no bytes stay as they were, but for block b -/
def Rest (b : Nat) (w w' : World) : Prop := ∀ k cs T, k ≠ b → T ≠ 5 → w.heap[k]? = some (.cells cs T (0, 0)) → w'.heap[k]? = some (.cells cs T (0, 0))
end Go.Proofs.Ytchhdkmflppjhaa
