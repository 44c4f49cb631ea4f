/-
  The document's form: number, is, must. Conditions: the form lies in a block of its own.
-/
import Derived.Test.YthmpokndffbkdaaDoorMoT
namespace Go.Proofs.YthmpokndffbkdaaDoor
open Go.RowKit
set_option linter.unusedVariables false
def fmC (S : ByteArray) (p : Nat) (b : Bool) (d0 d1 d2 d3 d4 d5 d6 z : Int) (o : Bool) : List Value := [.string S, .int .i64 (p : Int), .bool b, .int .i64 d0, .int .i64 d1, .int .i64 d2, .int .i64 d3, .int .i64 d4, .int .i64 d5, .int .i64 d6, .int .i64 z, .bool o]
theorem at_idx (S : ByteArray) (p x : Nat) (r : List Nat) (h : (Sums.bl S).drop p = x :: r) (W : World) : (Instr.index 9 (.string S) (.int .i64 (p : Int))).run Tryd.prog W = .ok (.int .u8 (x : Int)) W := by
  have hs : p < S.size := by
    rcases Nat.lt_or_ge p S.size with q | q
    · exact q
    · rw [List.drop_eq_nil_of_le (by rw [Sums.bl_length]; exact q)] at h; cases h
  have hg := Sums.bl_get S p hs
  have hx : (Sums.bl S).getD p 0 = x := by
    have := congrArg (·.getD 0 0) h
    simpa [List.getD] using this
  rw [run_index_string W 9 _ .i64 p Tryd.underlying9, dif_pos ⟨by omega, by omega⟩]
  have : (x : Int) = (S[p].toNat : Int) := by rw [← hx, hg]
  rw [this]; rfl
theorem at_facts (S : ByteArray) (p x : Nat) (r : List Nat) (h : (Sums.bl S).drop p = x :: r) : p < S.size ∧ x < 256 ∧ (Sums.bl S).drop (p + 1) = r := by
  have hs : p < S.size := by
    rcases Nat.lt_or_ge p S.size with q | q
    · exact q
    · rw [List.drop_eq_nil_of_le (by rw [Sums.bl_length]; exact q)] at h; cases h
  refine ⟨hs, Sums.bl_byt S x ?_, ?_⟩
  · have : x ∈ (Sums.bl S).drop p := by rw [h]; simp
    exact List.mem_of_mem_drop this
  · rw [← List.drop_drop, h]; rfl
theorem at_nil (S : ByteArray) (p : Nat) (hp : p ≤ S.size) (h : (Sums.bl S).drop p = []) : p = S.size := by
  have := congrArg List.length h
  simp [Sums.bl_length] at this
  omega
/-- the cells of a form, as they are read and written -/
structure FmAt (g : Nat) (S : ByteArray) (p : Nat) (b : Bool) (w : World) : Prop where
  c0 : w.cell? ⟨g, 0, none⟩ = some (.string S)
  c1 : w.cell? ⟨g, 1, none⟩ = some (.int .i64 (p : Int))
  c2 : w.cell? ⟨g, 2, none⟩ = some (.bool b)
  f1 : w.frozen? ⟨g, 1, none⟩ = false
  f2 : w.frozen? ⟨g, 2, none⟩ = false
end Go.Proofs.YthmpokndffbkdaaDoor
