/-
  The laws' own pick and may. Conditions: as each says.
-/
import Derived.Test.YtlplbnlfajdcbaaGreatDoorMgF
import Derived.Deep.CutBlock
import Derived.Deep.DeepCutAuto
namespace Rec
open Code Sums
theorem ix_snoc (c b : UInt8) : ∀ (l : List UInt8), Go.Lib.indexByte l c < 0 → (b == c) = false → Go.Lib.indexByte (l ++ [b]) c < 0
  | [], _, hb => by
    show (if (b == c) = true then (0 : Int) else if ((-1 : Int) == -1) = true then -1 else -1 + 1) < 0
    rw [hb]
    decide
  | x :: l, h, hb => by
    rw [List.cons_append]
    unfold Go.Lib.indexByte at h ⊢
    split at h
    · omega
    · rename_i h1
      rw [if_neg h1]
      have hg := Go.Lib.indexByte_ge l c
      have hl : Go.Lib.indexByte l c < 0 := by
        split at h
        · rename_i h2
          have : Go.Lib.indexByte l c = -1 := by simpa using h2
          omega
        · omega
      have h3 := ix_snoc c b l hl hb
      have hg3 := Go.Lib.indexByte_ge (l ++ [b]) c
      have h4 : Go.Lib.indexByte (l ++ [b]) c = -1 := by omega
      rw [h4]
      decide
theorem ext_snoc (t : ByteArray) (k : Nat) (h : k < t.size) : (t.extract 0 (k + 1)).data.toList = (t.extract 0 k).data.toList ++ [t[k]] := by
  rw [ByteArray.data_extract, ByteArray.data_extract, Array.toList_extract, Array.toList_extract, List.extract_eq_take_drop, List.extract_eq_take_drop, List.drop_zero, Nat.sub_zero, Nat.sub_zero]
  have hl : k < t.data.toList.length := by simpa using h
  rw [List.take_succ_eq_append_getElem hl]
  rfl
theorem nl_next (t : ByteArray) (k : Nat) (h : k < t.size) (h1 : nl (t.extract 0 k) < 0) (h2 : t[k].toNat ≠ 10) : nl (t.extract 0 (k + 1)) < 0 := by
  unfold nl at h1 ⊢
  rw [ext_snoc t k h]
  refine ix_snoc 10 _ _ h1 ?_
  simp only [beq_eq_false_iff_ne, ne_eq]
  intro e
  exact h2 (by rw [e]; rfl)
theorem nl_nil : nl ⟨#[]⟩ < 0 := by decide
/-- how much lines may have: their texts, and 12 for each -/
def wt : List Ln → Nat
  | [] => 0
  | x :: l => x.2.size + 12 + wt l
theorem wt_append : ∀ (a b : List Ln), wt (a ++ b) = wt a + wt b
  | [], b => by simp [wt]
  | x :: a, b => by
    rw [List.cons_append, wt, wt_append a b, wt]
    omega
theorem sz_wt : ∀ (l : List Ln) (p : Int), 0 ≤ p → p ≤ MS → (∀ x ∈ l, bad x = 0) → (stN p (sts l)).length + (lnN (lns l)).length + (txs l).length + 3 * l.length ≤ wt l
  | [], p, _, _, _ => by simp [stN, sts, lnN, lns, txs, wt]
  | x :: l, p, h0, h1, hl => by
    have hx := bad_le (hl x (List.mem_cons_self ..))
    have hms : MS = 253402300799999 := rfl
    have ih := sz_wt l x.1 hx.2.2.1 hx.2.2.2 (fun y hy => hl y (List.mem_cons_of_mem _ hy))
    have hz : zig (x.1 - p) < 562949953421312 := by
      unfold zig
      split <;> omega
    have l1 := enc_len 6 10 (zig (x.1 - p)) (by omega)
    have l2 := enc_len 1 10 x.2.size (by omega)
    have e1 : stN p (sts (x :: l)) = uint (zig (x.1 - p)) ++ stN x.1 (sts l) := rfl
    have e2 : lnN (lns (x :: l)) = uint x.2.size ++ lnN (lns l) := rfl
    have e3 : txs (x :: l) = bl x.2 ++ txs l := rfl
    have e4 : wt (x :: l) = x.2.size + 12 + wt l := rfl
    rw [e1, e2, e3, e4, List.length_append, List.length_append, List.length_append, bl_length, List.length_cons]
    unfold uint
    omega
theorem sz_may (l : List Ln) (h : ∀ x ∈ l, bad x = 0) (hl : l.length ≤ 2000) (hw : wt l ≤ 131062) : szF l ≤ 131072 := by
  have h1 := sz_wt l 0 (by decide) (by decide) h
  have h2 := enc_len 1 10 l.length (by omega)
  unfold szF nmF uint
  omega
end Rec
namespace Go.Proofs.YtlplbnlfajdcbaaGreatDoor
open Go.RowKit
set_option linter.unusedVariables false
/-- what may answers: lines that may be -/
def MayP (w : World) (e : Ending) (w' : World) : Prop :=
  ∃ v M, e = .returned v ∧ w'.ownsRow w.heap.size 26 2 v M.length (lnV M) ∧ (∀ x ∈ M, Rec.bad x = 0) ∧ M.length ≤ 2000 ∧ Rec.wt M ≤ 131062 ∧ Below w.heap.size w w'
end Go.Proofs.YtlplbnlfajdcbaaGreatDoor
