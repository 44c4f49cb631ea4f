/-
  moment.put. Conditions: the room lies in a row of bytes.
-/
import Derived.Test.YthmpokndffbkdaaDoorMoH
namespace Go.Proofs.YthmpokndffbkdaaDoor
open Go.RowKit
set_option linter.unusedVariables false
def bv (n : Nat) : Value := .int .u8 ((48 + n % 10 : Nat) : Int)
def pd (cs : List Value) (o n : Nat) : Nat → Nat → List Value
  | _, 0 => cs
  | k, j + 1 => (pd cs o n k j).set (o + (k - 1 - j)) (bv (n / 10 ^ j))
theorem pd_len (cs : List Value) (o n k j : Nat) : (pd cs o n k j).length = cs.length := by
  induction j with
  | zero => rfl
  | succ j ih => rw [pd, List.length_set, ih]
/-- block g holds the bytes cs, marked behind the last one; else w' is as w was -/
structure PutF (g n : Nat) (t : TypeId) (cs : List Value) (w w' : World) : Prop where
  os : w'.os = w.os
  tape : w'.tape = w.tape
  output : w'.output = w.output
  size : w'.heap.size = w.heap.size
  block : ∀ k, k ≠ g → w'.heap[k]? = w.heap[k]?
  row : w'.heap[g]? = some (.cells cs.toArray t (n, n + 1))
theorem PutF.refl {g n : Nat} {t : TypeId} {cs : List Value} {w : World} (h : w.heap[g]? = some (.cells cs.toArray t (n, n + 1))) : PutF g n t cs w w :=
  ⟨rfl, rfl, rfl, rfl, fun _ _ => rfl, h⟩
theorem PutF.below {g n B : Nat} {t : TypeId} {cs : List Value} {a b : World} (h : PutF g n t cs a b) (hB : B ≤ g) : Below B a b :=
  ⟨h.os, h.tape, h.output, by rw [h.size]; exact Nat.le_refl _, fun k hk => h.block k (by omega)⟩
theorem PutF.setCell {g n o : Nat} {t : TypeId} {cs : List Value} {a b : World} (h : PutF g n t cs a b) (u : Value) : PutF g n t (cs.set o u) a (b.setCell ⟨g, o, none⟩ u) := by
  have e := setCell_eq_setRow b g o cs.toArray t (n, n + 1) u h.row
  rw [e, show cs.toArray.setIfInBounds o u = (cs.set o u).toArray by simp]
  exact ⟨h.os, h.tape, h.output, by rw [← h.size]; simp [World.setRow], fun k hk => by rw [← h.block k hk]; simp only [World.setRow, Array.getElem?_modify]; rw [if_neg (by omega)], setRow_heap b g _ _ t _ h.row⟩
theorem PutF.cell {g n o : Nat} {t : TypeId} {cs : List Value} {a b : World} (h : PutF g n t cs a b) (v : Value) (hv : cs[o]? = some v) : b.cell? ⟨g, o, none⟩ = some v := by
  simp [World.cell?, h.row, hv]
theorem PutF.frozen {g n o : Nat} {t : TypeId} {cs : List Value} {a b : World} (h : PutF g n t cs a b) (ho : o < n) : b.frozen? ⟨g, o, none⟩ = false := by
  simp [World.frozen?, h.row]; omega
set_option maxRecDepth 100000 in
set_option maxHeartbeats 1000000 in
theorem put_any (g o k n cap : Nat) (cs : List Value) (w : World) (hg : w.heap[g]? = some (.cells cs.toArray 5 (cs.length, cs.length + 1))) (ho : o + k ≤ cs.length) (hk : k ≤ 100) (hob : o ≤ 1000) (hn : n ≤ 1000000000000) :
    Calls Tryd.prog 36 #[.slice (some ⟨g, o, none⟩) k cap, .int .i64 (n : Int)] w fun e w' => e = .returned (.tuple #[]) ∧ PutF g cs.length 5 (pd cs o n k k) w w' := by
  have HP0 := Hid.mk' (PutF.refl hg)
  clear hg
  go_enter Tryd.func36, Tryd.ntmps36
  go_wp2_with fail
  go_loopw [1, 4] (fun nv iv wr => ∃ q : Nat, q ≤ k ∧ iv = .int .i64 ((q : Int) - 1) ∧ nv = .int .i64 ((n / 10 ^ (k - q) : Nat) : Int) ∧ Hid (PutF g cs.length 5 (pd cs o n k (k - q)) w wr)) (fun _ iv _ => ((intOf iv) + 1).toNat)
  case atStart => exact ⟨k, Nat.le_refl _, rfl, by rw [Nat.sub_self]; simp, by rw [Nat.sub_self]; exact HP0⟩
  case round =>
    obtain ⟨q, hq, rfl, rfl, hp⟩ := hrel
    cases q with
    | zero =>
      have hi : ¬ (0 : Int) ≤ ((0 : Nat) : Int) - 1 := by omega
      go_wp2_with fail
      go_end0
      exact ⟨rfl, hp.out⟩
    | succ p =>
      have e1 : ((p + 1 : Nat) : Int) - 1 = (p : Int) := by omega
      rw [e1]
      obtain ⟨v, hv⟩ : ∃ v, n / 10 ^ (k - (p + 1)) = v := ⟨_, rfl⟩
      have hvb : v ≤ 1000000000000 := by rw [← hv]; exact Nat.le_trans (Nat.div_le_self _ _) hn
      have hvn : n / 10 ^ (k - p) = v / 10 := by
        rw [show k - p = k - (p + 1) + 1 by omega, Nat.pow_succ, ← Nat.div_div_eq_div_mul, hv]
      rw [hv]
      have HV := Hid.mk' hv
      have HVN := Hid.mk' hvn
      have hlen := pd_len cs o n k (k - (p + 1))
      have hcell : ∃ u, wr.cell? ⟨g, o + p, none⟩ = some u := ⟨_, hp.out.cell (o := o + p) ((pd cs o n k (k - (p + 1)))[o + p]'(by omega)) (List.getElem?_eq_getElem _)⟩
      obtain ⟨u, hu⟩ := hcell
      have hfz : wr.frozen? ⟨g, o + p, none⟩ = false := hp.out.frozen (by omega)
      have hi0 : (0 : Int) ≤ (p : Int) := by omega
      have hi1 : (p : Int) < (k : Int) := by omega
      clear hv hvn e1 hlen
      have hm : (v : Int) % 10 = ((v % 10 : Nat) : Int) := by omega
      have hmb : v % 10 < 10 := by omega
      obtain ⟨z, hz⟩ : ∃ z, v % 10 = z := ⟨_, rfl⟩
      rw [hz] at hm hmb
      have HZ := Hid.mk' hz
      clear hz
      go_wp2_with fail
      go_roundw
      case rel =>
        refine ⟨p, by omega, by first | rfl | simp, by rw [HVN.out]; exact int_eq (by omega), ?_⟩
        rw [show k - p = k - (p + 1) + 1 by omega, pd, HV.out, show k - 1 - (k - (p + 1)) = p by omega]
        have := hp.out.setCell (o := o + p) (bv v)
        rw [show bv v = .int .u8 (48 + (z : Int)) by unfold bv; rw [HZ.out]; rfl] at this ⊢
        exact this
      case measure => simp [intOf]
end Go.Proofs.YthmpokndffbkdaaDoor
