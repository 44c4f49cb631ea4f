/-
  fields: the function that goes over the fields of a line that is no object, as an iterator. Conditions: as each says.
-/
import Derived.Test.YtkplbggefiemdaaGreatDoorFlL
namespace Go.Proofs.YtkplbggefiemdaaGreatDoor
open Go.RowKit Go.Shelf
set_option linter.unusedVariables false
set_option linter.unusedSimpArgs false
attribute [local go_sem] Oper.semAt_some
/-- rows of texts, of functions, of values stay, and some blocks besides -/
def KpD (D : Nat → Prop) (W W' : World) : Prop := KpT W W' ∧ (∀ k, D k → W'.heap[k]? = W.heap[k]?) ∧ W.heap.size ≤ W'.heap.size
theorem KpD.t {D : Nat → Prop} {A B C : World} (h : KpD D A B) (k : KpD D B C) : KpD D A C := ⟨h.1.t k.1, fun i hi => (k.2.1 i hi).trans (h.2.1 i hi), Nat.le_trans h.2.2 k.2.2⟩
abbrev noP : Obj → Prop := fun _ => False
set_option maxRecDepth 100000 in
set_option maxHeartbeats 4000000 in
theorem pairs1_inN (q l B : Nat) (S : ByteArray) (hS : S.size ≤ 140737488351232) (J Jx : List (List Nat × List Nat) → World → Prop) (V : World)
    (hJb : ∀ pre X Y, J pre X → Below X.heap.size X Y → J pre Y)
    (hY : ∀ m pre x X, J pre X → pre ++ [x] <+: wkL (Sums.bl S) → YieldAt Fence.wide m Tryz.prog l (encP x) X fun e Y =>
      (e = .returned (.bool true) ∧ J (pre ++ [x]) Y ∧ KpT X Y) ∨ (e = .returned (.bool false) ∧ Jx (pre ++ [x]) Y))
    (hB : V.cell? ⟨B, 0, none⟩ = some (.string S)) (h0 : J [] V) :
    CallsIn Fence.wide q Tryz.prog 51 #[.func (.yield l) #[] #[], .pointer (some ⟨B, 0, none⟩)] V fun e Y => (∃ v, e = .returned v) ∧
      ((∃ ys, ys = wkL (Sums.bl S) ∧ J ys Y) ∨ (∃ pre, pre <+: wkL (Sums.bl S) ∧ Jx pre Y)) := by
  have HW := Hid.mk' (walk_inN (q - 1) l S hS J Jx V hJb hY h0)
  clear hJb hY h0
  refine callsIn_of_wp Tryz.func51 rfl trivial ?_ rfl
  simp only [Tryz.ntmps51, List.size_toArray, List.length_cons, List.length_nil, Nat.reduceAdd, Nat.reduceSub, Array.replicate_succ, Array.replicate_zero, List.push_toArray, List.append_toArray, List.nil_append, List.cons_append]
  gi_wp2
  refine ⟨trivial, dep, HW.out.mono ?_⟩
  rintro e Y ⟨⟨v, rfl⟩, hy⟩
  have HY := Hid.mk' hy
  clear hy HW
  gi_wp2
  go_end0
  exact ⟨⟨_, rfl⟩, HY.out⟩
theorem pairs1_seqN (q B : Nat) (D : Nat → Prop) (S : ByteArray) (hS : S.size ≤ 140737488351232) (w : World) (hB : w.cell? ⟨B, 0, none⟩ = some (.string S)) :
    SeqN Fence.wide q Tryz.prog 51 #[.pointer (some ⟨B, 0, none⟩)] encP noP (KpD D) (fun ys => ys = wkL (Sums.bl S)) (fun pre => pre <+: wkL (Sums.bl S)) w := fun l J Jx V hV hJ _ hY h0' =>
  pairs1_inN q l B S hS J Jx V
    (fun pre X Y h hb => hJ pre X Y none h ⟨hb.os, hb.tape, hb.output, hb.size, fun k hk _ => hb.block k hk⟩ (fun r e => by cases e))
    (fun m pre x X h1 h2 => yield_depth m ((hY pre x X h1 h2).mono fun e Y h => h.imp (fun k => ⟨k.1, k.2.1, k.2.2.1⟩) id))
    ((hV.cell (p := ⟨B, 0, none⟩) (World.block_lt_of_cell? w ⟨B, 0, none⟩ hB)).trans hB) h0'
end Go.Proofs.YtkplbggefiemdaaGreatDoor
