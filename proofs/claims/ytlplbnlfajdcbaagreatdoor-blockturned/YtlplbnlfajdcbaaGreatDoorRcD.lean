/-
  record: a Builder's widen and Size. Conditions: as each says.
-/
import Derived.Test.YtlplbnlfajdcbaaGreatDoorRcC
import Derived.BigRegion
import Derived.Deep.DeepCutAuto
namespace Go.Proofs.YtlplbnlfajdcbaaGreatDoor
open Go.RowKit
set_option linter.unusedVariables false
theorem row_some {V : World} {B n : Nat} {e : TypeId} {p : Option Addr} {c : Nat} {l : List Int} (h : V.ownsRow B e 1 (.slice p n c) n (itv l)) (hn : 0 < n) : ∃ g, p = some ⟨g, 0, none⟩ ∧ B ≤ g ∧ g < V.heap.size ∧ ∀ i, i < n → V.cell? ⟨g, i, none⟩ = some (.int .i64 (l.getD i 0)) := by
  rcases h.2 with ⟨h1, h2⟩ | ⟨g, cap, cur, h1, hb, hg, hr⟩
  · omega
  · cases h1
    refine ⟨g, rfl, hb, (Array.getElem?_eq_some_iff.1 hg).1, fun i hi => ?_⟩
    rw [World.ownsRow.cellAt h i (by omega)]
    have hl : l.length = n := by have := h.1; rw [itv_len] at this; omega
    unfold itv
    rw [List.getElem?_map, List.getD_eq_getElem?_getD, List.getElem?_eq_getElem (show i < l.length by omega)]
    rfl
set_option maxHeartbeats 4000000 in
set_option maxRecDepth 100000 in
theorem widen_any {B g : Nat} {S E : List Int} {T : List Nat} {sv ev tv : Value} {nu mi ma : Int} {w : World} (h : Bw B g S E T sv ev tv nu mi ma w) (x : Int) :
    Calls Tryz.prog 85 #[.pointer (some ⟨g, 0, none⟩), .int .i64 x] w fun e w' => e = .returned (.tuple #[]) ∧ Bw B g S E T sv ev tv nu (if S.length = 0 then x else min mi x) (if S.length = 0 then x else max ma x) w' ∧ (∀ w0, Below B w0 w → Below B w0 w') ∧ (∀ k, k ≠ g → w'.heap[k]? = w.heap[k]?) ∧ w'.heap.size = w.heap.size := by
  obtain ⟨a0, cp0, rfl⟩ := row_shape h.hs
  have c0 : w.cell? ⟨g, 0, none⟩ = some (.slice a0 S.length cp0) := by rw [h.cell]; rfl
  have c4 : w.cell? ⟨g, 4, none⟩ = some (.int .i64 mi) := by rw [h.cell]; rfl
  have c5 : w.cell? ⟨g, 5, none⟩ = some (.int .i64 ma) := by rw [h.cell]; rfl
  have f4 : w.frozen? ⟨g, 4, none⟩ = false := h.fz 4
  have f5 : w.frozen? ⟨g, 5, none⟩ = false := h.fz 5
  have oth : ∀ (V : World) (o : Nat) (u : Value) (k : Nat), k ≠ g → (V.setCell ⟨g, o, none⟩ u).heap[k]? = V.heap[k]? := fun V o u k hk => Below.heap_setCell _ _ _ _ (by exact hk)
  generalize hN : S.length = N at *
  by_cases hz : N = 0
  · have hz' : (N : Int) = 0 := by omega
    rw [if_pos hz, if_pos hz]
    go_enter Tryz.func85, Tryz.ntmps85
    go_wp2_with (go_at_call 84; refine (len_any g N cp0 a0 _ c0).mono ?_; rintro e w' ⟨rfl, rfl⟩)
    go_region
    go_wp2_with fail
    go_end0
    have h4 := (((h.set4 x).set5 x).set4 x).set5 x
    refine ⟨rfl, h4.drewN 1, fun w0 hb => ((((h.set4 x).set5 x).set4 x).below_set 5 _ (((h.set4 x).set5 x).below_set 4 _ ((h.set4 x).below_set 5 _ (h.below_set 4 _ hb)))).drewN' 1, fun k hk => (oth _ 5 _ k hk).trans ((oth _ 4 _ k hk).trans ((oth _ 5 _ k hk).trans (oth _ 4 _ k hk))), by simp [World.setCell]⟩
  · have hz' : ¬ (N : Int) = 0 := by omega
    rw [if_neg hz, if_neg hz]
    go_enter Tryz.func85, Tryz.ntmps85
    go_wp2_with (go_at_call 84; refine (len_any g N cp0 a0 _ c0).mono ?_; rintro e w' ⟨rfl, rfl⟩)
    go_region
    go_wp2_with fail
    go_end0
    have h4 := (h.set4 (min mi x)).set5 (max ma x)
    refine ⟨rfl, h4.drewN 1, fun w0 hb => ((h.set4 (min mi x)).below_set 5 _ (h.below_set 4 _ hb)).drewN' 1, fun k hk => (oth _ 5 _ k hk).trans (oth _ 4 _ k hk), by simp [World.setCell]⟩
theorem Size_any {B g : Nat} {S E : List Int} {T : List Nat} {sv ev tv : Value} {nu : Nat} {mi ma : Int} {w : World} (h : Bw B g S E T sv ev tv nu mi ma w) (h1 : S.length ≤ 1125899906842624) (h2 : nu ≤ 1125899906842624) (h3 : T.length ≤ 1125899906842624) :
    Calls Tryz.prog 87 #[.pointer (some ⟨g, 0, none⟩)] w fun e w' => e = .returned (.int .i64 (((Code.uint S.length).length + nu + T.length : Nat) : Int)) ∧ Below w.heap.size w w' := by
  obtain ⟨a0, cp0, rfl⟩ := row_shape h.hs
  obtain ⟨a2, cp2, rfl⟩ := row_shape h.ht
  have c0 : w.cell? ⟨g, 0, none⟩ = some (.slice a0 S.length cp0) := by rw [h.cell]; rfl
  have c2 : w.cell? ⟨g, 2, none⟩ = some (.slice a2 T.length cp2) := by rw [h.cell]; rfl
  have c3 : w.cell? ⟨g, 3, none⟩ = some (.int .i64 (nu : Int)) := by rw [h.cell]; rfl
  have HLT : Hid (g < w.heap.size) := h.lt
  clear h
  go_enter Tryz.func87, Tryz.ntmps87
  go_wp2_with fail
  go_region_held3 (fun w' => w'.cell? ⟨g, 0, none⟩ = some (.slice a0 S.length cp0) ∧ w'.cell? ⟨g, 2, none⟩ = some (.slice a2 T.length cp2) ∧ w'.cell? ⟨g, 3, none⟩ = some (.int .i64 (nu : Int))) (first | go_keep | exact ⟨k0, k2, k3⟩)
    ((first | (go_at_call 84; refine (len_any g S.length cp0 a0 _ (by first | exact c0 | simp [*])).mono ?_; rintro e w' ⟨rfl, rfl⟩) | (go_at_call 83; refine (size_any S.length nu T.length _ h1 h2 h3).mono ?_; rintro e w' ⟨rfl, hb⟩; have k0 := (hb.cell (p := ⟨g, 0, none⟩) (by exact HLT.out)).trans c0; have k2 := (hb.cell (p := ⟨g, 2, none⟩) (by exact HLT.out)).trans c2; have k3 := (hb.cell (p := ⟨g, 3, none⟩) (by exact HLT.out)).trans c3)))
  all_goals (go_wp2_with fail; go_ret; exact ⟨rfl, ⟨hb.os, hb.tape, hb.output, hb.size, hb.block⟩⟩)
end Go.Proofs.YtlplbnlfajdcbaaGreatDoor
