/-
  What attempt does with a function that reads: refused, the place is put back. Conditions: as each says.
-/
import Derived.Test.YtchhdkmflppjhaaGrp
import Derived.Defers
namespace Go.Proofs.Ytchhdkmflppjhaa
open Go.RowKit
set_option linter.unusedVariables false
theorem Only.cell {g k o : Nat} {a b : World} (h : Only g a b) (hk : k < a.heap.size) (hg : k ≠ g) : b.cell? ⟨k, o, none⟩ = a.cell? ⟨k, o, none⟩ := by
  simp [World.cell?, h.block k hk hg]
theorem Only.frozen {g k o : Nat} {a b : World} (h : Only g a b) (hk : k < a.heap.size) (hg : k ≠ g) : b.frozen? ⟨k, o, none⟩ = a.frozen? ⟨k, o, none⟩ := by
  simp [World.frozen?, h.block k hk hg]
/-- the deferred function, nothing was refused -/
theorem back_u0 (be bf br : Nat) (u : FrameMode) (w : World) (ce : w.cell? ⟨be, 0, none⟩ = some (.int .i64 0)) :
    CallsD Try.prog 64 #[.pointer (some ⟨be, 0, none⟩), .pointer (some ⟨bf, 0, none⟩), .pointer (some ⟨br, 0, none⟩)] u w fun e u' w' => u' = u ∧ (e = .returned (.tuple #[]) ∧ w' = w) := by
  go_enter_d Try.func64, Try.ntmps64
  go_wp2
  go_end0
  exact ⟨rfl, rfl⟩
theorem back_u1 (be bf br g : Nat) (E : Int) (a : Nat) (u : FrameMode) (w : World) (v : Value) (hE : (E != 0) = true) (ce : w.cell? ⟨be, 0, none⟩ = some (.int .i64 E)) (cf : w.cell? ⟨bf, 0, none⟩ = some (.int .i64 (a : Int))) (cr : w.cell? ⟨br, 0, none⟩ = some (.pointer (some ⟨g, 0, none⟩))) (cg : w.cell? ⟨g, 1, none⟩ = some v) (fg : w.frozen? ⟨g, 1, none⟩ = false) :
    CallsD Try.prog 64 #[.pointer (some ⟨be, 0, none⟩), .pointer (some ⟨bf, 0, none⟩), .pointer (some ⟨br, 0, none⟩)] u w fun e u' w' => u' = u ∧ (e = .returned (.tuple #[]) ∧ w' = w.setCell ⟨g, 1, none⟩ (.int .i64 (a : Int))) := by
  go_enter_d Try.func64, Try.ntmps64
  go_wp2
  go_end0
  exact ⟨rfl, rfl⟩
theorem att_end {w w1 w2 : World} {g p n : Nat} {s : ByteArray} {v : Value} (hb : Below w.heap.size w w1) (ho : Only g w1 w2) (hr : Rdr g s p w2) (hg : g < w.heap.size) (hn : w.heap.size ≤ n) :
    Rdr g s p (w2.setCell ⟨n, 0, none⟩ v) ∧ Only g w (w2.setCell ⟨n, 0, none⟩ v) := by
  have hb2 : Below w.heap.size w2 (w2.setCell ⟨n, 0, none⟩ v) := (Below.refl _ _).setCell (p := ⟨n, 0, none⟩) hn _
  have h2 : Only g w w2 := (Only.of_below hb).trans ho
  exact ⟨hr.below hb2 hg, ⟨hb2.os.trans h2.os, hb2.tape.trans h2.tape, hb2.output.trans h2.output, Nat.le_trans h2.size hb2.size, fun k hk hkg => (hb2.block k hk).trans (h2.block k hk hkg)⟩⟩
set_option maxHeartbeats 1000000 in
theorem attempt_u (F : FuncId) (first cap : Array Value) (g : Nat) (s : ByteArray) (a p : Nat) (v E : Nat) (w : World) (h : Rdr g s a w) (hp : E ≠ 0 → p = a) (hent : ∀ w, (callFunc F (first ++ cap)).run Try.prog w = .ok (.enter F (first ++ cap)) w)
    (hcall : ∀ w1, Rdr g s a w1 → Only g w w1 → Calls Try.prog F (first ++ cap) w1 fun e w' => e = .returned (.tuple #[.int .u64 (v : Int), .int .i64 (E : Int)]) ∧ ∃ a', Rdr g s a' w' ∧ Only g w1 w' ∧ (E = 0 → a' = p)) :
    Calls Try.prog 48 #[.pointer (some ⟨g, 0, none⟩), .func (.func F) first cap] w fun e w' => e = .returned (.tuple #[.int .u64 (v : Int), .int .i64 (E : Int)]) ∧ Rdr g s p w' ∧ Only g w w' := by
  have hmf : ∀ (fn : Fn) (first cap : Array Value) (w : World), (Instr.makeFunc fn first cap).run Try.prog w = .ok (.func fn first cap) w := fun _ _ _ _ => rfl
  have HC := Hid.mk' hcall
  have HH := Hid.mk' h
  have hg := h.lt
  have HPP := Hid.mk' hp
  have c1 := h.c1
  clear hcall h hp
  go_enter_defers Try.func48, Try.ntmps48
  go_wp2_with fail
  obtain ⟨w1, hw1⟩ : ∃ w1, w1 = (((w.alloc (.cells #[.pointer (some ⟨g, 0, none⟩)] 53)).alloc (.cells #[.int .i64 0] 24)).alloc (.cells #[.int .i64 (a : Int)] 3)) := ⟨_, rfl⟩
  have RW : Below w.heap.size w w1 := by rw [hw1]; exact (((Below.refl _ _).alloc (Nat.le_refl _) _).alloc (by simp) _).alloc (by simp; omega) _
  have hz1 : w1.heap.size = w.heap.size + 3 := by rw [hw1]; simp
  have d0 : w1.cell? ⟨w.heap.size, 0, none⟩ = some (.pointer (some ⟨g, 0, none⟩)) := by rw [hw1]; simp [go_sem]
  have d1 : w1.cell? ⟨w.heap.size + 1, 0, none⟩ = some (.int .i64 0) := by rw [hw1]; simp [go_sem]
  have d2 : w1.cell? ⟨w.heap.size + 1 + 1, 0, none⟩ = some (.int .i64 (a : Int)) := by rw [hw1]; simp [go_sem]
  have f1 : w1.frozen? ⟨w.heap.size + 1, 0, none⟩ = false := by rw [hw1]; simp [go_sem]
  rw [← hw1]
  clear hw1
  refine (HC.out w1 (HH.out.below RW hg) (Only.of_below RW)).mono ?_
  rintro e w2 ⟨rfl, a', hr2, ho2, hE⟩
  have x0 : w2.cell? ⟨w.heap.size, 0, none⟩ = some (.pointer (some ⟨g, 0, none⟩)) := (ho2.cell (by omega) (by omega)).trans d0
  have x1 : w2.cell? ⟨w.heap.size + 1, 0, none⟩ = some (.int .i64 0) := (ho2.cell (by omega) (by omega)).trans d1
  have x2 : w2.cell? ⟨w.heap.size + 1 + 1, 0, none⟩ = some (.int .i64 (a : Int)) := (ho2.cell (by omega) (by omega)).trans d2
  have y1 : w2.frozen? ⟨w.heap.size + 1, 0, none⟩ = false := (ho2.frozen (by omega) (by omega)).trans f1
  have HRW := Hid.mk' RW
  have HO2 := Hid.mk' ho2
  have HR2 := Hid.mk' hr2
  have HE := Hid.mk' hE
  clear RW ho2 hr2 hE d0 d1 d2 f1 c1
  by_cases hE0 : E = 0
  · subst hE0
    obtain rfl : a' = p := HE.out rfl
    go_wp2_with fail
    refine leaves_cons (f := 64) (args := #[.pointer (some ⟨w.heap.size + 1, 0, none⟩), .pointer (some ⟨w.heap.size + 1 + 1, 0, none⟩), .pointer (some ⟨w.heap.size, 0, none⟩)]) (by simp) (by simp [go_sem]) ?_
    refine (back_u0 _ _ _ .returning _ ?_).mono ?_
    · simp [go_sem, x1]
    rintro e u' w'' ⟨rfl, rfl, rfl⟩
    have hfin : Rdr g s a' (w2.setCell ⟨w.heap.size + 1, 0, none⟩ (.int .i64 0)) ∧ Only g w (w2.setCell ⟨w.heap.size + 1, 0, none⟩ (.int .i64 0)) := att_end HRW.out HO2.out HR2.out hg (by omega)
    simp [Leaves, settle, results, Try.results48, go_sem, x1]
    exact hfin
  · have hne : ((E : Int) != 0) = true := by simp; exact hE0
    obtain rfl : p = a := HPP.out hE0
    have HE0 := Hid.mk' hE0
    clear hE0
    go_wp2_with fail
    refine leaves_cons (f := 64) (args := #[.pointer (some ⟨w.heap.size + 1, 0, none⟩), .pointer (some ⟨w.heap.size + 1 + 1, 0, none⟩), .pointer (some ⟨w.heap.size, 0, none⟩)]) (by simp) (by simp [go_sem]) ?_
    have hr3 : Rdr g s a' (w2.setCell ⟨w.heap.size + 1, 0, none⟩ (.int .i64 (E : Int))) ∧ Only g w (w2.setCell ⟨w.heap.size + 1, 0, none⟩ (.int .i64 (E : Int))) := att_end HRW.out HO2.out HR2.out hg (by omega)
    refine (back_u1 _ _ _ g (E : Int) p .returning _ _ hne ?_ ?_ ?_ hr3.1.c1 hr3.1.fz).mono ?_
    · simp [go_sem, x1]
    · simp [go_sem, x2]
    · simp [go_sem, x0]
    rintro e u' w'' ⟨rfl, rfl, rfl⟩
    have hfin := hr3.1.set p
    have hcl : (World.setCell (w2.setCell ⟨w.heap.size + 1, 0, none⟩ (.int .i64 (E : Int))) ⟨g, 1, none⟩ (.int .i64 (p : Int))).cell? ⟨w.heap.size + 1, 0, none⟩ = some (.int .i64 (E : Int)) := by
      rw [hfin.2.cell (by simp [World.setCell]; have := HO2.out.size; omega) (by omega)]
      simp [go_sem, x1]
    simp [Leaves, settle, results, Try.results48, go_sem, hcl]
    exact ⟨hfin.1, hr3.2.trans hfin.2⟩
end Go.Proofs.Ytchhdkmflppjhaa
