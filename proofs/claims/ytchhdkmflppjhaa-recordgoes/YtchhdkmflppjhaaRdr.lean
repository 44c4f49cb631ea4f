/-
  What a Reader's small calls do. Conditions: as each says.
-/
import Derived.Test.YtchhdkmflppjhaaFix
namespace Go.Proofs.Ytchhdkmflppjhaa
open Go.RowKit
set_option linter.unusedVariables false
def rdrC (s : ByteArray) (a : Nat) : List Value := [.string s, .int .i64 (a : Int)]
/-- block g holds a Reader of s at the place a -/
def Rdr (g : Nat) (s : ByteArray) (a : Nat) (w : World) : Prop := w.heap[g]? = some (.cells (rdrC s a).toArray 91 (0, 0))
theorem Rdr.put {g : Nat} {s : ByteArray} {a : Nat} {w : World} (h : Rdr g s a w) : Put g 91 (rdrC s a) w w := Put.refl h
theorem Rdr.c0 {g : Nat} {s : ByteArray} {a : Nat} {w : World} (h : Rdr g s a w) : w.cell? ⟨g, 0, none⟩ = some (.string s) := h.put.cell _ rfl
theorem Rdr.c1 {g : Nat} {s : ByteArray} {a : Nat} {w : World} (h : Rdr g s a w) : w.cell? ⟨g, 1, none⟩ = some (.int .i64 (a : Int)) := h.put.cell _ rfl
theorem Rdr.fz {g o : Nat} {s : ByteArray} {a : Nat} {w : World} (h : Rdr g s a w) : w.frozen? ⟨g, o, none⟩ = false := h.put.frozen
theorem Rdr.lt {g : Nat} {s : ByteArray} {a : Nat} {w : World} (h : Rdr g s a w) : g < w.heap.size := h.put.lt
theorem Rdr.below {g B : Nat} {s : ByteArray} {a : Nat} {w w' : World} (h : Rdr g s a w) (hb : Below B w w') (hg : g < B) : Rdr g s a w' := (hb.block g hg).trans h
theorem Rdr.other {g k : Nat} {s : ByteArray} {a : Nat} {w w' : World} (h : Rdr g s a w) (ho : Only k w w') (hg : g ≠ k) : Rdr g s a w' := (ho.block g h.lt hg).trans h
theorem Rdr.set {g : Nat} {s : ByteArray} {a : Nat} {w : World} (h : Rdr g s a w) (b : Nat) : Rdr g s b (w.setCell ⟨g, 1, none⟩ (.int .i64 (b : Int))) ∧ Only g w (w.setCell ⟨g, 1, none⟩ (.int .i64 (b : Int))) := by
  have := h.put.setCell (o := 1) (.int .i64 (b : Int))
  exact ⟨this.row, this.only⟩
theorem ret_int {k : IntKind} {a b : Int} (h : a = b) : Ending.returned (.int k a) = .returned (.int k b) := by rw [h]
theorem read_any (s : ByteArray) (w : World) :
    Calls Try.prog 22 #[.string s] w fun e w' => ∃ g, w.heap.size ≤ g ∧ e = .returned (.pointer (some ⟨g, 0, none⟩)) ∧ Rdr g s 0 w' ∧ Below w.heap.size w w' := by
  go_enter Try.func22, Try.ntmps22
  go_wp2_with fail
  go_ret
  refine ⟨w.heap.size, Nat.le_refl _, rfl, ?_, (Below.refl _ _).alloc (Nat.le_refl _) _⟩
  exact heap_alloc_new w _
theorem at_any (g : Nat) (s : ByteArray) (a : Nat) (w : World) (h : Rdr g s a w) :
    Calls Try.prog 50 #[.pointer (some ⟨g, 0, none⟩)] w fun e w' => e = .returned (.int .i64 (a : Int)) ∧ w' = w := by
  have c1 := h.c1
  have HH := Hid.mk' h
  clear h
  go_enter Try.func50, Try.ntmps50
  go_wp2_with fail
  go_ret
  exact ⟨rfl, rfl⟩
theorem left_any (g : Nat) (s : ByteArray) (a : Nat) (w : World) (h : Rdr g s a w) (ha : a ≤ s.size) (hs : s.size ≤ 1125899906842624) :
    Calls Try.prog 55 #[.pointer (some ⟨g, 0, none⟩)] w fun e w' => e = .returned (.int .i64 ((s.size - a : Nat) : Int)) ∧ ∃ n, w' = w.drewN n := by
  have c0 := h.c0
  have c1 := h.c1
  have HH := Hid.mk' h
  have HE : Hid ((s.size : Int) - (a : Int) = ((s.size - a : Nat) : Int)) := by unfold Hid; omega
  clear h
  go_enter Try.func55, Try.ntmps55
  go_wp2_with fail
  go_quiet (fail)
  go_wp2_with fail
  go_ret
  exact ⟨ret_int HE.out, _, rfl⟩
theorem end_any (g : Nat) (s : ByteArray) (a : Nat) (w : World) (h : Rdr g s a w) (ha : a ≤ s.size) (hs : s.size ≤ 1125899906842624) :
    Calls Try.prog 57 #[.pointer (some ⟨g, 0, none⟩)] w fun e w' => e = .returned (.int .i64 (if a < s.size then 34 else 0)) ∧ ∃ n, w' = w.drewN n := by
  by_cases hlt : a < s.size
  · have HI : Hid ((if a < s.size then (34 : Int) else 0) = 34) := if_pos hlt
    have hx : decide ((0 : Int) < ((s.size - a : Nat) : Int)) = true := decide_eq_true (by omega)
    have hy : 0 < s.size - a := by omega
    go_enter Try.func57, Try.ntmps57
    go_wp2_with fail
    refine (left_any g s a w h ha hs).mono ?_
    rintro e w1 ⟨rfl, n, rfl⟩
    generalize s.size - a = r at *
    clear hs ha
    go_wp2_with fail
    go_ret
    refine ⟨?_, n, rfl⟩
    first | rfl | exact ret_int HI.out.symm
  · have HI : Hid ((if a < s.size then (34 : Int) else 0) = 0) := if_neg hlt
    obtain rfl : a = s.size := by omega
    go_enter Try.func57, Try.ntmps57
    go_wp2_with fail
    refine (left_any g s s.size w h ha hs).mono ?_
    rintro e w1 ⟨rfl, n, rfl⟩
    rw [Nat.sub_self]
    go_wp2_with fail
    go_ret
    refine ⟨?_, n, rfl⟩
    first | rfl | exact ret_int HI.out.symm
theorem next_none (g : Nat) (s : ByteArray) (w : World) (h : Rdr g s s.size w) (hs : s.size ≤ 1125899906842624) :
    Calls Try.prog 65 #[.pointer (some ⟨g, 0, none⟩)] w fun e w' => e = .returned (.tuple #[.int .u8 0, .int .i64 30]) ∧ ∃ n, w' = w.drewN n := by
  go_enter Try.func65, Try.ntmps65
  go_wp2_with fail
  refine (left_any g s s.size w h (Nat.le_refl _) hs).mono ?_
  rintro e w1 ⟨rfl, n, rfl⟩
  rw [Nat.sub_self]
  go_wp2_with fail
  go_ret2
  exact ⟨rfl, n, rfl⟩
set_option maxHeartbeats 1000000 in
theorem next_some (g : Nat) (s : ByteArray) (a : Nat) (w : World) (h : Rdr g s a w) (ha : a < s.size) (hs : s.size ≤ 1125899906842624) :
    Calls Try.prog 65 #[.pointer (some ⟨g, 0, none⟩)] w fun e w' => e = .returned (.tuple #[.int .u8 (((Sums.bl s).getD a 0 : Nat) : Int), .int .i64 0]) ∧ Rdr g s (a + 1) w' ∧ Only g w w' := by
  have HB := Hid.mk' (Sums.bl_get s a ha)
  have HH := Hid.mk' h
  have hx : (((s.size - a : Nat) : Int) == 0) = false := by simp; omega
  have hy : ¬ s.size - a = 0 := by omega
  go_enter Try.func65, Try.ntmps65
  go_wp2_with fail
  refine (left_any g s a w h (by omega) hs).mono ?_
  rintro e w1 ⟨rfl, n, rfl⟩
  clear h
  obtain ⟨w1, hw1⟩ : ∃ w1, w1 = w.drewN n := ⟨_, rfl⟩
  have hr1 : Rdr g s a w1 := by rw [hw1]; exact HH.out
  have ho1 : Only g w w1 := by rw [hw1]; exact (Only.refl g w).drewN n
  rw [← hw1]
  have c0 := hr1.c0
  have c1 := hr1.c1
  have f1 : w1.frozen? ⟨g, 1, none⟩ = false := hr1.fz
  have HR := Hid.mk' hr1
  have HO := Hid.mk' ho1
  clear hw1 hr1 ho1
  have i0 : (0 : Int) ≤ (a : Int) := by omega
  have i1 : (a : Int) < (s.size : Int) := by omega
  generalize hq : s.size - a = r at *
  clear hq
  go_wp2_with fail
  go_quiet (fail)
  go_wp2_with fail
  go_ret2
  have hs2 := (show Rdr g s a (w1.drewN nq) from HR.out).set (a + 1)
  refine ⟨ret_tup2 ?_ rfl, ?_, ?_⟩
  · rw [HB.out]; rfl
  · exact hs2.1
  · exact (HO.out.drewN nq).trans hs2.2
end Go.Proofs.Ytchhdkmflppjhaa
