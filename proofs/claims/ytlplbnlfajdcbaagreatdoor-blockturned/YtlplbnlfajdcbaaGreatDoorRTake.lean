/-
  What a Reader's Take does. Conditions: as each says.
-/
import Derived.Test.YtlplbnlfajdcbaaGreatDoorClone
import Derived.Deep.RegionHeld3
namespace Go.Proofs.YtlplbnlfajdcbaaGreatDoor
open Go.RowKit
set_option linter.unusedVariables false
theorem rtake_neg (g : Nat) (n : Int) (w : World) (hn : n < 0) :
    Calls Tryz.prog 135 #[.pointer (some ⟨g, 0, none⟩), .int .i64 n] w fun e w' => e = .returned (.tuple #[.string ⟨#[]⟩, .int .i64 1]) ∧ w' = w := by
  go_enter Tryz.func135, Tryz.ntmps135
  go_wp2_with fail
  go_ret2
  exact ⟨rfl, rfl⟩
theorem rtake_short (g : Nat) (s : ByteArray) (a n : Nat) (w : World) (h : Rdr g s a w) (ha : a ≤ s.size) (hs : s.size ≤ 1125899906842624) (hn : s.size < a + n) :
    Calls Tryz.prog 135 #[.pointer (some ⟨g, 0, none⟩), .int .i64 (n : Int)] w fun e w' => e = .returned (.tuple #[.string ⟨#[]⟩, .int .i64 30]) ∧ ∃ n, w' = w.drewN n := by
  have h0 : ¬ (n : Int) < 0 := by omega
  have h1 : decide (((s.size - a : Nat) : Int) < (n : Int)) = true := decide_eq_true (by omega)
  have h2 : s.size - a < n := by omega
  go_enter Tryz.func135, Tryz.ntmps135
  go_wp2_with fail
  refine (left_any g s a w h ha hs).mono ?_
  rintro e w1 ⟨rfl, m, rfl⟩
  generalize s.size - a = r at *
  clear ha hs hn h
  go_wp2_with fail
  go_ret2
  exact ⟨rfl, m, rfl⟩
set_option maxRecDepth 100000 in
set_option maxHeartbeats 1000000 in
theorem rtake_in (g : Nat) (s : ByteArray) (a n : Nat) (w : World) (h : Rdr g s a w) (hs : s.size ≤ 1125899906842624) (hn : a + n ≤ s.size) (hn2 : n ≤ 281474976710656) :
    Calls Tryz.prog 135 #[.pointer (some ⟨g, 0, none⟩), .int .i64 (n : Int)] w fun e w' => e = .returned (.tuple #[.string (s.extract a (a + n)), .int .i64 0]) ∧ Rdr g s (a + n) w' ∧ Only g w w' := by
  have h0 : ¬ (n : Int) < 0 := by omega
  have h1 : decide (((s.size - a : Nat) : Int) < (n : Int)) = false := decide_eq_false (by omega)
  have h2 : ¬ s.size - a < n := by omega
  have HH := Hid.mk' h
  go_enter Tryz.func135, Tryz.ntmps135
  go_wp2_with fail
  refine (left_any g s a w h (by omega) hs).mono ?_
  rintro e w1 ⟨rfl, m, rfl⟩
  generalize s.size - a = r at *
  obtain ⟨w1, hw1⟩ : ∃ w1, w1 = w.drewN m := ⟨_, rfl⟩
  have hr1 : Rdr g s a w1 := by rw [hw1]; exact HH.out
  have ho1 : Only g w w1 := by rw [hw1]; exact (Only.refl g w).drewN m
  rw [← hw1]
  have c1 := hr1.c1
  have f1 : w1.frozen? ⟨g, 1, none⟩ = false := hr1.fz
  have HR := Hid.mk' hr1
  have HO := Hid.mk' ho1
  clear hw1 hr1 ho1 h HH
  go_wp2_with fail
  have hst := HR.out.set (a + n)
  obtain ⟨w2, hw2⟩ : ∃ w2, w2 = w1.setCell ⟨g, 1, none⟩ (.int .i64 ((a : Int) + (n : Int))) := ⟨_, rfl⟩
  obtain ⟨q, HQ⟩ : ∃ q, Hid (q = a + n) := ⟨_, rfl⟩
  have hr2 : Rdr g s q w2 := by rw [hw2, HQ.out]; exact hst.1
  have ho2 : Only g w w2 := HO.out.trans (by rw [hw2]; exact hst.2)
  rw [← hw2]
  have HQS : Hid (q ≤ s.size) := by rw [HQ.out]; exact hn
  have q1 : (q : Int) - (n : Int) = (a : Int) := by have := HQ.out; omega
  have q2 : IntKind.i64.wrap (a : Int) = (a : Int) := by rw [IntKind.wrap_i64]; omega
  have q3 : (0 : Int) ≤ (a : Int) := by omega
  have q4 : (a : Int) ≤ (q : Int) := by have := HQ.out; omega
  have q5 : (q : Int) ≤ (s.size : Int) := by have := HQS.out; omega
  have c0 := hr2.c0
  have c1 := hr2.c1
  have HR2 := Hid.mk' hr2
  have HO2 := Hid.mk' ho2
  have HN2 := Hid.mk' hn2
  clear hw2 hst hr2 ho2 hs hn h0 h1 h2 f1
  have HLT : Hid (g < w2.heap.size) := HR2.out.lt
  have HSZ : Hid ((s.extract a q).size ≤ 281474976710656) := by
    unfold Hid
    rw [ByteArray.size_extract]
    have := HQ.out
    have := HN2.out
    omega
  clear hn2
  go_region_held3 (fun w' => w'.cell? ⟨g, 0, none⟩ = some (.string s) ∧ w'.cell? ⟨g, 1, none⟩ = some (.int .i64 (q : Int))) (first | go_keep | exact ⟨k0, k1⟩)
    ((first | (go_at_call 148; refine (clone_any (s.extract a q) _ HSZ.out).mono ?_; rintro e w3 ⟨rfl, hb3⟩; have k0 := (hb3.cell (p := ⟨g, 0, none⟩) (by exact HLT.out)).trans c0; have k1 := (hb3.cell (p := ⟨g, 1, none⟩) (by exact HLT.out)).trans c1; have HB3 := Hid.mk' hb3; clear hb3)))
  go_wp2_with fail
  go_ret2
  have hod : Only g w w2.drew := ⟨HO2.out.os, HO2.out.tape, HO2.out.output, HO2.out.size, HO2.out.block⟩
  refine ⟨ret_tup2 (by rw [← HQ.out]; rfl) rfl, ?_, hod.trans (Only.of_below HB3.out)⟩
  rw [← HQ.out]
  exact (show Rdr g s q w2.drew from HR2.out).below HB3.out HLT.out
/-- what Take answers, and how far it goes on -/
def takeR (s : ByteArray) (a : Nat) (n : Int) : ByteArray × Nat × Nat :=
  if n < 0 then (⟨#[]⟩, 1, 0) else if (s.size - a : Nat) < n then (⟨#[]⟩, 30, 0) else (s.extract a (a + n.toNat), 0, n.toNat)
theorem rtake_any (g : Nat) (s : ByteArray) (a : Nat) (n : Int) (w : World) (h : Rdr g s a w) (ha : a ≤ s.size) (hs : s.size ≤ 281474976710656) :
    Calls Tryz.prog 135 #[.pointer (some ⟨g, 0, none⟩), .int .i64 n] w fun e w' => e = .returned (.tuple #[.string (takeR s a n).1, .int .i64 ((takeR s a n).2.1 : Int)]) ∧ Rdr g s (a + (takeR s a n).2.2) w' ∧ Only g w w' := by
  unfold takeR
  by_cases h0 : n < 0
  · rw [if_pos h0]
    refine (rtake_neg g n w h0).mono ?_
    rintro e w' ⟨rfl, rfl⟩
    exact ⟨rfl, h, Only.refl _ _⟩
  · rw [if_neg h0]
    obtain ⟨n, rfl⟩ := Int.eq_ofNat_of_zero_le (show 0 ≤ n by omega)
    by_cases h1 : ((s.size - a : Nat) : Int) < (n : Int)
    · rw [if_pos h1]
      refine (rtake_short g s a n w h ha (by omega) (by omega)).mono ?_
      rintro e w' ⟨rfl, m, rfl⟩
      exact ⟨rfl, h, (Only.refl _ _).drewN m⟩
    · rw [if_neg h1, Int.toNat_natCast]
      exact rtake_in g s a n w h (by omega) (by omega) (by omega)
end Go.Proofs.YtlplbnlfajdcbaaGreatDoor
