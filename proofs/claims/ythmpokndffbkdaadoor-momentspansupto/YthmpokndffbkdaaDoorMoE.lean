/-
  moment.Of. Conditions: ints.
-/
import Derived.Test.YthmpokndffbkdaaDoorMoD
import Derived.Deep.RegionHeld3
namespace Go.Proofs.YthmpokndffbkdaaDoor
open Go.RowKit
set_option linter.unusedVariables false
def _root_.Mo.of (y m d h mi s ms : Nat) : Nat := (Mo.ys y + Mo.ml y (m - 1) + d - 1) * 86400000 + h * 3600000 + mi * 60000 + s * 1000 + ms
theorem tup_ii {a b c d : Int} (h : a = b) (k : c = d) : Ending.returned (.tuple #[.int .i64 a, .int .i64 c]) = .returned (.tuple #[.int .i64 b, .int .i64 d]) := by rw [h, k]
theorem cell_below {B g o : Nat} {a b : World} {v : Value} (h : Below B a b) (hg : g < B) (hc : a.cell? ⟨g, o, none⟩ = some v) : b.cell? ⟨g, o, none⟩ = some v := by
  have := h.block g hg
  simp only [World.cell?] at hc ⊢
  rw [this]; exact hc
/-- a day and time lie in block g -/
structure DateAt (g : Nat) (y m d h mi s ms : Int) (w : World) : Prop where
  c0 : w.cell? ⟨g, 0, none⟩ = some (.int .i64 y)
  c1 : w.cell? ⟨g, 1, none⟩ = some (.int .i64 m)
  c2 : w.cell? ⟨g, 2, none⟩ = some (.int .i64 d)
  c3 : w.cell? ⟨g, 3, none⟩ = some (.int .i64 h)
  c4 : w.cell? ⟨g, 4, none⟩ = some (.int .i64 mi)
  c5 : w.cell? ⟨g, 5, none⟩ = some (.int .i64 s)
  c6 : w.cell? ⟨g, 6, none⟩ = some (.int .i64 ms)
theorem DateAt.below {g B : Nat} {y m d h mi s ms : Int} {a b : World} (k : DateAt g y m d h mi s ms a) (hb : Below B a b) (hg : g < B) : DateAt g y m d h mi s ms b :=
  ⟨cell_below hb hg k.c0, cell_below hb hg k.c1, cell_below hb hg k.c2, cell_below hb hg k.c3, cell_below hb hg k.c4, cell_below hb hg k.c5, cell_below hb hg k.c6⟩
theorem DateAt.new (w : World) (y m d h mi s ms : Int) (t : TypeId) : DateAt w.heap.size y m d h mi s ms (w.alloc (.cells #[.int .i64 y, .int .i64 m, .int .i64 d, .int .i64 h, .int .i64 mi, .int .i64 s, .int .i64 ms] t)) :=
  ⟨box_cell w _ t 0 0 _ rfl, box_cell w _ t 0 1 _ rfl, box_cell w _ t 0 2 _ rfl, box_cell w _ t 0 3 _ rfl, box_cell w _ t 0 4 _ rfl, box_cell w _ t 0 5 _ rfl, box_cell w _ t 0 6 _ rfl⟩
set_option maxHeartbeats 4000000 in
theorem of_any (y m d h mi s ms : Nat) (w : World) (hy0 : 1970 ≤ y) (hy1 : y ≤ 9999) (hm0 : 1 ≤ m) (hm1 : m ≤ 12) (hd0 : 1 ≤ d) (hd1 : d ≤ Mo.md y m) (hh : h ≤ 23) (hmi : mi ≤ 59) (hs : s ≤ 59) (hms : ms ≤ 999) :
    Calls Tryd.prog 9 #[dateV (y : Int) (m : Int) (d : Int) (h : Int) (mi : Int) (s : Int) (ms : Int)] w fun e w' => e = .returned (.tuple #[.int .i64 ((Mo.of y m d h mi s ms : Nat) : Int), .int .i64 0]) ∧ Below w.heap.size w w' := by
  have hd2 : d ≤ 31 := by have := (Mo.md_pos y m).2; omega
  have HD : Hid (∀ w, Calls Tryd.prog 27 #[dateV (y : Int) (m : Int) (d : Int) (h : Int) (mi : Int) (s : Int) (ms : Int)] w fun e w' => e = .returned (.bool true) ∧ Below w.heap.size w w') := by
    intro w
    have := isDay_any (y : Int) (m : Int) (d : Int) (h : Int) (mi : Int) (s : Int) (ms : Int) w
    rw [show Mo.dayOK (y : Int) (m : Int) (d : Int) = true by simp [Mo.dayOK]; omega] at this
    exact this
  have HT : Hid (∀ w, Calls Tryd.prog 28 #[dateV (y : Int) (m : Int) (d : Int) (h : Int) (mi : Int) (s : Int) (ms : Int)] w fun e w' => e = .returned (.bool true) ∧ Below w.heap.size w w') := by
    intro w
    have := isTime_any (y : Int) (m : Int) (d : Int) (h : Int) (mi : Int) (s : Int) (ms : Int) w
    rw [show Mo.timeOK (h : Int) (mi : Int) (s : Int) (ms : Int) = true by simp [Mo.timeOK]; omega] at this
    exact this
  have HN := Hid.mk' (fun w => dayNumber_any y m d h mi s ms w hy0 hy1 hm0 hm1 hd0 hd2)
  obtain ⟨N, hN⟩ : ∃ N, Mo.ys y + Mo.ml y (m - 1) + d - 1 = N := ⟨_, rfl⟩
  have hNb : N ≤ 4000000 := by
    have h1 := Mo.ys_le (y := y) (z := 10000) hy0 (by omega)
    rw [Mo.ys_last] at h1
    have h2 := Mo.ml_le y (a := m - 1) (b := 12) (by omega)
    rw [Mo.ml_year] at h2
    have h3 := (Mo.yl_pos y).2
    omega
  unfold Mo.of
  rw [hN] at HN ⊢
  have HG := Hid.mk' (And.intro hy0 (And.intro hm0 hd0))
  clear hN hy0 hy1 hm0 hm1 hd0 hd1 hd2
  have HW : Hid (((N * 86400000 + h * 3600000 + mi * 60000 + s * 1000 + ms : Nat) : Int) = IntKind.i64.wrap (IntKind.i64.wrap (IntKind.i64.wrap (IntKind.i64.wrap (IntKind.i64.wrap ((N : Int) * 86400000) + IntKind.i64.wrap ((h : Int) * 3600000)) + IntKind.i64.wrap ((mi : Int) * 60000)) + IntKind.i64.wrap ((s : Int) * 1000)) + (ms : Int))) := by
    show _ = _
    rw [Go.IntWalk.i64_in ((N : Int) * 86400000) (by omega), Go.IntWalk.i64_in ((h : Int) * 3600000) (by omega), Go.IntWalk.i64_in ((mi : Int) * 60000) (by omega), Go.IntWalk.i64_in ((s : Int) * 1000) (by omega), Go.IntWalk.i64_in ((N : Int) * 86400000 + (h : Int) * 3600000) (by omega), Go.IntWalk.i64_in ((N : Int) * 86400000 + (h : Int) * 3600000 + (mi : Int) * 60000) (by omega), Go.IntWalk.i64_in ((N : Int) * 86400000 + (h : Int) * 3600000 + (mi : Int) * 60000 + (s : Int) * 1000) (by omega), Go.IntWalk.i64_in ((N : Int) * 86400000 + (h : Int) * 3600000 + (mi : Int) * 60000 + (s : Int) * 1000 + (ms : Int)) (by omega)]
    omega
  unfold dateV at HD HT HN ⊢
  go_enter Tryd.func9, Tryd.ntmps9
  go_wp2_with fail
  have D0 := DateAt.new w y m d h mi s ms 23
  have B0 := bel_box0 w #[.int .i64 (y : Int), .int .i64 (m : Int), .int .i64 (d : Int), .int .i64 (h : Int), .int .i64 (mi : Int), .int .i64 (s : Int), .int .i64 (ms : Int)] 23
  have S0 : w.heap.size < (w.alloc (.cells #[.int .i64 (y : Int), .int .i64 (m : Int), .int .i64 (d : Int), .int .i64 (h : Int), .int .i64 (mi : Int), .int .i64 (s : Int), .int .i64 (ms : Int)] 23)).heap.size := by simp
  generalize (w.alloc _) = w0 at *
  refine (HD.out _).mono ?_
  rintro e w1 ⟨rfl, hb1⟩
  have D1 := D0.below hb1 S0
  have B1 := Hid.mk' (B0.trans (hb1.mono (Nat.le_of_lt S0)))
  have S1 : w.heap.size < w1.heap.size := Nat.lt_of_lt_of_le S0 hb1.size
  clear hb1 D0 B0 S0
  obtain ⟨c0, c1, c2, c3, c4, c5, c6⟩ := D1
  go_wp2_with fail
  refine (HT.out _).mono ?_
  rintro e w2 ⟨rfl, hb2⟩
  have D2 := (DateAt.mk c0 c1 c2 c3 c4 c5 c6).below hb2 S1
  have B2 := Hid.mk' (B1.out.trans (hb2.mono (Nat.le_of_lt S1)))
  have S2 : w.heap.size < w2.heap.size := Nat.lt_of_lt_of_le S1 hb2.size
  clear hb2 c0 c1 c2 c3 c4 c5 c6 B1 S1
  obtain ⟨c0, c1, c2, c3, c4, c5, c6⟩ := D2
  go_wp2_with fail
  go_region_held3 (fun w' => w'.cell? ⟨w.heap.size, 0, none⟩ = some (.int .i64 (y : Int)) ∧ w'.cell? ⟨w.heap.size, 1, none⟩ = some (.int .i64 (m : Int)) ∧ w'.cell? ⟨w.heap.size, 2, none⟩ = some (.int .i64 (d : Int)) ∧ w'.cell? ⟨w.heap.size, 3, none⟩ = some (.int .i64 (h : Int)) ∧ w'.cell? ⟨w.heap.size, 4, none⟩ = some (.int .i64 (mi : Int)) ∧ w'.cell? ⟨w.heap.size, 5, none⟩ = some (.int .i64 (s : Int)) ∧ w'.cell? ⟨w.heap.size, 6, none⟩ = some (.int .i64 (ms : Int))) (first | go_keep | exact ⟨c0, c1, c2, c3, c4, c5, c6⟩ | exact ⟨z.c0, z.c1, z.c2, z.c3, z.c4, z.c5, z.c6⟩)
    ((go_at_call 29; refine (HN.out _).mono ?_; rintro e wz ⟨rfl, hbz⟩; have z := (show DateAt w.heap.size y m d h mi s ms w2.drew from ⟨c0, c1, c2, c3, c4, c5, c6⟩).below hbz S2; have B3 := Hid.mk' (B2.out.trans (((Below.refl w.heap.size w2).drewN' 1).trans (hbz.mono (Nat.le_of_lt S2)))); clear hbz))
  all_goals
    go_wp2_with fail
    go_ret2
    refine ⟨?_, B3.out⟩
    refine tup_ii ?_ rfl
    exact HW.out.symm
theorem of_bad (y m d h mi s ms : Int) (w : World) (hb : (Mo.dayOK y m d && Mo.timeOK h mi s ms) = false) :
    Calls Tryd.prog 9 #[dateV y m d h mi s ms] w fun e w' => e = .returned (.tuple #[.int .i64 0, .int .i64 120]) ∧ Below w.heap.size w w' := by
  have HD := Hid.mk' (fun w => isDay_any y m d h mi s ms w)
  have HT := Hid.mk' (fun w => isTime_any y m d h mi s ms w)
  have HN := Hid.mk' (fun o => (Below.refl w.heap.size w).alloc (Nat.le_refl _) o)
  cases q1 : Mo.dayOK y m d
  · rw [q1] at HD
    clear hb q1
    unfold dateV at HD HT ⊢
    go_enter Tryd.func9, Tryd.ntmps9
    go_wp2_with fail
    have B0 := bel_box0 w #[.int .i64 y, .int .i64 m, .int .i64 d, .int .i64 h, .int .i64 mi, .int .i64 s, .int .i64 ms] 23
    have S0 : w.heap.size < (w.alloc (.cells #[.int .i64 y, .int .i64 m, .int .i64 d, .int .i64 h, .int .i64 mi, .int .i64 s, .int .i64 ms] 23)).heap.size := by simp
    generalize (w.alloc _) = w0 at *
    refine (HD.out _).mono ?_
    rintro e w1 ⟨rfl, hb1⟩
    have B1 := Hid.mk' (B0.trans (hb1.mono (Nat.le_of_lt S0)))
    clear hb1 B0 S0
    go_wp2_with fail
    go_ret2
    exact ⟨rfl, B1.out⟩
  · have q2 : Mo.timeOK h mi s ms = false := by simpa [q1] using hb
    rw [q1] at HD
    rw [q2] at HT
    clear hb q1 q2
    unfold dateV at HD HT ⊢
    go_enter Tryd.func9, Tryd.ntmps9
    go_wp2_with fail
    have D0 := DateAt.new w y m d h mi s ms 23
    have B0 := bel_box0 w #[.int .i64 y, .int .i64 m, .int .i64 d, .int .i64 h, .int .i64 mi, .int .i64 s, .int .i64 ms] 23
    have S0 : w.heap.size < (w.alloc (.cells #[.int .i64 y, .int .i64 m, .int .i64 d, .int .i64 h, .int .i64 mi, .int .i64 s, .int .i64 ms] 23)).heap.size := by simp
    generalize (w.alloc _) = w0 at *
    refine (HD.out _).mono ?_
    rintro e w1 ⟨rfl, hb1⟩
    have D1 := D0.below hb1 S0
    have B1 := Hid.mk' (B0.trans (hb1.mono (Nat.le_of_lt S0)))
    have S1 : w.heap.size < w1.heap.size := Nat.lt_of_lt_of_le S0 hb1.size
    clear hb1 D0 B0 S0
    obtain ⟨c0, c1, c2, c3, c4, c5, c6⟩ := D1
    go_wp2_with fail
    refine (HT.out _).mono ?_
    rintro e w2 ⟨rfl, hb2⟩
    have B2 := Hid.mk' (B1.out.trans (hb2.mono (Nat.le_of_lt S1)))
    clear hb2 B1 S1
    go_wp2_with fail
    go_ret2
    exact ⟨rfl, B2.out⟩
end Go.Proofs.YthmpokndffbkdaaDoor
