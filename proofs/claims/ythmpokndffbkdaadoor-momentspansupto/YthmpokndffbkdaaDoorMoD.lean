/-
  moment: dayNumber, Of. Conditions: a day that there is; ints.
-/
import Derived.Test.YthmpokndffbkdaaDoorMoC
namespace Go.Proofs.YthmpokndffbkdaaDoor
open Go.RowKit
set_option linter.unusedVariables false
theorem box_cell (w : World) (cs : Array Value) (t : TypeId) (n i : Nat) (v : Value) (h : cs[i]? = some v) : ((w.alloc (.cells cs t)).drewN n).cell? ⟨w.heap.size, i, none⟩ = some v := by
  exact (World.cell?_alloc_new (w := w) cs t i).trans h
theorem int_eq {a b : Int} (h : a = b) : Value.int .i64 a = .int .i64 b := by rw [h]
set_option maxHeartbeats 2000000 in
theorem dayNumber_any (y m d : Nat) (h mi s ms : Int) (w : World) (hy0 : 1970 ≤ y) (hy1 : y ≤ 9999) (hm0 : 1 ≤ m) (hm1 : m ≤ 12) (hd0 : 1 ≤ d) (hd1 : d ≤ 31) :
    Calls Tryd.prog 29 #[dateV (y : Int) (m : Int) (d : Int) h mi s ms] w fun e w' => e = .returned (.int .i64 ((Mo.ys y + Mo.ml y (m - 1) + d - 1 : Nat) : Int)) ∧ Below w.heap.size w w' := by
  unfold dateV
  have HS := Hid.mk' (fun w => yearStart_any y w hy0 (by omega))
  have HM := Hid.mk' (fun k w h1 h2 => monthDays_any y k w (by omega) h1 h2)
  obtain ⟨Y, hY⟩ : ∃ Y, Mo.ys y = Y := ⟨_, rfl⟩
  have hYb : Y ≤ 3000000 := by
    have := Mo.ys_le (y := y) (z := 10000) hy0 (by omega)
    rw [Mo.ys_last] at this; omega
  rw [hY] at HS ⊢
  have HML := Hid.mk' (fun a b h => Mo.ml_le y (a := a) (b := b) h)
  have HMY : Hid (Mo.ml y 12 ≤ 366) := by
    show Mo.ml y 12 ≤ 366
    rw [Mo.ml_year]; exact (Mo.yl_pos y).2
  have HBX : Hid (∀ n cs t, Below w.heap.size w ((w.alloc (.cells cs t)).drewN n)) := fun n cs t => bel_box w cs t n
  clear hY
  go_enter Tryd.func29, Tryd.ntmps29
  go_wp2_with fail
  go_quiet ((go_at_call 59; exact Calls.quiet_of_same (HS.out _)))
  have c0 := box_cell w #[.int .i64 (y : Int), .int .i64 (m : Int), .int .i64 (d : Int), .int .i64 h, .int .i64 mi, .int .i64 s, .int .i64 ms] 23 nq 0 _ rfl
  have c1 := box_cell w #[.int .i64 (y : Int), .int .i64 (m : Int), .int .i64 (d : Int), .int .i64 h, .int .i64 mi, .int .i64 s, .int .i64 ms] 23 nq 1 _ rfl
  have HB := Hid.mk' (HBX.out nq #[.int .i64 (y : Int), .int .i64 (m : Int), .int .i64 (d : Int), .int .i64 h, .int .i64 mi, .int .i64 s, .int .i64 ms] 23)
  generalize ((w.alloc _).drewN nq) = W at *
  go_wp2_with fail
  go_loopw [3, 4] (fun dv kv wr => ∃ k : Nat, kv = .int .i64 ((k : Nat) : Int) ∧ 1 ≤ k ∧ k ≤ m ∧ dv = .int .i64 ((Y + d - 1 + Mo.ml y (k - 1) : Nat) : Int) ∧ wr = W) (fun _ kv _ => m - (intOf kv).toNat)
  case atStart => exact ⟨1, rfl, by omega, hm0, int_eq (by rw [show (1 : Nat) - 1 = 0 from rfl, Mo.ml]; omega), rfl⟩
  case round =>
    obtain ⟨k, rfl, hk1, hk2, rfl, rfl⟩ := hrel
    by_cases hk : k < m
    · have hkI : (k : Int) < (m : Int) := by omega
      have hkM : Mo.md y k ≤ 31 := (Mo.md_pos y k).2
      have HK := Hid.mk' (fun w => HM.out k w hk1 (by omega))
      have hq : Mo.ml y k = Mo.ml y (k - 1) + Mo.md y k := by
        have : k = k - 1 + 1 := by omega
        rw [this, Mo.ml, ← this]
      have hle : Mo.ml y (k - 1) ≤ 366 := by
        have h1 := HML.out (k - 1) 12 (by omega)
        have h2 := HMY.out
        omega
      have HQ := Hid.mk' hq
      clear hq
      generalize hg1 : Mo.ml y (k - 1) = a at *
      generalize hg2 : Mo.md y k = b at *
      generalize hg3 : Y + d - 1 + a = z at *
      have hzb : z ≤ 4000000 := by omega
      have HG := Hid.mk' (And.intro hg1 (And.intro hg2 hg3))
      clear hg1 hg2 hg3
      go_wp2_with (go_at_call 58; refine (HK.out _).mono ?_; rintro e w' ⟨rfl, rfl⟩)
      go_roundw
      case rel =>
        refine ⟨k + 1, by simp, by omega, by omega, ?_, by first | trivial | rfl⟩
        rw [show k + 1 - 1 = k from rfl, HQ.out]
        refine int_eq ?_
        have := HG.out.2.2
        omega
      case measure => simp [intOf]; omega
    · have hkI : ¬ (k : Int) < (m : Int) := by omega
      obtain rfl : k = m := by omega
      clear hk hk2
      go_wp2_with fail
      go_ret
      exact ⟨ret_i64 (by omega), HB.out⟩
end Go.Proofs.YthmpokndffbkdaaDoor
