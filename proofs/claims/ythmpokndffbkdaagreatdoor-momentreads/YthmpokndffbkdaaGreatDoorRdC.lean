/-
  The document's Of. Conditions: ints.
-/
import Derived.Test.YthmpokndffbkdaaGreatDoorRdB
import Derived.Test.YthmpokndffbkdaaGreatDoorMoP
namespace Go.Proofs.YthmpokndffbkdaaGreatDoor
open Go.RowKit
set_option linter.unusedVariables false
theorem th_cycle (k : Nat) : Mo.th (1969 + 400 * k) = 719162 + 146097 * k := by
  unfold Mo.th
  omega
theorem ys_cycle (k : Nat) : Mo.ys (1970 + 400 * k) = 146097 * k := by
  unfold Mo.ys
  rw [show 1970 + 400 * k - 1 = 1969 + 400 * k by omega, th_cycle]
  omega
theorem rOf_bad (y m d h mi s ms : Int) (w : World) (hb : (Mo.dayOK y m d && Mo.timeOK h mi s ms) = false) :
    Calls Tryz.prog 52 #[dateV y m d h mi s ms] w fun e w' => e = .returned (.tuple #[.int .i64 0, .int .i64 120]) ∧ Below w.heap.size w w' := by
  have HT : Hid (∀ w, Calls Tryz.prog 68 #[dateV y m d h mi s ms] w fun e w' => e = .returned (.bool false) ∧ Below w.heap.size w w') := by
    intro w
    have := rThere_any y m d h mi s ms w
    rw [hb] at this
    exact this
  have B0 := Hid.mk' (bel_box0 w #[.int .i64 y, .int .i64 m, .int .i64 d, .int .i64 h, .int .i64 mi, .int .i64 s, .int .i64 ms] 31)
  clear hb
  unfold dateV at HT ⊢
  go_enter Tryz.func52, Tryz.ntmps52
  go_wp2_with fail
  generalize (w.alloc _) = w0 at *
  refine (HT.out _).mono ?_
  rintro e w1 ⟨rfl, hb1⟩
  have B1 := Hid.mk' (B0.out.trans (hb1.mono B0.out.size))
  clear hb1 B0 HT
  go_wp2_with fail
  go_ret2
  exact ⟨rfl, B1.out⟩
set_option maxRecDepth 100000 in
set_option maxHeartbeats 4000000 in
theorem rOf_any (y m d h mi s ms : Nat) (w : World) (hok : Mo.ok y m d h mi s ms = true) :
    Calls Tryz.prog 52 #[dateV (y : Int) (m : Int) (d : Int) (h : Int) (mi : Int) (s : Int) (ms : Int)] w fun e w' => e = .returned (.tuple #[.int .i64 ((Mo.of y m d h mi s ms : Nat) : Int), .int .i64 0]) ∧ Below w.heap.size w w' := by
  have HT : Hid (∀ w, Calls Tryz.prog 68 #[dateV (y : Int) (m : Int) (d : Int) (h : Int) (mi : Int) (s : Int) (ms : Int)] w fun e w' => e = .returned (.bool true) ∧ Below w.heap.size w w') := by
    intro w
    have := rThere_any (y : Int) (m : Int) (d : Int) (h : Int) (mi : Int) (s : Int) (ms : Int) w
    rw [show (Mo.dayOK (y : Int) (m : Int) (d : Int) && Mo.timeOK (h : Int) (mi : Int) (s : Int) (ms : Int)) = true from hok] at this
    exact this
  obtain ⟨⟨f1, f2, f3, f4, f5, f6⟩, f7, f8, f9, f10⟩ := Mo.ok_facts hok
  have D0 := DateAt.new w y m d h mi s ms 31
  have B0 := Hid.mk' (bel_box0 w #[.int .i64 (y : Int), .int .i64 (m : Int), .int .i64 (d : Int), .int .i64 (h : Int), .int .i64 (mi : Int), .int .i64 (s : Int), .int .i64 (ms : Int)] 31)
  have S0 : w.heap.size < (w.alloc (.cells #[.int .i64 (y : Int), .int .i64 (m : Int), .int .i64 (d : Int), .int .i64 (h : Int), .int .i64 (mi : Int), .int .i64 (s : Int), .int .i64 (ms : Int)] 31)).heap.size := by simp
  clear hok
  unfold dateV at HT ⊢
  go_enter Tryz.func52, Tryz.ntmps52
  go_wp2_with fail
  generalize (w.alloc _) = w0 at *
  refine (HT.out _).mono ?_
  rintro e w1 ⟨rfl, hb1⟩
  have D1 := D0.below hb1 S0
  have B1 := Hid.mk' (B0.out.trans (hb1.mono B0.out.size))
  clear hb1 B0 HT D0 S0
  obtain ⟨c0, c1, c2, c3, c4, c5, c6⟩ := D1
  generalize hD : w.heap.size = D at c0 c1 c2 c3 c4 c5 c6 ⊢
  clear hD
  obtain ⟨k, hk⟩ : ∃ k, (y - 1970) / 400 = k := ⟨_, rfl⟩
  have hkI : ((y : Int) - 1970) / 400 = (k : Int) := by omega
  have hky : 1970 + 400 * k ≤ y := by omega
  have hkb : k ≤ 21 := by omega
  clear hk
  have HY := Hid.mk' (fun z w hz => rYear_any z w hz)
  have HL := Hid.mk' (fun z w a b => rLong_any y z w (by omega) a b)
  have hd31 : d ≤ 31 := by have := (Mo.md_pos y m).2; omega
  have HF := Hid.mk' f6
  have HMY : Hid (Mo.ml y 12 ≤ 366) := by
    show Mo.ml y 12 ≤ 366
    rw [Mo.ml_year]; exact (Mo.yl_pos y).2
  clear f6
  go_wp2_with fail
  simp only [hkI]
  clear hkI
  go_loopw [5, 6] (fun nv yv wr => ∃ z a : Nat, yv = .int .i64 ((z : Nat) : Int) ∧ nv = .int .i64 ((a : Nat) : Int) ∧ Hid (Mo.ys z = a) ∧ 1970 ≤ z ∧ z ≤ y ∧ wr = w1) (fun _ yv _ => y - (intOf yv).toNat)
  case atStart => exact ⟨1970 + 400 * k, 146097 * k, int_eq (by omega), int_eq (by omega), ys_cycle k, by omega, hky, rfl⟩
  case round =>
    obtain ⟨z, a, rfl, rfl, ha, hz0, hz1, rfl⟩ := hrel
    have hab : a ≤ 2932897 := by
      have h1 := Mo.ys_le (y := z) (z := 10000) hz0 (by omega)
      rw [Mo.ys_last, ha.out] at h1
      exact h1
    by_cases hz : z < y
    · have hzI : (z : Int) < (y : Int) := by omega
      obtain ⟨b, hb⟩ : ∃ b, Mo.yl z = b := ⟨_, rfl⟩
      have hbb : b ≤ 366 := by rw [← hb]; exact (Mo.yl_pos z).2
      have HK := Hid.mk' (fun w => HY.out z w (by omega))
      rw [hb] at HK
      have HS : Hid (Mo.ys (z + 1) = a + b) := by
        show Mo.ys (z + 1) = a + b
        rw [Mo.ys_succ hz0, ha.out, hb]
      clear hb
      go_wp2_with (go_at_call 69; refine (HK.out _).mono ?_; rintro e w' ⟨rfl, hw'⟩; have hw2 := hw'.symm; subst hw2)
      go_roundw
      case rel => exact ⟨z + 1, a + b, by first | rfl | exact int_eq (by omega), by first | rfl | exact int_eq (by omega), HS, by omega, by omega, by first | rfl | assumption⟩
      case measure => simp [intOf]; omega
    · obtain rfl : z = y := by omega
      clear hz
      have HML := Hid.mk' (fun i j h => Mo.ml_le z (a := i) (b := j) h)
      go_wp2_with fail
      go_loopw [5, 7] (fun nv mv wq => ∃ i x : Nat, mv = .int .i64 ((i : Nat) : Int) ∧ nv = .int .i64 ((x : Nat) : Int) ∧ Hid (a + Mo.ml z (i - 1) = x) ∧ 1 ≤ i ∧ i ≤ m ∧ wq = wr) (fun _ mv _ => m - (intOf mv).toNat)
      case atStart => exact ⟨1, a, rfl, rfl, rfl, by decide, f3, rfl⟩
      case round =>
        obtain ⟨i, x, rfl, rfl, hx, hi0, hi1, rfl⟩ := hrel
        have hxb : x ≤ 2933263 := by
          have h1 := HML.out (i - 1) 12 (by omega)
          have h2 := HMY.out
          have h3 := hx.out
          omega
        by_cases hi : i < m
        · have hiI : (i : Int) < (m : Int) := by omega
          obtain ⟨b, hb⟩ : ∃ b, Mo.md z i = b := ⟨_, rfl⟩
          have hbb : b ≤ 31 := by rw [← hb]; exact (Mo.md_pos z i).2
          have HK := Hid.mk' (fun w => HL.out i w hi0 (by omega))
          rw [hb] at HK
          have HS : Hid (a + Mo.ml z (i + 1 - 1) = x + b) := by
            show a + Mo.ml z (i + 1 - 1) = x + b
            have : i = i - 1 + 1 := by omega
            rw [show i + 1 - 1 = i by omega, this, Mo.ml, ← this, hb, ← hx.out]
            omega
          clear hb
          go_wp2_with (go_at_call 70; refine (HK.out _).mono ?_; rintro e w' ⟨rfl, hw'⟩; have hw2 := hw'.symm; subst hw2)
          go_roundw
          case rel => exact ⟨i + 1, x + b, by first | rfl | exact int_eq (by omega), by first | rfl | exact int_eq (by omega), HS, by omega, by omega, by first | rfl | assumption⟩
          case measure => simp [intOf]; omega
        · obtain rfl : i = m := by omega
          clear hi
          have hof : Hid (((Mo.of z i d h mi s ms : Nat) : Int) = ((x : Int) + (d : Int) - 1) * 86400000 + ((((h : Int) * 60 + (mi : Int)) * 60 + (s : Int)) * 1000) + (ms : Int)) := by
            show _ = _
            unfold Mo.of
            rw [ha.out, hx.out]
            omega
          go_wp2_with fail
          go_ret2
          exact ⟨tup_ii (by have := hof.out; omega) rfl, B1.out⟩
end Go.Proofs.YthmpokndffbkdaaGreatDoor
