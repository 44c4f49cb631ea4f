/-
  moment: what is told as a stamp. Conditions: numbers of a text.
-/
import Derived.Test.YthmpokndffbkdaaDoorMoO
namespace Go.Proofs.YthmpokndffbkdaaDoor
open Go.RowKit
set_option linter.unusedVariables false
def toldV (y m d h mi s ms : Nat) (sg : Int) (zh zm : Nat) : Value := .agg #[.int .i64 (y : Int), .int .i64 (m : Int), .int .i64 (d : Int), .int .i64 (h : Int), .int .i64 (mi : Int), .int .i64 (s : Int), .int .i64 (ms : Int), .int .i64 sg, .int .i64 (zh : Int), .int .i64 (zm : Int)]
theorem millis_any (sg : Int) (zh zm : Nat) (w : World) (hs : sg = 0 ∨ sg = 1 ∨ sg = -1) (hh : zh ≤ 99) (hm : zm ≤ 99) :
    Calls Tryd.prog 69 #[.agg #[.int .i64 sg, .int .i64 (zh : Int), .int .i64 (zm : Int)]] w fun e w' => e = .returned (.int .i64 (sg * ((zh : Int) * 3600000 + (zm : Int) * 60000))) ∧ Below w.heap.size w w' := by
  have HB : Hid (∀ o, Below w.heap.size w (w.alloc o)) := fun o => (Below.refl w.heap.size w).alloc (Nat.le_refl _) o
  rcases hs with rfl | rfl | rfl
  all_goals
    go_enter Tryd.func69, Tryd.ntmps69
    go_wp2
    go_ret
    exact ⟨ret_i64 (by simp), HB.out _⟩
def _root_.Mo.ok (y m d h mi s ms : Nat) : Bool := Mo.dayOK (y : Int) (m : Int) (d : Int) && Mo.timeOK (h : Int) (mi : Int) (s : Int) (ms : Int)
def _root_.Mo.stN (y m d h mi s ms : Nat) (sg : Int) (zh zm : Nat) : Int := ((Mo.of y m d h mi s ms : Nat) : Int) - sg * ((zh : Int) * 3600000 + (zm : Int) * 60000)
def _root_.Mo.stOK (y m d h mi s ms : Nat) (sg : Int) (zh zm : Nat) : Bool := Mo.ok y m d h mi s ms && decide (zh ≤ 23) && decide (zm ≤ 59) && decide (0 ≤ Mo.stN y m d h mi s ms sg zh zm ∧ Mo.stN y m d h mi s ms sg zh zm ≤ 253402300799999)
def stR (y m d h mi s ms : Nat) (sg : Int) (zh zm : Nat) : Ending := if Mo.stOK y m d h mi s ms sg zh zm = true then .returned (.tuple #[.int .i64 (Mo.stN y m d h mi s ms sg zh zm), .int .i64 0]) else .returned (.tuple #[.int .i64 0, .int .i64 120])
theorem _root_.Mo.ok_facts {y m d h mi s ms : Nat} (h0 : Mo.ok y m d h mi s ms = true) : (1970 ≤ y ∧ y ≤ 9999 ∧ 1 ≤ m ∧ m ≤ 12 ∧ 1 ≤ d ∧ d ≤ Mo.md y m) ∧ h ≤ 23 ∧ mi ≤ 59 ∧ s ≤ 59 ∧ ms ≤ 999 := by
  simp only [Mo.ok, Mo.dayOK, Mo.timeOK, Bool.and_eq_true, decide_eq_true_eq, Int.toNat_natCast] at h0
  omega
theorem _root_.Mo.of_le {y m d h mi s ms : Nat} (h0 : Mo.ok y m d h mi s ms = true) : Mo.of y m d h mi s ms ≤ 253402300799999 := by
  obtain ⟨⟨a, b, c, e, f, g⟩, i, j, k, l⟩ := Mo.ok_facts h0
  have hd : Mo.IsDay (Mo.ys y + Mo.ml y (m - 1) + d - 1) y m d := ⟨a, b, c, e, f, g, by omega⟩
  have := hd.le
  unfold Mo.of
  omega
set_option maxRecDepth 100000 in
set_option maxHeartbeats 4000000 in
theorem stamp_any (y m d h mi s ms : Nat) (sg : Int) (zh zm : Nat) (w : World) (hs : sg = 0 ∨ sg = 1 ∨ sg = -1) (hh : zh ≤ 99) (hm : zm ≤ 99) :
    Calls Tryd.prog 51 #[toldV y m d h mi s ms sg zh zm] w fun e w' => e = stR y m d h mi s ms sg zh zm ∧ Below w.heap.size w w' := by
  have HMI := Hid.mk' (fun w => millis_any sg zh zm w hs hh hm)
  cases hok : Mo.ok y m d h mi s ms
  · have hr : stR y m d h mi s ms sg zh zm = .returned (.tuple #[.int .i64 0, .int .i64 120]) := by
      unfold stR Mo.stOK
      rw [hok]; rfl
    rw [hr]
    have HO := Hid.mk' (fun w => of_bad (y : Int) (m : Int) (d : Int) (h : Int) (mi : Int) (s : Int) (ms : Int) w hok)
    clear hr hok
    unfold toldV
    unfold dateV at HO
    go_enter Tryd.func51, Tryd.ntmps51
    go_wp2_with fail
    have B0 := Hid.mk' (bel_box0 w #[.int .i64 (y : Int), .int .i64 (m : Int), .int .i64 (d : Int), .int .i64 (h : Int), .int .i64 (mi : Int), .int .i64 (s : Int), .int .i64 (ms : Int), .int .i64 sg, .int .i64 (zh : Int), .int .i64 (zm : Int)] 76)
    generalize (w.alloc _) = w0 at *
    refine (HO.out _).mono ?_
    rintro e w1 ⟨rfl, hb1⟩
    have B1 := Hid.mk' (B0.out.trans (hb1.mono B0.out.size))
    clear hb1 B0
    go_wp2_with fail
    go_ret2
    exact ⟨rfl, B1.out⟩
  · obtain ⟨⟨a, b, c, e, f, g⟩, i, j, k, l⟩ := Mo.ok_facts hok
    have HO := Hid.mk' (fun w => of_any y m d h mi s ms w a b c e f g i j k l)
    have hNb := Mo.of_le hok
    have hz : stR y m d h mi s ms sg zh zm = if zh ≤ 23 ∧ zm ≤ 59 ∧ (0 ≤ Mo.stN y m d h mi s ms sg zh zm ∧ Mo.stN y m d h mi s ms sg zh zm ≤ 253402300799999) then .returned (.tuple #[.int .i64 (Mo.stN y m d h mi s ms sg zh zm), .int .i64 0]) else .returned (.tuple #[.int .i64 0, .int .i64 120]) := by
      unfold stR Mo.stOK
      rw [hok, Bool.true_and]
      simp only [Bool.and_eq_true, decide_eq_true_eq, and_assoc]
    rw [hz]
    unfold Mo.stN
    obtain ⟨N, hN⟩ : ∃ N, Mo.of y m d h mi s ms = N := ⟨_, rfl⟩
    rw [hN] at HO hNb ⊢
    obtain ⟨Z, hZ⟩ : ∃ Z, sg * ((zh : Int) * 3600000 + (zm : Int) * 60000) = Z := ⟨_, rfl⟩
    have hZb : -1000000000 ≤ Z ∧ Z ≤ 1000000000 := by
      rw [← hZ]
      rcases hs with rfl | rfl | rfl <;> omega
    rw [hZ] at HMI ⊢
    clear hz hok a b c e f g i j k l hN hZ
    unfold toldV
    unfold dateV at HO
    have HS := Hid.mk' (stamp_is ((N : Int) - Z))
    by_cases hz1 : zh ≤ 23
    · have g1 : ¬ (23 : Int) < (zh : Int) := by omega
      have g1b : decide ((23 : Int) < (zh : Int)) = false := by simp; omega
      by_cases hz2 : zm ≤ 59
      · have g2 : ¬ (59 : Int) < (zm : Int) := by omega
        have g2b : decide ((59 : Int) < (zm : Int)) = false := by simp; omega
        have fin : ∀ (zz : Bool), decide (0 ≤ (N : Int) - Z ∧ (N : Int) - Z ≤ 253402300799999) = zz → (if zh ≤ 23 ∧ zm ≤ 59 ∧ (0 ≤ (N : Int) - Z ∧ (N : Int) - Z ≤ 253402300799999) then Ending.returned (.tuple #[.int .i64 ((N : Int) - Z), .int .i64 0]) else .returned (.tuple #[.int .i64 0, .int .i64 120])) = if zz = true then Ending.returned (.tuple #[.int .i64 ((N : Int) - Z), .int .i64 0]) else .returned (.tuple #[.int .i64 0, .int .i64 120]) := by
          intro zz hzz
          rw [← hzz]
          simp only [hz1, hz2, true_and, decide_eq_true_eq]
        obtain ⟨zz, hzz⟩ : ∃ zz, decide (0 ≤ (N : Int) - Z ∧ (N : Int) - Z ≤ 253402300799999) = zz := ⟨_, rfl⟩
        rw [fin zz hzz]
        have HS2 := Hid.mk' (HS.out zz hzz)
        clear fin hzz HS hz1 hz2
        cases zz
        all_goals
          simp only [Bool.false_eq_true, if_false, if_true]
          go_enter Tryd.func51, Tryd.ntmps51
          go_wp2_with fail
          have B0 := Hid.mk' (bel_box0 w #[.int .i64 (y : Int), .int .i64 (m : Int), .int .i64 (d : Int), .int .i64 (h : Int), .int .i64 (mi : Int), .int .i64 (s : Int), .int .i64 (ms : Int), .int .i64 sg, .int .i64 (zh : Int), .int .i64 (zm : Int)] 76)
          have c7 := box_cell w #[.int .i64 (y : Int), .int .i64 (m : Int), .int .i64 (d : Int), .int .i64 (h : Int), .int .i64 (mi : Int), .int .i64 (s : Int), .int .i64 (ms : Int), .int .i64 sg, .int .i64 (zh : Int), .int .i64 (zm : Int)] 76 0 7 _ rfl
          have c8 := box_cell w #[.int .i64 (y : Int), .int .i64 (m : Int), .int .i64 (d : Int), .int .i64 (h : Int), .int .i64 (mi : Int), .int .i64 (s : Int), .int .i64 (ms : Int), .int .i64 sg, .int .i64 (zh : Int), .int .i64 (zm : Int)] 76 0 8 _ rfl
          have c9 := box_cell w #[.int .i64 (y : Int), .int .i64 (m : Int), .int .i64 (d : Int), .int .i64 (h : Int), .int .i64 (mi : Int), .int .i64 (s : Int), .int .i64 (ms : Int), .int .i64 sg, .int .i64 (zh : Int), .int .i64 (zm : Int)] 76 0 9 _ rfl
          have S0 : w.heap.size < (w.alloc (.cells #[.int .i64 (y : Int), .int .i64 (m : Int), .int .i64 (d : Int), .int .i64 (h : Int), .int .i64 (mi : Int), .int .i64 (s : Int), .int .i64 (ms : Int), .int .i64 sg, .int .i64 (zh : Int), .int .i64 (zm : Int)] 76)).heap.size := by simp
          change (w.alloc _).cell? _ = _ at c7
          change (w.alloc _).cell? _ = _ at c8
          change (w.alloc _).cell? _ = _ at c9
          generalize (w.alloc _) = w0 at *
          refine (HO.out _).mono ?_
          rintro e w1 ⟨rfl, hb1⟩
          have d7 := cell_below hb1 S0 c7
          have d8 := cell_below hb1 S0 c8
          have d9 := cell_below hb1 S0 c9
          have B1 := Hid.mk' (B0.out.trans (hb1.mono B0.out.size))
          clear hb1 B0 c7 c8 c9 S0
          go_wp2_with fail
          refine (HMI.out _).mono ?_
          rintro e w2 ⟨rfl, hb2⟩
          have B2 := Hid.mk' (B1.out.trans (hb2.mono B1.out.size))
          clear hb2 B1 d7 d8 d9
          go_wp2_with (go_at_call 33; refine (HS2.out _).mono ?_; rintro e w' ⟨rfl, hw'⟩; have hw2 := hw'.symm; subst hw2)
          go_ret2
          exact ⟨rfl, B2.out⟩
      · have g2 : (59 : Int) < (zm : Int) := by omega
        have g2b : decide ((59 : Int) < (zm : Int)) = true := by simp; omega
        rw [if_neg (by omega)]
        clear hz1 hz2
        go_enter Tryd.func51, Tryd.ntmps51
        go_wp2_with fail
        have B0 := Hid.mk' (bel_box0 w #[.int .i64 (y : Int), .int .i64 (m : Int), .int .i64 (d : Int), .int .i64 (h : Int), .int .i64 (mi : Int), .int .i64 (s : Int), .int .i64 (ms : Int), .int .i64 sg, .int .i64 (zh : Int), .int .i64 (zm : Int)] 76)
        have c8 := box_cell w #[.int .i64 (y : Int), .int .i64 (m : Int), .int .i64 (d : Int), .int .i64 (h : Int), .int .i64 (mi : Int), .int .i64 (s : Int), .int .i64 (ms : Int), .int .i64 sg, .int .i64 (zh : Int), .int .i64 (zm : Int)] 76 0 8 _ rfl
        have c9 := box_cell w #[.int .i64 (y : Int), .int .i64 (m : Int), .int .i64 (d : Int), .int .i64 (h : Int), .int .i64 (mi : Int), .int .i64 (s : Int), .int .i64 (ms : Int), .int .i64 sg, .int .i64 (zh : Int), .int .i64 (zm : Int)] 76 0 9 _ rfl
        have S0 : w.heap.size < (w.alloc (.cells #[.int .i64 (y : Int), .int .i64 (m : Int), .int .i64 (d : Int), .int .i64 (h : Int), .int .i64 (mi : Int), .int .i64 (s : Int), .int .i64 (ms : Int), .int .i64 sg, .int .i64 (zh : Int), .int .i64 (zm : Int)] 76)).heap.size := by simp
        change (w.alloc _).cell? _ = _ at c8
        change (w.alloc _).cell? _ = _ at c9
        generalize (w.alloc _) = w0 at *
        refine (HO.out _).mono ?_
        rintro e w1 ⟨rfl, hb1⟩
        have d8 := cell_below hb1 S0 c8
        have d9 := cell_below hb1 S0 c9
        have B1 := Hid.mk' (B0.out.trans (hb1.mono B0.out.size))
        clear hb1 B0 c8 c9 S0
        go_wp2_with fail
        go_ret2
        exact ⟨rfl, B1.out⟩
    · have g1 : (23 : Int) < (zh : Int) := by omega
      have g1b : decide ((23 : Int) < (zh : Int)) = true := by simp; omega
      rw [if_neg (by omega)]
      clear hz1
      go_enter Tryd.func51, Tryd.ntmps51
      go_wp2_with fail
      have B0 := Hid.mk' (bel_box0 w #[.int .i64 (y : Int), .int .i64 (m : Int), .int .i64 (d : Int), .int .i64 (h : Int), .int .i64 (mi : Int), .int .i64 (s : Int), .int .i64 (ms : Int), .int .i64 sg, .int .i64 (zh : Int), .int .i64 (zm : Int)] 76)
      have c8 := box_cell w #[.int .i64 (y : Int), .int .i64 (m : Int), .int .i64 (d : Int), .int .i64 (h : Int), .int .i64 (mi : Int), .int .i64 (s : Int), .int .i64 (ms : Int), .int .i64 sg, .int .i64 (zh : Int), .int .i64 (zm : Int)] 76 0 8 _ rfl
      have S0 : w.heap.size < (w.alloc (.cells #[.int .i64 (y : Int), .int .i64 (m : Int), .int .i64 (d : Int), .int .i64 (h : Int), .int .i64 (mi : Int), .int .i64 (s : Int), .int .i64 (ms : Int), .int .i64 sg, .int .i64 (zh : Int), .int .i64 (zm : Int)] 76)).heap.size := by simp
      change (w.alloc _).cell? _ = _ at c8
      generalize (w.alloc _) = w0 at *
      refine (HO.out _).mono ?_
      rintro e w1 ⟨rfl, hb1⟩
      have d8 := cell_below hb1 S0 c8
      have B1 := Hid.mk' (B0.out.trans (hb1.mono B0.out.size))
      clear hb1 B0 c8 S0
      go_wp2_with fail
      go_ret2
      exact ⟨rfl, B1.out⟩
end Go.Proofs.YthmpokndffbkdaaDoor
