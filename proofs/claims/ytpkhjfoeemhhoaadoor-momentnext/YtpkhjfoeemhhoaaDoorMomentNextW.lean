/-
  The law MomentNext is true. Conditions: an int; the tables lie as the programs' texts lay them.
-/
import Derived.Test.YtpkhjfoeemhhoaaDoorLg12
import Derived.Test.YtpkhjfoeemhhoaaDoorEq12
namespace Go.Proofs.YtpkhjfoeemhhoaaDoor
open Go.RowKit
set_option linter.unusedVariables false
set_option linter.unusedSimpArgs false
theorem dateN (n : Nat) (w : World) (hn : n ≤ 253402300799999) (N T h mi s ms : Nat) (hN : n / 86400000 = N) (hT : n % 86400000 = T) (hh : T / 3600000 = h) (hmi : T % 3600000 / 60000 = mi) (hs : T % 60000 / 1000 = s) (hms : T % 1000 = ms) :
    Calls Tryd.prog 11 #[.int .i64 (n : Int)] w fun e w' => (∃ y m d, Mo.IsDay N y m d ∧ e = .returned (.tuple #[dateV (y : Int) (m : Int) (d : Int) (h : Int) (mi : Int) (s : Int) (ms : Int), .int .i64 0])) ∧ Below w.heap.size w w' := by
  have := date_any n w hn
  rw [hN, hT, hh, hmi, hs, hms] at this
  exact this
theorem row_cells {g : Nat} {a0 a1 a2 a3 a4 a5 a6 : Int} {w : World} {t : TypeId} (h : w.heap[g]? = some (.cells #[.int .i64 a0, .int .i64 a1, .int .i64 a2, .int .i64 a3, .int .i64 a4, .int .i64 a5, .int .i64 a6] t (0, 0))) : DateAt g a0 a1 a2 a3 a4 a5 a6 w :=
  ⟨by simp [World.cell?, h], by simp [World.cell?, h], by simp [World.cell?, h], by simp [World.cell?, h], by simp [World.cell?, h], by simp [World.cell?, h], by simp [World.cell?, h]⟩
set_option maxRecDepth 100000 in
set_option maxHeartbeats 60000000 in
theorem momentNext_any (stamp : Int) (w : World) (hs0 : -9223372036854775808 ≤ stamp) (hs1 : stamp ≤ 9223372036854775807) (hu : UnT w) (hp : Pow w) :
    Calls Tryd.prog 6 #[.int .i64 stamp] w fun e w' => e = .returned (.bool true) ∧ Below w.heap.size w w' := by
  have HK := Hid.mk' (known_any w hu hp)
  have P1 := Hid.mk' (fun w => pick_any stamp 253402214400000 w hs0 hs1 (by decide) (by decide))
  clear hu hp hs0 hs1
  go_enter Tryd.func6, Tryd.ntmps6
  go_wp2_with fail
  refine HK.out.mono ?_
  rintro e w1 ⟨rfl, hlw⟩
  have B1 := Hid.mk' hlw.bel
  clear hlw HK
  go_wp2_with fail
  refine (P1.out _).mono ?_
  rintro e w2 ⟨⟨n, hn, rfl⟩, hw⟩
  have hw2 := hw.symm
  subst hw2
  clear hw P1
  obtain ⟨N, hN⟩ : ∃ N, n / 86400000 = N := ⟨_, rfl⟩
  obtain ⟨T, hT⟩ : ∃ T, n % 86400000 = T := ⟨_, rfl⟩
  obtain ⟨h, hh⟩ : ∃ h, T / 3600000 = h := ⟨_, rfl⟩
  obtain ⟨mi, hmi⟩ : ∃ h, T % 3600000 / 60000 = h := ⟨_, rfl⟩
  obtain ⟨s, hs⟩ : ∃ h, T % 60000 / 1000 = h := ⟨_, rfl⟩
  obtain ⟨ms, hms⟩ : ∃ h, T % 1000 = h := ⟨_, rfl⟩
  obtain ⟨q, hq⟩ : ∃ q, n + 86400000 = q := ⟨_, rfl⟩
  have hqI : (n : Int) + 86400000 = (q : Int) := by omega
  have hqN : q / 86400000 = N + 1 := by omega
  have hqT : q % 86400000 = T := by omega
  have DA := Hid.mk' (fun w => dateN n w (by omega) N T h mi s ms hN hT hh hmi hs hms)
  have DB := Hid.mk' (fun w => dateN q w (by omega) (N + 1) T h mi s ms hqN hqT hh hmi hs hms)
  have WA := Hid.mk' (fun w => weekday_any n w (by omega))
  have WB := Hid.mk' (fun w => weekday_any q w (by omega))
  rw [hN] at WA
  rw [hqN] at WB
  obtain ⟨v, hv⟩ : ∃ v, (N + 4) % 7 = v := ⟨_, rfl⟩
  obtain ⟨z, hz⟩ : ∃ z, (N + 1 + 4) % 7 = z := ⟨_, rfl⟩
  rw [hv] at WA
  rw [hz] at WB
  have hvz : ((v : Int) + 1) % 7 = (z : Int) := by omega
  have hv7 : v < 7 := by omega
  have hTI : (n : Int) % 86400000 = (T : Int) := by omega
  have hNb : N < 2932896 := by omega
  have bh : h ≤ 23 := by omega
  have bmi : mi ≤ 59 := by omega
  have bs : s ≤ 59 := by omega
  have bms : ms ≤ 999 := by omega
  have HTT : Hid ((((h : Int) * 60 + (mi : Int)) * 60 + (s : Int)) * 1000 + (ms : Int) = (T : Int)) := by show _ = _; omega
  clear hN hT hh hmi hs hms hq hqN hqT hv hz
  go_wp2_with fail
  refine (DA.out _).mono ?_
  rintro e w3 ⟨⟨y, m, d, hday, rfl⟩, hb⟩
  have B3 := Hid.mk' (B1.out.trans (hb.mono B1.out.size))
  clear hb DA B1
  unfold dateV
  go_wp2_with fail
  have rA := heap_alloc_new w3 (.cells #[.int .i64 (y : Int), .int .i64 (m : Int), .int .i64 (d : Int), .int .i64 (h : Int), .int .i64 (mi : Int), .int .i64 (s : Int), .int .i64 (ms : Int)] 23)
  have B4 := Hid.mk' (B3.out.alloc B3.out.size (.cells #[.int .i64 (y : Int), .int .i64 (m : Int), .int .i64 (d : Int), .int .i64 (h : Int), .int .i64 (mi : Int), .int .i64 (s : Int), .int .i64 (ms : Int)] 23))
  have hA : w3.heap.size < (w3.alloc (.cells #[.int .i64 (y : Int), .int .i64 (m : Int), .int .i64 (d : Int), .int .i64 (h : Int), .int .i64 (mi : Int), .int .i64 (s : Int), .int .i64 (ms : Int)] 23)).heap.size := by simp
  have hAw := B3.out.size
  clear B3
  generalize hGA : w3.heap.size = GA at *
  generalize (w3.alloc _) = w4 at *
  refine (DB.out _).mono ?_
  rintro e w5 ⟨⟨y2, m2, d2, hday2, rfl⟩, hb⟩
  have B5 := Hid.mk' (B4.out.trans (hb.mono B4.out.size))
  have rA5 := (hb.block GA hA).trans rA
  have hA5 : GA < w5.heap.size := Nat.lt_of_lt_of_le hA hb.size
  clear hb DB B4 rA hA
  unfold dateV
  go_wp2_with fail
  have rB := heap_alloc_new w5 (.cells #[.int .i64 (y2 : Int), .int .i64 (m2 : Int), .int .i64 (d2 : Int), .int .i64 (h : Int), .int .i64 (mi : Int), .int .i64 (s : Int), .int .i64 (ms : Int)] 23)
  have B6 := Hid.mk' (B5.out.alloc B5.out.size (.cells #[.int .i64 (y2 : Int), .int .i64 (m2 : Int), .int .i64 (d2 : Int), .int .i64 (h : Int), .int .i64 (mi : Int), .int .i64 (s : Int), .int .i64 (ms : Int)] 23))
  have rA6 := (Below.heap_alloc w5 (.cells #[.int .i64 (y2 : Int), .int .i64 (m2 : Int), .int .i64 (d2 : Int), .int .i64 (h : Int), .int .i64 (mi : Int), .int .i64 (s : Int), .int .i64 (ms : Int)] 23) GA hA5).trans rA5
  have hB : w5.heap.size < (w5.alloc (.cells #[.int .i64 (y2 : Int), .int .i64 (m2 : Int), .int .i64 (d2 : Int), .int .i64 (h : Int), .int .i64 (mi : Int), .int .i64 (s : Int), .int .i64 (ms : Int)] 23)).heap.size := by simp
  clear rA5 B5
  generalize hGB : w5.heap.size = GB at *
  generalize (w5.alloc _) = w6 at *
  refine (WA.out _).mono ?_
  rintro e w7 ⟨rfl, hw⟩
  have hw2 := hw.symm
  subst hw2
  clear hw WA
  go_wp2_with fail
  refine (WB.out _).mono ?_
  rintro e w8 ⟨rfl, hw⟩
  have hw2 := hw.symm
  subst hw2
  clear hw WB
  have hsame := hday2.same (hday.next hNb)
  have HD := Hid.mk' hday
  have LG := Hid.mk' (fun w => long_any y m w (by have := hday.y1; omega) hday.m0 hday.m1)
  obtain ⟨D, hD⟩ : ∃ D, Mo.md y m = D := ⟨_, rfl⟩
  have hDb : 28 ≤ D ∧ D ≤ 31 := by rw [← hD]; exact Mo.md_pos y m
  have hdD : d ≤ D := by rw [← hD]; exact hday.d1
  rw [hD] at LG hsame
  have cy0 := hday.y0
  have cy1 := hday.y1
  have cm0 := hday.m0
  have cm1 := hday.m1
  have cd0 := hday.d0
  have HSM := Hid.mk' hsame
  clear hday hday2 hD hsame
  have cA := row_cells rA6
  have HRA := Hid.mk' rA6
  have HRB := Hid.mk' rB
  obtain ⟨a0, a1, a2, a3, a4, a5, a6⟩ := cA
  have g1 : ¬ (m : Int) < 1 := by omega
  have g2 : ¬ (12 : Int) < (m : Int) := by omega
  have g1b : decide ((m : Int) < 1) = false := by simp; omega
  have g2b : decide ((12 : Int) < (m : Int)) = false := by simp; omega
  have g3b : decide ((y : Int) < 1970) = false := by simp; omega
  have g4b : decide ((9999 : Int) < (y : Int)) = false := by simp; omega
  have g5b : decide ((d : Int) < 1) = false := by simp; omega
  have g6b : decide ((D : Int) < (d : Int)) = false := by simp; omega
  have g6 : ¬ (D : Int) < (d : Int) := by omega
  clear rA6 rB
  go_wp2_with fail
  go_region_held3 (fun w' => w'.cell? ⟨GA, 0, none⟩ = some (.int .i64 (y : Int)) ∧ w'.cell? ⟨GA, 1, none⟩ = some (.int .i64 (m : Int)) ∧ w'.cell? ⟨GA, 2, none⟩ = some (.int .i64 (d : Int))) (first | go_keep | exact ⟨a0, a1, a2⟩ | exact ⟨z0, z1, z2⟩)
    ((go_at_call 25; refine (LG.out _).mono ?_; rintro e wz ⟨rfl, hbz⟩; have rAz := (hbz.block GA (Nat.lt_trans hA5 hB)).trans HRA.out; have rBz := (hbz.block GB hB).trans HRB.out; have hAz : GA < wz.heap.size := Nat.lt_of_lt_of_le (Nat.lt_trans hA5 hB) hbz.size; have hBz : GB < wz.heap.size := Nat.lt_of_lt_of_le hB hbz.size; have Bz := Hid.mk' (B6.out.trans (((Below.refl w.heap.size w6).drewN' 1).trans (hbz.mono B6.out.size))); have z0 := (row_cells rAz).c0; have z1 := (row_cells rAz).c1; have z2 := (row_cells rAz).c2; clear hbz))
  all_goals
    clear a0 a1 a2 a3 a4 a5 a6 HRA HRB B6 z0 z1 z2
    obtain ⟨a0, a1, a2, a3, a4, a5, a6⟩ := row_cells rAz
    obtain ⟨e1, he1⟩ : ∃ e1, d + 1 = e1 := ⟨_, rfl⟩
    have he1I : (d : Int) + 1 = (e1 : Int) := by omega
    have HE1 := Hid.mk' he1
    clear he1
    go_wp2_with fail
    have rC0 := heap_alloc_new wz (.cells #[.int .i64 (y : Int), .int .i64 (m : Int), .int .i64 (e1 : Int), .int .i64 (h : Int), .int .i64 (mi : Int), .int .i64 (s : Int), .int .i64 (ms : Int)] 23)
    have rA9 := (Below.heap_alloc wz (.cells #[.int .i64 (y : Int), .int .i64 (m : Int), .int .i64 (e1 : Int), .int .i64 (h : Int), .int .i64 (mi : Int), .int .i64 (s : Int), .int .i64 (ms : Int)] 23) GA hAz).trans rAz
    have rB9 := (Below.heap_alloc wz (.cells #[.int .i64 (y : Int), .int .i64 (m : Int), .int .i64 (e1 : Int), .int .i64 (h : Int), .int .i64 (mi : Int), .int .i64 (s : Int), .int .i64 (ms : Int)] 23) GB hBz).trans rBz
    have B9 := Hid.mk' (Bz.out.alloc Bz.out.size (.cells #[.int .i64 (y : Int), .int .i64 (m : Int), .int .i64 (e1 : Int), .int .i64 (h : Int), .int .i64 (mi : Int), .int .i64 (s : Int), .int .i64 (ms : Int)] 23))
    have hC : wz.heap.size < (wz.alloc (.cells #[.int .i64 (y : Int), .int .i64 (m : Int), .int .i64 (e1 : Int), .int .i64 (h : Int), .int .i64 (mi : Int), .int .i64 (s : Int), .int .i64 (ms : Int)] 23)).heap.size := by simp
    have hwC := Bz.out.size
    clear a0 a1 a2 a3 a4 a5 a6 rAz rBz Bz
    generalize hGC : wz.heap.size = GC at *
    generalize (wz.alloc _) = w9 at *
    have a0 := (row_cells rA9).c0
    have a1 := (row_cells rA9).c1
    have c2 := (row_cells rC0).c2
    have HRA := Hid.mk' rA9
    have HRB := Hid.mk' rB9
    have HRC := Hid.mk' rC0
    clear rA9 rB9 rC0
    go_region_held3 (fun w' => w'.cell? ⟨GA, 0, none⟩ = some (.int .i64 (y : Int)) ∧ w'.cell? ⟨GA, 1, none⟩ = some (.int .i64 (m : Int)) ∧ w'.cell? ⟨GC, 2, none⟩ = some (.int .i64 (e1 : Int))) (first | go_keep | exact ⟨a0, a1, c2⟩ | exact ⟨z0, z1, z2⟩)
      ((go_at_call 25; refine (LG.out _).mono ?_; rintro e wy ⟨rfl, hby⟩; have rAy := (hby.block GA (Nat.lt_trans hAz hC)).trans HRA.out; have rBy := (hby.block GB (Nat.lt_trans hBz hC)).trans HRB.out; have rCy := (hby.block GC hC).trans HRC.out; have By := Hid.mk' (B9.out.trans (((Below.refl w.heap.size w9).drewN' 1).trans (hby.mono B9.out.size))); have z0 := (row_cells rAy).c0; have z1 := (row_cells rAy).c1; have z2 := (row_cells rCy).c2; clear hby))
    all_goals
      clear a0 a1 c2 HRA HRB HRC B9 z0 z1 z2
      obtain ⟨a0, a1, a2, a3, a4, a5, a6⟩ := row_cells rAy
      obtain ⟨b0, b1, b2, b3, b4, b5, b6⟩ := row_cells rBy
      obtain ⟨c0, c1, c2, c3, c4, c5, c6⟩ := row_cells rCy
      have fr0 : wy.frozen? ⟨GC, 0, none⟩ = false := by simp [World.frozen?, rCy]
      have fr1 : wy.frozen? ⟨GC, 1, none⟩ = false := by simp [World.frozen?, rCy]
      have fr2 : wy.frozen? ⟨GC, 2, none⟩ = false := by simp [World.frozen?, rCy]
      have HRC := Hid.mk' rCy
      clear rAy rBy rCy
      have x1 : ¬ GA = GC := by omega
      have x2 : ¬ GC = GA := by omega
      have x3 : ¬ GB = GC := by omega
      have x4 : ¬ GC = GB := by omega
      have hT2 := HTT.out
      have k1 : decide ((0 : Int) ≤ (h : Int)) = true := by simp
      have k2 : decide ((h : Int) < 24) = true := by simp; omega
      have k3 : decide ((mi : Int) < 60) = true := by simp; omega
      have k4 : decide ((s : Int) < 60) = true := by simp; omega
      have k5 : decide ((ms : Int) < 1000) = true := by simp; omega
      have k6 : decide ((v : Int) < 7) = true := by simp; omega
      have hsm := HSM.out
      have hee := HE1.out
      by_cases q1 : d = D
      · have q1I : (D : Int) < (e1 : Int) := by omega
        by_cases q2 : m = 12
        · rw [if_pos ⟨q1, q2⟩, if_pos q1, if_pos q2, if_pos q1] at hsm
          obtain ⟨r1, r2, r3⟩ := hsm
          subst r2 r3
          have r1I : (y : Int) + 1 = (y2 : Int) := by omega
          have heq : ∀ w, (binOp .eql 23 (.agg #[.int .i64 (y2 : Int), .int .i64 1, .int .i64 1, .int .i64 (h : Int), .int .i64 (mi : Int), .int .i64 (s : Int), .int .i64 (ms : Int)]) (.agg #[.int .i64 (y2 : Int), .int .i64 1, .int .i64 1, .int .i64 (h : Int), .int .i64 (mi : Int), .int .i64 (s : Int), .int .i64 (ms : Int)])).run Tryd.prog w = .ok (.bool true) w := fun w => by rw [eql_date]; simp
          have hm13 : (m : Int) + 1 = 13 := by omega
          clear q1 q2 hee r1
          have g1 := only_set (o := 2) wy (.int .i64 1) HRC.out
          have g2 := only_set (o := 1) _ (.int .i64 13) g1.2
          have g3 := only_set (o := 1) _ (.int .i64 1) g2.2
          have g4 := only_set (o := 0) _ (.int .i64 (y2 : Int)) g3.2
          have HR4 : Hid ((((((wy.setCell ⟨GC, 2, none⟩ (.int .i64 1)).setCell ⟨GC, 1, none⟩ (.int .i64 13)).setCell ⟨GC, 1, none⟩ (.int .i64 1)).setCell ⟨GC, 0, none⟩ (.int .i64 (y2 : Int)))).heap[GC]? = some (.cells #[.int .i64 (y2 : Int), .int .i64 1, .int .i64 1, .int .i64 (h : Int), .int .i64 (mi : Int), .int .i64 (s : Int), .int .i64 (ms : Int)] 23 (0, 0))) := g4.2
          have HB4 := Hid.mk' (By.out.trans ((((g1.1.trans g2.1).trans g3.1).trans g4.1).below hwC By.out.size))
          clear g1 g2 g3 g4
          go_wp2_with (first | (refine wpList_load_row rfl 23 _ rfl GC rfl 23 _ _ _ HR4.out Tryd.underlying23 rfl (sizeDate _ rfl) ?_) | fail)
          go_ret
          exact ⟨rfl, HB4.out⟩
        · rw [if_neg (fun x => q2 x.2), if_pos q1, if_neg q2, if_pos q1] at hsm
          obtain ⟨r1, r2, r3⟩ := hsm
          subst r1 r3
          have r2I : (m : Int) + 1 = (m2 : Int) := by omega
          have r2J : ¬ (12 : Int) < (m2 : Int) := by omega
          have heq : ∀ w, (binOp .eql 23 (.agg #[.int .i64 (y2 : Int), .int .i64 (m2 : Int), .int .i64 1, .int .i64 (h : Int), .int .i64 (mi : Int), .int .i64 (s : Int), .int .i64 (ms : Int)]) (.agg #[.int .i64 (y2 : Int), .int .i64 (m2 : Int), .int .i64 1, .int .i64 (h : Int), .int .i64 (mi : Int), .int .i64 (s : Int), .int .i64 (ms : Int)])).run Tryd.prog w = .ok (.bool true) w := fun w => by rw [eql_date]; simp
          clear q1 q2 hee r2
          go_wp2_with fail
          go_ret
          have g1 := only_set (o := 2) wy (.int .i64 1) HRC.out
          have g2 := only_set (o := 1) _ (.int .i64 (m2 : Int)) g1.2
          exact ⟨rfl, By.out.trans ((g1.1.trans g2.1).below hwC By.out.size)⟩
      · have q1I : ¬ (D : Int) < (e1 : Int) := by omega
        rw [if_neg (fun x => q1 x.1), if_neg q1, if_neg q1] at hsm
        obtain ⟨r1, r2, r3⟩ := hsm
        subst r1 r2
        have r3b : d2 = e1 := by omega
        subst r3b
        have heq : ∀ w, (binOp .eql 23 (.agg #[.int .i64 (y2 : Int), .int .i64 (m2 : Int), .int .i64 (d2 : Int), .int .i64 (h : Int), .int .i64 (mi : Int), .int .i64 (s : Int), .int .i64 (ms : Int)]) (.agg #[.int .i64 (y2 : Int), .int .i64 (m2 : Int), .int .i64 (d2 : Int), .int .i64 (h : Int), .int .i64 (mi : Int), .int .i64 (s : Int), .int .i64 (ms : Int)])).run Tryd.prog w = .ok (.bool true) w := fun w => by rw [eql_date]; simp
        clear q1 hee r3
        go_wp2_with fail
        go_ret
        exact ⟨rfl, By.out⟩
end Go.Proofs.YtpkhjfoeemhhoaaDoor
