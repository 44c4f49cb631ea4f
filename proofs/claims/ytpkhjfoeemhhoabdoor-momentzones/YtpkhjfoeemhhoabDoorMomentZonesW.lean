/-
  The law MomentZones is true. Conditions: ints; the tables lie as the programs' texts lay them.
-/
import Derived.Test.YtpkhjfoeemhhoabDoorZn12
namespace Go.Proofs.YtpkhjfoeemhhoabDoor
open Go.RowKit
set_option linter.unusedVariables false
theorem of_day {N y m d : Nat} (A : Mo.IsDay N y m d) (h mi s ms : Nat) : Mo.of y m d h mi s ms = N * 86400000 + h * 3600000 + mi * 60000 + s * 1000 + ms := by
  have := A.num
  unfold Mo.of
  rw [show Mo.ys y + Mo.ml y (m - 1) + d - 1 = N by omega]
theorem ok_day {N y m d h mi s ms : Nat} (A : Mo.IsDay N y m d) (a4 : h < 24) (a5 : mi < 60) (a6 : s < 60) (a7 : ms < 1000) : Mo.ok y m d h mi s ms = true := by
  have := A.y0
  have := A.y1
  have := A.m0
  have := A.m1
  have := A.d0
  have := A.d1
  simp only [Mo.ok, Mo.dayOK, Mo.timeOK, Bool.and_eq_true, decide_eq_true_eq, Int.toNat_natCast]
  omega
theorem take_sh (y m d h mi s ms : Nat) (r : List Nat) : (Mo.sh y m d h mi s ms).take 23 ++ r = dg 4 y ++ ([45] ++ (dg 2 m ++ ([45] ++ (dg 2 d ++ ([84] ++ (dg 2 h ++ ([58] ++ (dg 2 mi ++ ([58] ++ (dg 2 s ++ ([46] ++ (dg 3 ms ++ r)))))))))))) := by
  simp [Mo.sh, dg, Nat.div_div_eq_div_mul]
theorem readZ (n : Nat) (t u : ByteArray) (sg zh zm : Nat) (sgI : Int) (w : World) (hn : n ≤ 253402300799999) (ht : ShT n t) (hz : zh < 24) (hm : zm < 60) (hsg : (sg = 43 ∧ sgI = 1) ∨ (sg = 45 ∧ sgI = -1)) (hu : Sums.bl u = (Sums.bl t).take 23 ++ ([sg] ++ (dg 2 zh ++ ([58] ++ (dg 2 zm ++ []))))) :
    Calls Tryd.prog 13 #[.string u] w fun e w' => e = (if 0 ≤ (n : Int) - sgI * ((zh : Int) * 3600000 + (zm : Int) * 60000) ∧ (n : Int) - sgI * ((zh : Int) * 3600000 + (zm : Int) * 60000) ≤ 253402300799999 then .returned (.tuple #[.int .i64 ((n : Int) - sgI * ((zh : Int) * 3600000 + (zm : Int) * 60000)), .int .i64 0]) else .returned (.tuple #[.int .i64 0, .int .i64 120])) ∧ Below w.heap.size w w' := by
  obtain ⟨y, m, d, A, ea⟩ := ht.ex
  have hr := read_any u w
  rw [hu, ea, take_sh] at hr
  have ya := A.y1
  have ma := A.m1
  have da := A.d1
  have da2 := (Mo.md_pos y m).2
  have e := read_TZ (y := y) (m := m) (d := d) (h := n % 86400000 / 3600000) (mi := n % 86400000 % 3600000 / 60000) (s := n % 86400000 % 60000 / 1000) (ms := n % 86400000 % 1000) (sg := sg) (zh := zh) (zm := zm) (by omega) (by omega) (by omega) (by omega) (by omega) (by omega) (by omega) (by omega) (by omega) (by omega)
  unfold TZ at e
  rw [e] at hr
  have hok : Mo.ok y m d (n % 86400000 / 3600000) (n % 86400000 % 3600000 / 60000) (n % 86400000 % 60000 / 1000) (n % 86400000 % 1000) = true := ok_day A (by omega) (by omega) (by omega) (by omega)
  have hof := of_day A (n % 86400000 / 3600000) (n % 86400000 % 3600000 / 60000) (n % 86400000 % 60000 / 1000) (n % 86400000 % 1000)
  have hof2 : Mo.of y m d (n % 86400000 / 3600000) (n % 86400000 % 3600000 / 60000) (n % 86400000 % 60000 / 1000) (n % 86400000 % 1000) = n := by rw [hof]; omega
  have hsi : (if sg = 45 then (-1 : Int) else 1) = sgI := by
    rcases hsg with ⟨rfl, rfl⟩ | ⟨rfl, rfl⟩ <;> rfl
  unfold stR Mo.stOK Mo.stN at hr
  rw [hok, hof2, hsi, Bool.true_and] at hr
  refine hr.mono ?_
  rintro e' w' ⟨he, hb⟩
  refine ⟨?_, hb⟩
  rw [he]
  simp only [Bool.and_eq_true, decide_eq_true_eq]
  by_cases c : 0 ≤ (n : Int) - sgI * ((zh : Int) * 3600000 + (zm : Int) * 60000) ∧ (n : Int) - sgI * ((zh : Int) * 3600000 + (zm : Int) * 60000) ≤ 253402300799999
  · rw [if_pos c, if_pos ⟨⟨by omega, by omega⟩, c⟩]
  · rw [if_neg c, if_neg (fun x => c x.2)]
set_option maxRecDepth 100000 in
set_option maxHeartbeats 8000000 in
theorem momentZones_any (stamp hours minutes : Int) (w : World) (hs0 : -9223372036854775808 ≤ stamp) (hs1 : stamp ≤ 9223372036854775807) (hh0 : -9223372036854775808 ≤ hours) (hh1 : hours ≤ 9223372036854775807) (hm0 : -9223372036854775808 ≤ minutes) (hm1 : minutes ≤ 9223372036854775807) (hu : UnT w) (hp : Pow w) :
    Calls Tryd.prog 4 #[.int .i64 stamp, .int .i64 hours, .int .i64 minutes] w fun e w' => e = .returned (.bool true) ∧ Below w.heap.size w w' := by
  have HK := Hid.mk' (known_any w hu hp)
  have P1 := Hid.mk' (fun w => pick_any stamp 253402300800000 w hs0 hs1 (by decide) (by decide))
  have P2 := Hid.mk' (fun w => pick_any hours 24 w hh0 hh1 (by decide) (by decide))
  have P3 := Hid.mk' (fun w => pick_any minutes 60 w hm0 hm1 (by decide) (by decide))
  clear hu hp hs0 hs1 hh0 hh1 hm0 hm1
  go_enter Tryd.func4, Tryd.ntmps4
  go_wp2_with fail
  refine HK.out.mono ?_
  rintro e w1 ⟨rfl, hlw⟩
  have B1 := Hid.mk' hlw.bel
  clear hlw HK
  go_wp2_with fail
  refine (P1.out _).mono ?_
  rintro e w2 ⟨⟨n, hn, rfl⟩, hw⟩
  have hw2 := hw.symm
  subst hw2
  clear hw P1
  go_wp2_with fail
  refine (P2.out _).mono ?_
  rintro e w2 ⟨⟨h, hh, rfl⟩, hw⟩
  have hw2 := hw.symm
  subst hw2
  clear hw P2
  go_wp2_with fail
  refine (P3.out _).mono ?_
  rintro e w2 ⟨⟨m, hm, rfl⟩, hw⟩
  have hw2 := hw.symm
  subst hw2
  clear hw P3
  go_wp2_with fail
  refine (showT n _ (by omega)).mono ?_
  rintro e w4 ⟨⟨s, S1, rfl⟩, hb4⟩
  have B4 := Hid.mk' (B1.out.trans (hb4.mono B1.out.size))
  have HS1 := Hid.mk' S1
  clear hb4 B1 S1
  have z1 : (s.size : Int) = 24 := by have := HS1.out.size; omega
  have z3 := HS1.out.size
  obtain ⟨x1, hx1⟩ : ∃ x, h / 10 = x := ⟨_, rfl⟩
  obtain ⟨x2, hx2⟩ : ∃ x, h % 10 = x := ⟨_, rfl⟩
  obtain ⟨x3, hx3⟩ : ∃ x, m / 10 = x := ⟨_, rfl⟩
  obtain ⟨x4, hx4⟩ : ∃ x, m % 10 = x := ⟨_, rfl⟩
  have i1 : (h : Int) / 10 = (x1 : Int) := by omega
  have i2 : (h : Int) % 10 = (x2 : Int) := by omega
  have i3 : (m : Int) / 10 = (x3 : Int) := by omega
  have i4 : (m : Int) % 10 = (x4 : Int) := by omega
  have b1 : x1 ≤ 9 := by omega
  have b2 : x2 ≤ 9 := by omega
  have b3 : x3 ≤ 9 := by omega
  have b4 : x4 ≤ 9 := by omega
  have HX := Hid.mk' (And.intro hx1 (And.intro hx2 (And.intro hx3 hx4)))
  clear hx1 hx2 hx3 hx4
  have hcv : (convert 35 9 (.slice (some ⟨w4.heap.size, 0, none⟩) 5 5)).run Tryd.prog (w4.alloc (.cells #[.int .u8 (48 + (x1 : Int)), .int .u8 (48 + (x2 : Int)), .int .u8 58, .int .u8 (48 + (x3 : Int)), .int .u8 (48 + (x4 : Int))] 5)) = .ok (.string (strOfNums [48 + (x1 : Int), 48 + (x2 : Int), 58, 48 + (x3 : Int), 48 + (x4 : Int)])) (w4.alloc (.cells #[.int .u8 (48 + (x1 : Int)), .int .u8 (48 + (x2 : Int)), .int .u8 58, .int .u8 (48 + (x3 : Int)), .int .u8 (48 + (x4 : Int))] 5)) := by
    refine run_convert_bytes_arg _ 35 5 Tryd.underlying35 Tryd.underlying5 w4.heap.size 0 5 5 [48 + (x1 : Int), 48 + (x2 : Int), 58, 48 + (x3 : Int), 48 + (x4 : Int)] rfl (fun i hi => ?_) 9 Tryd.underlying9
    rw [Nat.zero_add, World.cell?_alloc_new]
    rcases (show i = 0 ∨ i = 1 ∨ i = 2 ∨ i = 3 ∨ i = 4 by omega) with rfl | rfl | rfl | rfl | rfl <;> rfl
  obtain ⟨zt, hzt⟩ : ∃ zt, strOfNums [48 + (x1 : Int), 48 + (x2 : Int), 58, 48 + (x3 : Int), 48 + (x4 : Int)] = zt := ⟨_, rfl⟩
  have hbz : Sums.bl zt = dg 2 h ++ ([58] ++ (dg 2 m ++ [])) := by
    have e : strOfNums [48 + (x1 : Int), 48 + (x2 : Int), 58, 48 + (x3 : Int), 48 + (x4 : Int)] = nums [48 + x1, 48 + x2, 58, 48 + x3, 48 + x4] := rfl
    rw [← hzt, e, bl_nums _ (by intro z hz; simp only [List.mem_cons, List.not_mem_nil, or_false] at hz; omega)]
    obtain ⟨h1, h2, h3, h4⟩ := HX.out
    simp only [dg, List.nil_append, List.append_nil, List.cons_append, List.cons.injEq, and_true, true_and]
    omega
  rw [hzt] at hcv
  have hzs : zt.size = 5 := by rw [← Sums.bl_length, hbz]; rfl
  have hzsI : (zt.size : Int) = 5 := by omega
  have HBZ := Hid.mk' hbz
  have hex : (s.extract 0 23).size = 23 := by rw [← Sums.bl_length, Sums.bl_take, List.length_take, Sums.bl_length, z3]; rfl
  have hexI : ((s.extract 0 23).size : Int) = 23 := by omega
  clear hzt hbz
  obtain ⟨Z, hZ⟩ : ∃ Z, (h * 60 + m) * 60000 = Z := ⟨_, rfl⟩
  have hZI : ((h : Int) * 60 + (m : Int)) * 60000 = (Z : Int) := by omega
  have hZb : Z ≤ 100000000 := by omega
  have hZ2 : (h : Int) * 3600000 + (m : Int) * 60000 = (Z : Int) := by omega
  have R1 := Hid.mk' (fun w => readZ n s (s.extract 0 23 ++ ⟨#[43]⟩ ++ zt) 43 h m 1 w (by omega) HS1.out hh hm (.inl ⟨rfl, rfl⟩) (by rw [Sums.bl_append, Sums.bl_append, Sums.bl_take, HBZ.out, List.append_assoc]; rfl))
  have R2 := Hid.mk' (fun w => readZ n s (s.extract 0 23 ++ ⟨#[45]⟩ ++ zt) 45 h m (-1) w (by omega) HS1.out hh hm (.inr ⟨rfl, rfl⟩) (by rw [Sums.bl_append, Sums.bl_append, Sums.bl_take, HBZ.out, List.append_assoc]; rfl))
  rw [hZ2] at R1 R2
  have q1 : (n : Int) - 1 * (Z : Int) = (n : Int) - (Z : Int) := by omega
  have q2 : (n : Int) - -1 * (Z : Int) = (n : Int) + (Z : Int) := by omega
  rw [q1] at R1
  rw [q2] at R2
  clear q1 q2 hZ hZ2
  obtain ⟨A1, C1, hr1, ht1⟩ : ∃ A1 C1 : Int, (if 0 ≤ (n : Int) - (Z : Int) ∧ (n : Int) - (Z : Int) ≤ 253402300799999 then Ending.returned (.tuple #[.int .i64 ((n : Int) - (Z : Int)), .int .i64 0]) else .returned (.tuple #[.int .i64 0, .int .i64 120])) = .returned (.tuple #[.int .i64 A1, .int .i64 C1]) ∧ ((Z ≤ n ∧ A1 = (n : Int) - (Z : Int) ∧ C1 = 0) ∨ (n < Z ∧ A1 = 0 ∧ C1 = 120)) := by
    by_cases c : Z ≤ n
    · exact ⟨_, _, by rw [if_pos ⟨by omega, by omega⟩], .inl ⟨c, rfl, rfl⟩⟩
    · exact ⟨_, _, by rw [if_neg (by omega)], .inr ⟨by omega, rfl, rfl⟩⟩
  obtain ⟨A2, C2, hr2, ht2⟩ : ∃ A2 C2 : Int, (if 0 ≤ (n : Int) + (Z : Int) ∧ (n : Int) + (Z : Int) ≤ 253402300799999 then Ending.returned (.tuple #[.int .i64 ((n : Int) + (Z : Int)), .int .i64 0]) else .returned (.tuple #[.int .i64 0, .int .i64 120])) = .returned (.tuple #[.int .i64 A2, .int .i64 C2]) ∧ ((n + Z ≤ 253402300799999 ∧ A2 = (n : Int) + (Z : Int) ∧ C2 = 0) ∨ (253402300799999 < n + Z ∧ A2 = 0 ∧ C2 = 120)) := by
    by_cases c : n + Z ≤ 253402300799999
    · exact ⟨_, _, by rw [if_pos ⟨by omega, by omega⟩], .inl ⟨c, rfl, rfl⟩⟩
    · exact ⟨_, _, by rw [if_neg (by omega)], .inr ⟨by omega, rfl, rfl⟩⟩
  rw [hr1] at R1
  rw [hr2] at R2
  have HT1 := Hid.mk' ht1
  have HT2 := Hid.mk' ht2
  clear hr1 hr2 ht1 ht2
  go_wp2_with fail
  have B5 := Hid.mk' (B4.out.alloc B4.out.size (.cells #[.int .u8 (48 + (x1 : Int)), .int .u8 (48 + (x2 : Int)), .int .u8 58, .int .u8 (48 + (x3 : Int)), .int .u8 (48 + (x4 : Int))] 5))
  generalize (w4.alloc _) = w5 at *
  refine (R1.out _).mono ?_
  rintro e w6 ⟨rfl, hb6⟩
  have B6 := Hid.mk' (B5.out.trans (hb6.mono B5.out.size))
  clear hb6 B5 R1
  go_wp2_with fail
  refine (R2.out _).mono ?_
  rintro e w7 ⟨rfl, hb7⟩
  have B7 := Hid.mk' (B6.out.trans (hb7.mono B6.out.size))
  clear hb7 B6 R2
  obtain ⟨p, hp⟩ : ∃ p, n + Z = p := ⟨_, rfl⟩
  have hpI : (n : Int) + (Z : Int) = (p : Int) := by omega
  have hpb : p ≤ 300000000000000 := by omega
  rcases HT1.out with ⟨c1, rfl, rfl⟩ | ⟨c1, rfl, rfl⟩
  · have d1 : ¬ (n : Int) < (Z : Int) := by omega
    have d1n : ¬ n < Z := by omega
    have d1b : decide ((n : Int) < (Z : Int)) = false := by simp; omega
    obtain ⟨r, hr⟩ : ∃ r, n - Z = r := ⟨_, rfl⟩
    have hrI : (n : Int) - (Z : Int) = (r : Int) := by omega
    rcases HT2.out with ⟨c2, rfl, rfl⟩ | ⟨c2, rfl, rfl⟩
    · have d2 : ¬ (253402300799999 : Int) < (p : Int) := by omega
      clear hp hr c1 c2
      go_wp2_with fail
      go_ret
      exact ⟨rfl, B7.out⟩
    · have d2 : (253402300799999 : Int) < (p : Int) := by omega
      clear hp hr c1 c2
      go_wp2_with fail
      go_ret
      exact ⟨rfl, B7.out⟩
  · have d1 : (n : Int) < (Z : Int) := by omega
    have d1b : decide ((n : Int) < (Z : Int)) = true := by simp; omega
    rcases HT2.out with ⟨c2, rfl, rfl⟩ | ⟨c2, rfl, rfl⟩
    · have d2 : ¬ (253402300799999 : Int) < (p : Int) := by omega
      clear hp c2
      go_wp2_with fail
      go_ret
      exact ⟨rfl, B7.out⟩
    · have d2 : (253402300799999 : Int) < (p : Int) := by omega
      clear hp c2
      go_wp2_with fail
      go_ret
      exact ⟨rfl, B7.out⟩
end Go.Proofs.YtpkhjfoeemhhoabDoor
