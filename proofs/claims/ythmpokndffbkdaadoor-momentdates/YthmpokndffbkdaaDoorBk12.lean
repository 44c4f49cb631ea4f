/-
  What the law MomentBack asks of Read, Date and Of. Conditions: ints.
-/
import Derived.Test.YthmpokndffbkdaaDoorZn12
import Derived.Test.YthmpokndffbkdaaDoorEq12
import Derived.Test.YthmpokndffbkdaaDoorSx12
namespace Go.Proofs.YthmpokndffbkdaaDoor
open Go.RowKit
set_option linter.unusedVariables false
theorem of_dayB {N y m d : Nat} (A : Mo.IsDay N y m d) (h mi s ms : Nat) : Mo.of y m d h mi s ms = N * 86400000 + h * 3600000 + mi * 60000 + s * 1000 + ms := by
  have := A.num
  unfold Mo.of
  rw [show Mo.ys y + Mo.ml y (m - 1) + d - 1 = N by omega]
theorem ok_dayB {N y m d h mi s ms : Nat} (A : Mo.IsDay N y m d) (a4 : h < 24) (a5 : mi < 60) (a6 : s < 60) (a7 : ms < 1000) : Mo.ok y m d h mi s ms = true := by
  have := A.y0
  have := A.y1
  have := A.m0
  have := A.m1
  have := A.d0
  have := A.d1
  simp only [Mo.ok, Mo.dayOK, Mo.timeOK, Bool.and_eq_true, decide_eq_true_eq, Int.toNat_natCast]
  omega
theorem sh_dgB (y m d h mi s ms : Nat) : Mo.sh y m d h mi s ms = dg 4 y ++ ([45] ++ (dg 2 m ++ ([45] ++ (dg 2 d ++ ([84] ++ (dg 2 h ++ ([58] ++ (dg 2 mi ++ ([58] ++ (dg 2 s ++ ([46] ++ (dg 3 ms ++ [90])))))))))))) := by
  simp [Mo.sh, dg, Nat.div_div_eq_div_mul]
theorem read_sh {y m d h mi s ms : Nat} (a1 : y < 10000) (a2 : m < 100) (a3 : d < 100) (a4 : h < 100) (a5 : mi < 100) (a6 : s < 100) (a7 : ms < 1000) :
    readR (Mo.sh y m d h mi s ms) = stR y m d h mi s ms 0 0 0 := by
  have n4 := fun r => num_dg 4 y r a1
  have nm := fun r => num_dg 2 m r a2
  have nd := fun r => num_dg 2 d r a3
  have nh := fun r => num_dg 2 h r a4
  have ni := fun r => num_dg 2 mi r a5
  have ns := fun r => num_dg 2 s r a6
  have nq := fun r => num_dg 3 ms r a7
  have c : ∀ x (r : List Nat), [x] ++ r = x :: r := fun _ _ => rfl
  rw [sh_dgB]
  simp only [readR, rdBad, rd2, rd3, dayL, dayB, day0, day1, day2, n4, nm, nd, c, restF, hasF, if_true, BEq.rfl, Bool.not_true, Bool.or_false, Bool.false_or, timL, timB, timMs, secL, secB, sec0, sec1, sec2, nh, ni, ns, nq, zonL, zonB, zonS, zonH, zonM, pmL, pmB, pmV]
  simp
theorem readS (n : Nat) (t : ByteArray) (w : World) (hn : n ≤ 253402300799999) (ht : ShT n t) :
    Calls Tryd.prog 24 #[.string t] w fun e w' => e = .returned (.tuple #[.int .i64 (n : Int), .int .i64 0]) ∧ Below w.heap.size w w' := by
  obtain ⟨y, m, d, A, ea⟩ := ht.ex
  have hr := read_any t w
  have ya := A.y1
  have ma := A.m1
  have da := A.d1
  have da2 := (Mo.md_pos y m).2
  rw [ea, read_sh (by omega) (by omega) (by omega) (by omega) (by omega) (by omega) (by omega)] at hr
  have hok : Mo.ok y m d (n % 86400000 / 3600000) (n % 86400000 % 3600000 / 60000) (n % 86400000 % 60000 / 1000) (n % 86400000 % 1000) = true := ok_dayB A (by omega) (by omega) (by omega) (by omega)
  have hof := of_dayB A (n % 86400000 / 3600000) (n % 86400000 % 3600000 / 60000) (n % 86400000 % 60000 / 1000) (n % 86400000 % 1000)
  have hof2 : Mo.of y m d (n % 86400000 / 3600000) (n % 86400000 % 3600000 / 60000) (n % 86400000 % 60000 / 1000) (n % 86400000 % 1000) = n := by rw [hof]; omega
  unfold stR Mo.stOK Mo.stN at hr
  rw [hok, hof2, Bool.true_and] at hr
  refine hr.mono ?_
  rintro e' w' ⟨he, hb⟩
  refine ⟨?_, hb⟩
  rw [he, if_pos (by simp; omega)]
  simp
theorem ok_nats {yy mm dd hh mi ss ms : Int} (q : (Mo.dayOK yy mm dd && Mo.timeOK hh mi ss ms) = true) : ∃ y m d h i s k : Nat, yy = (y : Int) ∧ mm = (m : Int) ∧ dd = (d : Int) ∧ hh = (h : Int) ∧ mi = (i : Int) ∧ ss = (s : Int) ∧ ms = (k : Int) := by
  simp only [Mo.dayOK, Mo.timeOK, Bool.and_eq_true, decide_eq_true_eq] at q
  exact ⟨yy.toNat, mm.toNat, dd.toNat, hh.toNat, mi.toNat, ss.toNat, ms.toNat, by omega, by omega, by omega, by omega, by omega, by omega, by omega⟩
/-- what Date tells of a stamp, and Of of that -/
structure DtV (n : Nat) (v : Value) : Prop where
  ex : ∃ y m d, Mo.IsDay (n / 86400000) y m d ∧ v = dateV (y : Int) (m : Int) (d : Int) ((n % 86400000 / 3600000 : Nat) : Int) ((n % 86400000 % 3600000 / 60000 : Nat) : Int) ((n % 86400000 % 60000 / 1000 : Nat) : Int) ((n % 86400000 % 1000 : Nat) : Int)
theorem ofD (n : Nat) (y m d : Nat) (A : Mo.IsDay (n / 86400000) y m d) (w : World) :
    Calls Tryd.prog 9 #[dateV (y : Int) (m : Int) (d : Int) ((n % 86400000 / 3600000 : Nat) : Int) ((n % 86400000 % 3600000 / 60000 : Nat) : Int) ((n % 86400000 % 60000 / 1000 : Nat) : Int) ((n % 86400000 % 1000 : Nat) : Int)] w fun e w' => e = .returned (.tuple #[.int .i64 (n : Int), .int .i64 0]) ∧ Below w.heap.size w w' := by
  have := of_any y m d (n % 86400000 / 3600000) (n % 86400000 % 3600000 / 60000) (n % 86400000 % 60000 / 1000) (n % 86400000 % 1000) w A.y0 A.y1 A.m0 A.m1 A.d0 A.d1 (by omega) (by omega) (by omega) (by omega)
  have hof := of_dayB A (n % 86400000 / 3600000) (n % 86400000 % 3600000 / 60000) (n % 86400000 % 60000 / 1000) (n % 86400000 % 1000)
  have hof2 : Mo.of y m d (n % 86400000 / 3600000) (n % 86400000 % 3600000 / 60000) (n % 86400000 % 60000 / 1000) (n % 86400000 % 1000) = n := by rw [hof]; omega
  rw [hof2] at this
  exact this
/-- Of of a day and time that there is, and Date of that -/
theorem day_of {y m d : Nat} (hy0 : 1970 ≤ y) (hy1 : y ≤ 9999) (hm0 : 1 ≤ m) (hm1 : m ≤ 12) (hd0 : 1 ≤ d) (hd1 : d ≤ Mo.md y m) : Mo.IsDay (Mo.ys y + Mo.ml y (m - 1) + d - 1) y m d :=
  ⟨hy0, hy1, hm0, hm1, hd0, hd1, by omega⟩
theorem dateO (y m d h mi s ms : Nat) (w : World) (hok : Mo.ok y m d h mi s ms = true) :
    Calls Tryd.prog 11 #[.int .i64 ((Mo.of y m d h mi s ms : Nat) : Int)] w fun e w' => e = .returned (.tuple #[dateV (y : Int) (m : Int) (d : Int) (h : Int) (mi : Int) (s : Int) (ms : Int), .int .i64 0]) ∧ Below w.heap.size w w' := by
  have hle := Mo.of_le hok
  obtain ⟨⟨f1, f2, f3, f4, f5, f6⟩, f7, f8, f9, f10⟩ := Mo.ok_facts hok
  have A := day_of f1 f2 f3 f4 f5 f6
  have hof := of_dayB A h mi s ms
  refine (date_any (Mo.of y m d h mi s ms) w hle).mono ?_
  rintro e w' ⟨⟨y', m', d', B, rfl⟩, hb⟩
  have hN : Mo.of y m d h mi s ms / 86400000 = Mo.ys y + Mo.ml y (m - 1) + d - 1 := by rw [hof]; omega
  rw [hN] at B
  obtain ⟨rfl, rfl, rfl⟩ := A.same B
  have t1 : Mo.of y m d h mi s ms % 86400000 / 3600000 = h := by rw [hof]; omega
  have t2 : Mo.of y m d h mi s ms % 86400000 % 3600000 / 60000 = mi := by rw [hof]; omega
  have t3 : Mo.of y m d h mi s ms % 86400000 % 60000 / 1000 = s := by rw [hof]; omega
  have t4 : Mo.of y m d h mi s ms % 86400000 % 1000 = ms := by rw [hof]; omega
  rw [t1, t2, t3, t4]
  exact ⟨rfl, hb⟩
theorem span_numsB (n : Nat) (w : World) (h1 : 1 ≤ n) (h2 : n ≤ 253402300799999) (hu : UnT w) :
    Calls Tryd.prog 19 #[.string (nums (spT n 5))] w fun e w' => e = .returned (.tuple #[.int .i64 (n : Int), .int .i64 0]) ∧ Below w.heap.size w w' := by
  have ha := spT_ascii n
  have hb : Sums.bl (nums (spT n 5)) = spT n 5 := bl_nums _ (fun z hz => Nat.lt_trans (ha z hz) (by decide))
  have hl : (nums (spT n 5)).size = (spT n 5).length := by rw [← Sums.bl_length, hb]
  have hlen : (spT n 5).length ≤ 85 := by
    rw [spT_tx, ← tpre_tx]
    exact tpre_len _ (fun i => Nat.le_trans (Nat.div_le_self _ _) (Nat.le_trans (spRm_le n i) h2)) 5
  have := span_any (nums (spT n 5)) w (by omega) (by rw [hb]; exact ha) hu
  rw [hl, hb, span_spell n h1 h2] at this
  exact this
end Go.Proofs.YthmpokndffbkdaaDoor
