/-
  Lines that begin with a stamp, in each of the forms. No program is named here.
-/
import Derived.Test.YthmpokndffbkdabDoorNmA
import Derived.Test.YthmpokndffbkdabDoorZn12
namespace Go.Proofs.YthmpokndffbkdabDoor
open Go.RowKit
set_option linter.unusedVariables false
/-- such a line, whatever follows, tells this stamp -/
structure AhP (L : List Nat) (v : Int) : Prop where
  good : ∀ r, endF r = true → aheadR (L ++ r) = .returned (.tuple #[.int .i64 v, .string (nums (restF 32 r)), .bool true])
  bad : ∀ r, aheadR (L ++ 120 :: r) = failR
theorem ah_fail {a c : Int} {B : Bool} {L : List Nat} (h : (!B && endF L) = false) : ahR a c B L = failR := by
  unfold ahR
  rw [if_pos]
  · rfl
  · cases B
    · simp at h; simp [h]
    · simp
theorem ah_good {v : Int} {L : List Nat} (h : endF L = true) : ahR v 0 false L = .returned (.tuple #[.int .i64 v, .string (nums (restF 32 L)), .bool true]) := by
  unfold ahR
  rw [h]
  simp
def TT (y m d : Nat) : List Nat := dg 4 y ++ (45 :: (dg 2 m ++ (45 :: dg 2 d)))
def CC (h mi s : Nat) : List Nat := dg 2 h ++ (58 :: (dg 2 mi ++ (58 :: dg 2 s)))
theorem TT_app (y m d : Nat) (r : List Nat) : TT y m d ++ r = dg 4 y ++ (45 :: (dg 2 m ++ (45 :: (dg 2 d ++ r)))) := by simp [TT]
theorem CC_app (h mi s : Nat) (r : List Nat) : CC h mi s ++ r = dg 2 h ++ (58 :: (dg 2 mi ++ (58 :: (dg 2 s ++ r)))) := by simp [CC]
theorem day_T {y m d : Nat} (a1 : y < 10000) (a2 : m < 100) (a3 : d < 100) (r : List Nat) : dayL (TT y m d ++ r) = r ∧ dayB (TT y m d ++ r) = false ∧ day0 (TT y m d ++ r) = y ∧ day1 (TT y m d ++ r) = m ∧ day2 (TT y m d ++ r) = d := by
  have n4 := fun r => num_dg 4 y r a1
  have nm := fun r => num_dg 2 m r a2
  have nd := fun r => num_dg 2 d r a3
  rw [TT_app]
  simp only [dayL, dayB, day0, day1, day2, n4, nm, nd, restF, hasF, if_true, BEq.rfl, Bool.not_true, Bool.or_false]
  simp
theorem sec_C {h mi s : Nat} (a1 : h < 100) (a2 : mi < 100) (a3 : s < 100) (r : List Nat) : secL (CC h mi s ++ r) = r ∧ secB (CC h mi s ++ r) = false ∧ sec0 (CC h mi s ++ r) = h ∧ sec1 (CC h mi s ++ r) = mi ∧ sec2 (CC h mi s ++ r) = s := by
  have n4 := fun r => num_dg 2 h r a1
  have nm := fun r => num_dg 2 mi r a2
  have nd := fun r => num_dg 2 s r a3
  rw [CC_app]
  simp only [secL, secB, sec0, sec1, sec2, n4, nm, nd, restF, hasF, if_true, BEq.rfl, Bool.not_true, Bool.or_false]
  simp
theorem T_isD {y m d : Nat} (a1 : y < 10000) (a2 : m < 100) (a3 : d < 100) (r : List Nat) : hasF 91 (TT y m d ++ r) = false ∧ isD (TT y m d ++ r) = true := by
  obtain ⟨n1, n2⟩ := dayB_num (day_T a1 a2 a3 r).2.1
  exact ⟨numB_head n1 91 (by omega), isD_of n1 n2⟩
/-- a day and time that there is, as a stamp, in UTC -/
theorem st_good {N y m d h mi s ms : Nat} (A : Mo.IsDay N y m d) (a4 : h < 24) (a5 : mi < 60) (a6 : s < 60) (a7 : ms < 1000) (sg : Int) (v : Nat) (hv : N * 86400000 + h * 3600000 + mi * 60000 + s * 1000 + ms = v) : stA y m d h mi s ms sg 0 0 = (v : Int) ∧ stC y m d h mi s ms sg 0 0 = 0 := by
  have hok : Mo.ok y m d h mi s ms = true := by
    have := A.y0
    have := A.y1
    have := A.m0
    have := A.m1
    have := A.d0
    have := A.d1
    simp only [Mo.ok, Mo.dayOK, Mo.timeOK, Bool.and_eq_true, decide_eq_true_eq, Int.toNat_natCast]
    omega
  have hof : Mo.of y m d h mi s ms = v := by
    have := A.num
    unfold Mo.of
    rw [show Mo.ys y + Mo.ml y (m - 1) + d - 1 = N by omega, hv]
  have hle := Mo.of_le hok
  rw [hof] at hle
  have hst : Mo.stOK y m d h mi s ms sg 0 0 = true := by
    unfold Mo.stOK Mo.stN
    rw [hok, hof]
    simp
    omega
  unfold stA stC
  rw [hst]
  unfold Mo.stN
  rw [hof]
  simp
/-- a line of the dated forms: day, a sign between, time, and what stands behind -/
theorem ah_date {N y m d h mi s : Nat} (A : Mo.IsDay N y m d) (a4 : h < 24) (a5 : mi < 60) (a6 : s < 60) (c : Nat) (hc : c = 84 ∨ c = 32) (r : List Nat) :
    hasF 91 (TT y m d ++ (c :: (CC h mi s ++ r))) = false ∧ isD (TT y m d ++ (c :: (CC h mi s ++ r))) = true ∧ dt2 (TT y m d ++ (c :: (CC h mi s ++ r))) = CC h mi s ++ r ∧ day0 (TT y m d ++ (c :: (CC h mi s ++ r))) = y ∧ day1 (TT y m d ++ (c :: (CC h mi s ++ r))) = m ∧ day2 (TT y m d ++ (c :: (CC h mi s ++ r))) = d ∧ dtB (TT y m d ++ (c :: (CC h mi s ++ r))) = (timB (CC h mi s ++ r) || (!endF (timL (CC h mi s ++ r)) && zonB (timL (CC h mi s ++ r)))) := by
  have ya := A.y1
  have ma := A.m1
  have da := A.d1
  have da2 := (Mo.md_pos y m).2
  have hT := T_isD (y := y) (m := m) (d := d) (by omega) (by omega) (by omega) (c :: (CC h mi s ++ r))
  have hD := day_T (y := y) (m := m) (d := d) (by omega) (by omega) (by omega) (c :: (CC h mi s ++ r))
  have h2 : dt2 (TT y m d ++ (c :: (CC h mi s ++ r))) = CC h mi s ++ r := by
    unfold dt2
    rw [hD.1]
    rcases hc with rfl | rfl <;> simp [hasF, restF]
  refine ⟨hT.1, hT.2, h2, hD.2.2.1, hD.2.2.2.1, hD.2.2.2.2, ?_⟩
  unfold dtB dt3
  rw [h2, hD.2.1, hD.1]
  rcases hc with rfl | rfl <;> simp [hasF]
theorem time_dot {h mi s ms : Nat} (a1 : h < 100) (a2 : mi < 100) (a3 : s < 100) (a4 : ms < 1000) (r : List Nat) : timL (CC h mi s ++ (46 :: (dg 3 ms ++ r))) = r ∧ timB (CC h mi s ++ (46 :: (dg 3 ms ++ r))) = false ∧ timMs (CC h mi s ++ (46 :: (dg 3 ms ++ r))) = ms := by
  have hS := sec_C a1 a2 a3 (46 :: (dg 3 ms ++ r))
  have nq := num_dg 3 ms r a4
  unfold timL timB timMs
  rw [hS.1, hS.2.1]
  simp [hasF, restF, nq]
theorem time_no {h mi s : Nat} (a1 : h < 100) (a2 : mi < 100) (a3 : s < 100) (r : List Nat) (hr : hasF 46 r = false) : timL (CC h mi s ++ r) = r ∧ timB (CC h mi s ++ r) = false ∧ timMs (CC h mi s ++ r) = 0 := by
  have hS := sec_C a1 a2 a3 r
  unfold timL timB timMs
  rw [hS.1, hS.2.1, hr]
  simp
theorem end_no {r : List Nat} (h : endF r = true) : hasF 46 r = false := by
  cases r with
  | nil => rfl
  | cons x r => simp only [endF, beq_iff_eq] at h; subst h; rfl
theorem form0 {N y m d h mi s ms : Nat} (A : Mo.IsDay N y m d) (a4 : h < 24) (a5 : mi < 60) (a6 : s < 60) (a7 : ms < 1000) (v : Nat) (hv : N * 86400000 + h * 3600000 + mi * 60000 + s * 1000 + ms = v) : AhP (TT y m d ++ (84 :: (CC h mi s ++ (46 :: (dg 3 ms ++ [90]))))) (v : Int) := by
  have key : ∀ r, aheadR ((TT y m d ++ (84 :: (CC h mi s ++ (46 :: (dg 3 ms ++ [90]))))) ++ r) = ahR (v : Int) 0 false r := by
    intro r
    have e : (TT y m d ++ (84 :: (CC h mi s ++ (46 :: (dg 3 ms ++ [90]))))) ++ r = TT y m d ++ (84 :: (CC h mi s ++ (46 :: (dg 3 ms ++ (90 :: r))))) := by simp
    rw [e]
    obtain ⟨g1, g2, g3, g4, g5, g6, g7⟩ := ah_date A a4 a5 a6 84 (.inl rfl) (46 :: (dg 3 ms ++ (90 :: r)))
    obtain ⟨t1, t2, t3⟩ := time_dot (h := h) (mi := mi) (s := s) (ms := ms) (by omega) (by omega) (by omega) a7 (90 :: r)
    have hS := sec_C (h := h) (mi := mi) (s := s) (by omega) (by omega) (by omega) (46 :: (dg 3 ms ++ (90 :: r)))
    obtain ⟨s1, s2⟩ := st_good A a4 a5 a6 a7 0 v hv
    unfold aheadR aA aC aB aL
    rw [g1, g2]
    simp only [Bool.false_eq_true, if_false, if_true]
    unfold dtA dtC dtL dtS dtH dtM dt3
    rw [g7, g3, g4, g5, g6, t1, t2, t3, hS.2.2.1, hS.2.2.2.1, hS.2.2.2.2]
    simp [endF, zonS, zonH, zonM, zonB, zonL, hasF, restF, s1, s2]
  refine ⟨fun r hr => ?_, fun r => ?_⟩
  · rw [key, ah_good hr]
  · rw [key, ah_fail (by rfl)]
theorem form1 {N y m d h mi s : Nat} (A : Mo.IsDay N y m d) (a4 : h < 24) (a5 : mi < 60) (a6 : s < 60) (v : Nat) (hv : N * 86400000 + h * 3600000 + mi * 60000 + s * 1000 + 0 = v) : AhP (TT y m d ++ (32 :: CC h mi s)) (v : Int) := by
  have key : ∀ r, hasF 46 r = false → (endF r = true ∨ ∃ q, r = 120 :: q) → aheadR ((TT y m d ++ (32 :: CC h mi s)) ++ r) = if endF r = true then ahR (v : Int) 0 false r else failR := by
    intro r h46 hr
    have e : (TT y m d ++ (32 :: CC h mi s)) ++ r = TT y m d ++ (32 :: (CC h mi s ++ r)) := by simp
    rw [e]
    obtain ⟨g1, g2, g3, g4, g5, g6, g7⟩ := ah_date A a4 a5 a6 32 (.inr rfl) r
    obtain ⟨t1, t2, t3⟩ := time_no (h := h) (mi := mi) (s := s) (by omega) (by omega) (by omega) r h46
    have hS := sec_C (h := h) (mi := mi) (s := s) (by omega) (by omega) (by omega) r
    obtain ⟨s1, s2⟩ := st_good A a4 a5 a6 (by decide : 0 < 1000) 0 v hv
    unfold aheadR aA aC aB aL
    rw [g1, g2]
    simp only [Bool.false_eq_true, if_false, if_true]
    unfold dtA dtC dtL dtS dtH dtM dt3
    rw [g7, g3, g4, g5, g6, t1, t2, t3, hS.2.2.1, hS.2.2.2.1, hS.2.2.2.2]
    rcases hr with hr | ⟨q, rfl⟩
    · rw [hr]
      simp [s1, s2]
    · rw [show endF (120 :: q) = false from rfl]
      simp only [Bool.false_eq_true, if_false, Bool.not_false, Bool.true_and, Bool.false_or]
      rw [ah_fail]
      simp [zonB, hasF, pmB]
  refine ⟨fun r hr => ?_, fun r => ?_⟩
  · rw [key r (end_no hr) (.inl hr), if_pos hr, ah_good hr]
  · rw [key _ rfl (.inr ⟨r, rfl⟩)]; rfl
theorem form2 {N y m d h mi s : Nat} (A : Mo.IsDay N y m d) (a4 : h < 24) (a5 : mi < 60) (a6 : s < 60) (v : Nat) (hv : N * 86400000 + h * 3600000 + mi * 60000 + s * 1000 + 0 = v) : AhP (TT y m d ++ (84 :: (CC h mi s ++ [43, 48, 48, 58, 48, 48]))) (v : Int) := by
  have key : ∀ r, aheadR ((TT y m d ++ (84 :: (CC h mi s ++ [43, 48, 48, 58, 48, 48]))) ++ r) = ahR (v : Int) 0 false r := by
    intro r
    have e : (TT y m d ++ (84 :: (CC h mi s ++ [43, 48, 48, 58, 48, 48]))) ++ r = TT y m d ++ (84 :: (CC h mi s ++ (43 :: 48 :: 48 :: 58 :: 48 :: 48 :: r))) := by simp
    rw [e]
    obtain ⟨g1, g2, g3, g4, g5, g6, g7⟩ := ah_date A a4 a5 a6 84 (.inl rfl) (43 :: 48 :: 48 :: 58 :: 48 :: 48 :: r)
    obtain ⟨t1, t2, t3⟩ := time_no (h := h) (mi := mi) (s := s) (by omega) (by omega) (by omega) (43 :: 48 :: 48 :: 58 :: 48 :: 48 :: r) rfl
    have hS := sec_C (h := h) (mi := mi) (s := s) (by omega) (by omega) (by omega) (43 :: 48 :: 48 :: 58 :: 48 :: 48 :: r)
    obtain ⟨s1, s2⟩ := st_good A a4 a5 a6 (by decide : 0 < 1000) 1 v hv
    unfold aheadR aA aC aB aL
    rw [g1, g2]
    simp only [Bool.false_eq_true, if_false, if_true]
    unfold dtA dtC dtL dtS dtH dtM dt3
    rw [g7, g3, g4, g5, g6, t1, t2, t3, hS.2.2.1, hS.2.2.2.1, hS.2.2.2.2]
    simp [endF, zonS, zonH, zonM, zonB, zonL, pmL, pmV, pmB, hasF, restF, numL, numN, numB, s1, s2]
  refine ⟨fun r hr => ?_, fun r => ?_⟩
  · rw [key, ah_good hr]
  · rw [key, ah_fail (by rfl)]
theorem mon_at (i : Nat) (hi : i < 12) (r : List Nat) : mnI (monL i ++ r) = i + 1 := by
  rcases (show i = 0 ∨ i = 1 ∨ i = 2 ∨ i = 3 ∨ i = 4 ∨ i = 5 ∨ i = 6 ∨ i = 7 ∨ i = 8 ∨ i = 9 ∨ i = 10 ∨ i = 11 by omega) with rfl | rfl | rfl | rfl | rfl | rfl | rfl | rfl | rfl | rfl | rfl | rfl
  all_goals simp [mnI, mfF, monL, List.isPrefixOf]
theorem monL_len (i : Nat) : (monL i).length = 3 := by unfold monL; (repeat' split) <;> rfl
theorem mon_find (i : Nat) (hi : i < 12) (r : List Nat) : mnI (monL i ++ r) = i + 1 ∧ mnL (monL i ++ r) = r := by
  have e := mon_at i hi r
  refine ⟨e, ?_⟩
  unfold mnL
  rw [e, if_neg (by omega), ← monL_len i, List.drop_left]
theorem form3 {N y m d h mi s : Nat} (A : Mo.IsDay N y m d) (a4 : h < 24) (a5 : mi < 60) (a6 : s < 60) (v : Nat) (hv : N * 86400000 + h * 3600000 + mi * 60000 + s * 1000 + 0 = v) : AhP (91 :: (dg 2 d ++ (47 :: (monL (m - 1) ++ (47 :: (dg 4 y ++ (58 :: (CC h mi s ++ [32, 45, 48, 48, 48, 48, 93])))))))) (v : Int) := by
  have key : ∀ r, aheadR ((91 :: (dg 2 d ++ (47 :: (monL (m - 1) ++ (47 :: (dg 4 y ++ (58 :: (CC h mi s ++ [32, 45, 48, 48, 48, 48, 93])))))))) ++ r) = ahR (v : Int) 0 false r := by
    intro r
    have ya := A.y1
    have ma := A.m1
    have ma0 := A.m0
    have da := A.d1
    have da2 := (Mo.md_pos y m).2
    have e : (91 :: (dg 2 d ++ (47 :: (monL (m - 1) ++ (47 :: (dg 4 y ++ (58 :: (CC h mi s ++ [32, 45, 48, 48, 48, 48, 93])))))))) ++ r = 91 :: (dg 2 d ++ (47 :: (monL (m - 1) ++ (47 :: (dg 4 y ++ (58 :: (CC h mi s ++ (32 :: 45 :: 48 :: 48 :: 48 :: 48 :: 93 :: r)))))))) := by simp
    rw [e]
    obtain ⟨m1, m2⟩ := mon_find (m - 1) (by omega) (47 :: (dg 4 y ++ (58 :: (CC h mi s ++ (32 :: 45 :: 48 :: 48 :: 48 :: 48 :: 93 :: r)))))
    have nd := fun r => num_dg 2 d r (by omega)
    have ny := fun r => num_dg 4 y r (by omega)
    have hS := sec_C (h := h) (mi := mi) (s := s) (by omega) (by omega) (by omega) (32 :: 45 :: 48 :: 48 :: 48 :: 48 :: 93 :: r)
    obtain ⟨s1, s2⟩ := st_good A a4 a5 a6 (by decide : 0 < 1000) (-1) v hv
    have em : m - 1 + 1 = m := by omega
    rw [em] at m1
    have hmB : mnB (monL (m - 1) ++ (47 :: (dg 4 y ++ (58 :: (CC h mi s ++ (32 :: 45 :: 48 :: 48 :: 48 :: 48 :: 93 :: r)))))) = false := by
      unfold mnB; rw [m1]; simp; omega
    unfold aheadR aA aC aB aL
    rw [show hasF 91 (91 :: (dg 2 d ++ (47 :: (monL (m - 1) ++ (47 :: (dg 4 y ++ (58 :: (CC h mi s ++ (32 :: 45 :: 48 :: 48 :: 48 :: 48 :: 93 :: r))))))))) = true from rfl]
    simp only [if_true]
    rw [show restF 91 (91 :: (dg 2 d ++ (47 :: (monL (m - 1) ++ (47 :: (dg 4 y ++ (58 :: (CC h mi s ++ (32 :: 45 :: 48 :: 48 :: 48 :: 48 :: 93 :: r))))))))) = (dg 2 d ++ (47 :: (monL (m - 1) ++ (47 :: (dg 4 y ++ (58 :: (CC h mi s ++ (32 :: 45 :: 48 :: 48 :: 48 :: 48 :: 93 :: r)))))))) by simp [restF]]
    simp only [brA, brC, brB, brL, b11L, b10L, b9L, b8L, b7L, b6L, b5L, b4L, b3L, b2L, b1L, nd, restF, if_true, m1, m2, hmB, ny, hS.1, hS.2.1, hS.2.2.1, hS.2.2.2.1, hS.2.2.2.2]
    simp [pmL, pmV, pmB, hasF, restF, numL, numN, numB, s1, s2]
  refine ⟨fun r hr => ?_, fun r => ?_⟩
  · rw [key, ah_good hr]
  · rw [key, ah_fail (by rfl)]
theorem form4 (n : Nat) (h1 : n < 10000000000) : AhP (dg 10 n) ((1000 * n : Nat) : Int) := by
  have hB : ∀ r, numB 10 (dg 10 n ++ r) = false ∧ numL 10 (dg 10 n ++ r) = r ∧ numN 10 0 (dg 10 n ++ r) = n := fun r => by
    obtain ⟨a, b, c⟩ := num_dg 10 n r (by omega)
    exact ⟨c, b, a⟩
  have h91 : ∀ r, hasF 91 (dg 10 n ++ r) = false ∧ isD (dg 10 n ++ r) = false := fun r => ⟨numB_head (k := 9) (hB r).1 91 (by omega), isD_not (hB r).1⟩
  refine ⟨fun r hr => ?_, fun r => ?_⟩
  · unfold aheadR aA aC aB aL
    rw [(h91 r).1, (h91 r).2]
    simp only [Bool.false_eq_true, if_false]
    unfold cnN cnL cnB
    rw [(hB r).1, (hB r).2.1, (hB r).2.2, hr]
    simp only [if_true, Bool.not_true, Bool.false_and, Bool.or_false]
    rw [ah_good hr, Nat.mul_comm]
  · unfold aheadR aA aC aB aL
    rw [(h91 _).1, (h91 _).2]
    simp only [Bool.false_eq_true, if_false]
    unfold cnB cnL
    rw [(hB _).1, (hB _).2.1]
    exact ah_fail (by simp [endF, numB])
theorem form5 (n : Nat) (h1 : n < 10000000000000) : AhP (dg 13 n) ((n : Nat) : Int) := by
  have hB : ∀ r, numB 13 (dg 13 n ++ r) = false ∧ numL 13 (dg 13 n ++ r) = r ∧ numN 13 0 (dg 13 n ++ r) = n := fun r => by
    obtain ⟨a, b, c⟩ := num_dg 13 n r (by omega)
    exact ⟨c, b, a⟩
  have hB10 : ∀ r, numB 10 (dg 13 n ++ r) = false ∧ numB 3 (numL 10 (dg 13 n ++ r)) = false := fun r => by
    have := (hB r).1
    rw [show 13 = 10 + 3 from rfl, numB_add] at this
    simpa using this
  have h91 : ∀ r, hasF 91 (dg 13 n ++ r) = false ∧ isD (dg 13 n ++ r) = false := fun r => ⟨numB_head (k := 9) (hB10 r).1 91 (by omega), isD_not (hB10 r).1⟩
  have hL : ∀ r, numL 3 (numL 10 (dg 13 n ++ r)) = r := fun r => by
    rw [← numL_add 10 3 _ (hB10 r).1]; exact (hB r).2.1
  have hN : ∀ r, numN 10 0 (dg 13 n ++ r) * 1000 + numN 3 0 (numL 10 (dg 13 n ++ r)) = n := fun r => by
    have := (hB r).2.2
    rw [show 13 = 10 + 3 from rfl, numN_add 10 3 0 _ (hB10 r).1, numN_from 3 _ _ (hB10 r).2] at this
    omega
  have hE : ∀ r, endF (numL 10 (dg 13 n ++ r)) = false := fun r => by
    have h3 := (hB10 r).2
    cases e : numL 10 (dg 13 n ++ r) with
    | nil => rw [e] at h3; simp [numB] at h3
    | cons x q =>
      rw [e, show 3 = 2 + 1 from rfl] at h3
      have := numB_head h3 32 (by omega)
      simp only [hasF, beq_eq_false_iff_ne] at this
      simp only [endF, beq_eq_false_iff_ne]
      exact this
  have key : ∀ r, aheadR (dg 13 n ++ r) = ahR (n : Int) 0 false r := fun r => by
    unfold aheadR aA aC aB aL
    rw [(h91 r).1, (h91 r).2]
    simp only [Bool.false_eq_true, if_false]
    unfold cnN cnL cnB
    rw [(hB10 r).1, (hB10 r).2, hE r, hL r]
    simp only [Bool.false_eq_true, if_false, hN r]
    rfl
  refine ⟨fun r hr => ?_, fun r => ?_⟩
  · rw [key, ah_good hr]
  · rw [key, ah_fail (by rfl)]
theorem dec_dg : ∀ (k n : Nat), 10 ^ k ≤ n → n < 10 ^ (k + 1) → dec n = dg (k + 1) n
  | 0, n, h1, h2 => by
    have hn : n < 10 := by simpa using h2
    rw [dec_small n hn, dg, dg]
    simp
    omega
  | k + 1, n, h1, h2 => by
    rw [Nat.pow_succ] at h1 h2
    have hp := Nat.pow_pos (n := k) (show 0 < 10 by decide)
    have hn : ¬ n < 10 := by omega
    rw [dec_step n hn, dg, dec_dg k (n / 10) (by omega) (by omega)]
end Go.Proofs.YthmpokndffbkdabDoor
