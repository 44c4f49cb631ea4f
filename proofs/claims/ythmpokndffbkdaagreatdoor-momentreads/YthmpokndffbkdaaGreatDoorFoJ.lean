/-
  The document's plain, Ahead. Conditions: a text of at most 2^60 bytes.
-/
import Derived.Test.YthmpokndffbkdaaGreatDoorFoI
namespace Go.Proofs.YthmpokndffbkdaaGreatDoor
open Go.RowKit
set_option linter.unusedVariables false
set_option maxRecDepth 100000 in
set_option maxHeartbeats 4000000 in
theorem rPlain_any (S : ByteArray) (k m : Nat) (w : World) (hS : S.size ≤ 4611686018427387904) (hk : k ≤ 15) (hk1 : 1 ≤ k) (hm : m * 10 ^ k ≤ 10000000000000) :
    Calls Tryz.prog 30 #[.string S, .int .i64 (k : Int), .int .i64 (m : Int)] w fun e w' => e = plR k m (Sums.bl S) ∧ Below w.heap.size w w' := by
  have HS := Hid.mk' hS
  have X0 : Hid (FmW w.heap.size S false (Sums.bl S) [0, 0, 0, 0, 0, 0, 0] 0 false w.heap.size w (w.alloc (fm0 S))) := ⟨Fm.new w S, (Below.refl _ _).alloc (Nat.le_refl _) _⟩
  unfold fm0 at X0
  obtain ⟨l, hl⟩ : ∃ l, Sums.bl S = l := ⟨_, rfl⟩
  rw [hl] at X0 ⊢
  have hpm : ∀ v : Nat, v < 10 ^ k → m * v ≤ 10000000000000 := fun v hv => Nat.le_trans (Nat.mul_le_mul_left m (Nat.le_of_lt hv)) hm
  have HPM := Hid.mk' hpm
  have HK := Hid.mk' (And.intro hk hk1)
  have HB : Hid (w.heap.size ≤ w.heap.size) := Nat.le_refl _
  clear hS hl hk hk1 hm hpm
  have HR : Hid (∀ v : Nat, ((false || numB k l) = false → v = numN k 0 l) → plR k m l = if okP k l = true then .returned (.tuple #[.int .i64 ((m : Int) * (v : Int)), .string (nums (restF 32 (numL k l))), .bool true]) else failR) := Hid.mk' (by
    intro v hv
    unfold plR
    cases ho : okP k l
    · rfl
    · have : numB k l = false := by unfold okP at ho; simp only [Bool.and_eq_true, Bool.not_eq_true'] at ho; exact ho.1
      rw [hv (by rw [this]; rfl)])
  go_enter Tryz.func30, Tryz.ntmps30
  go_wp2_with fail
  generalize (w.alloc _) = W0 at *
  generalize hG : w.heap.size = G at *
  have HG := Hid.mk' hG
  clear hG
  refine (fnumber_any G k S _ _ _ _ _ _ X0.out.fm HS.out HK.out.1 HK.out.2).mono ?_
  rintro e W1 ⟨⟨v, rfl, hvb, hv⟩, ht, ho⟩
  have X1 := Hid.mk' (X0.out.call HB.out ht ho)
  have HR2 := Hid.mk' (HR.out v hv)
  have hPb := HPM.out v hvb
  clear ht ho X0 hv hvb HR HPM
  obtain ⟨P, hP⟩ : ∃ P : Nat, m * v = P := ⟨_, rfl⟩
  have hPI : (m : Int) * (v : Int) = (P : Int) := by rw [← hP]; simp
  rw [hP] at hPb
  rw [hPI] at HR2
  clear hP
  obtain ⟨Lk, hLk⟩ : ∃ Lk, numL k l = Lk := ⟨_, rfl⟩
  obtain ⟨Bk, hBk⟩ : ∃ Bk, numB k l = Bk := ⟨_, rfl⟩
  unfold okP at HR2
  rw [hLk, hBk] at HR2
  rw [hLk, hBk, Bool.false_or] at X1
  clear hLk hBk
  go_wp2_with fail
  refine (frest_any G S _ _ _ _ _ _ X1.out.fm HS.out).mono ?_
  rintro e W2 ⟨rfl, hb⟩
  have X2 := Hid.mk' (X1.out.next HB.out hb)
  clear hb X1
  have HST := Hid.mk' (rStamp_is (P : Int) true (by simp; omega))
  unfold frT
  cases hok : (!Bk && endF Lk)
  · have HA : Hid (plR k m l = failR) := Hid.mk' (by rw [HR2.out, hok]; rfl)
    clear HR2 hok
    simp only [Bool.false_eq_true, if_false]
    go_wp2_with (first | (go_at_call 53; refine (HST.out _).mono ?_; rintro e w' ⟨rfl, hw'⟩; have hw2 := hw'.symm; subst hw2; clear hw') | fail)
    go_ret3
    exact ⟨HA.out.symm, (by rw [HG.out]; exact X2.out.bel)⟩
  · have HA : Hid (plR k m l = .returned (.tuple #[.int .i64 (P : Int), .string (nums (restF 32 Lk)), .bool true])) := Hid.mk' (by rw [HR2.out, hok, if_pos rfl])
    clear HR2 hok
    simp only [if_true]
    go_wp2_with (first | (go_at_call 53; refine (HST.out _).mono ?_; rintro e w' ⟨rfl, hw'⟩; have hw2 := hw'.symm; subst hw2; clear hw') | fail)
    go_ret3
    exact ⟨HA.out.symm, (by rw [HG.out]; exact X2.out.bel)⟩
theorem plR_tup (k m : Nat) (l : List Nat) : ∃ (a : Int) (t : ByteArray), plR k m l = .returned (.tuple #[.int .i64 a, .string t, .bool (okP k l)]) := by
  unfold plR failR
  cases okP k l
  · exact ⟨0, _, rfl⟩
  · exact ⟨_, _, rfl⟩
theorem plain10 (S : ByteArray) (w : World) (hS : S.size ≤ 4611686018427387904) :
    Calls Tryz.prog 30 #[.string S, .int .i64 10, .int .i64 1000] w fun e w' => e = plR 10 1000 (Sums.bl S) ∧ Below w.heap.size w w' := rPlain_any S 10 1000 w hS (by decide) (by decide) (by decide)
theorem plain13 (S : ByteArray) (w : World) (hS : S.size ≤ 4611686018427387904) :
    Calls Tryz.prog 30 #[.string S, .int .i64 13, .int .i64 1] w fun e w' => e = plR 13 1 (Sums.bl S) ∧ Below w.heap.size w w' := rPlain_any S 13 1 w hS (by decide) (by decide) (by decide)
theorem znS_is (l : List Nat) : znS l = 0 ∨ znS l = 1 ∨ znS l = -1 := by
  unfold znS; split
  · exact .inl rfl
  · split
    · exact pmV_is l
    · exact .inl rfl
theorem znH_le (l : List Nat) : znH l ≤ 99 := by unfold znH; split; omega; split; exact num2_le _; omega
theorem znM_le (l : List Nat) : znM l ≤ 99 := by unfold znM; split; omega; split; exact num2_le _; omega
set_option maxRecDepth 100000 in
set_option maxHeartbeats 8000000 in
theorem rAhead_any (S : ByteArray) (w : World) (hS : S.size ≤ 1152921504606846976) :
    Calls Tryz.prog 8 #[.string S] w fun e w' => e = aheadR (Sums.bl S) ∧ Below w.heap.size w w' := by
  have HS : Hid (S.size ≤ 4611686018427387904) := Hid.mk' (by omega)
  have HS2 := Hid.mk' hS
  have X0 : Hid (FmW w.heap.size S false (Sums.bl S) [0, 0, 0, 0, 0, 0, 0] 0 false w.heap.size w (w.alloc (fm0 S))) := ⟨Fm.new w S, (Below.refl _ _).alloc (Nat.le_refl _) _⟩
  have HNEW : Hid (∀ W : World, Fm W.heap.size S false (Sums.bl S) [0, 0, 0, 0, 0, 0, 0] 0 false (W.alloc (fm0 S))) := fun W => Fm.new W S
  have HP10 := Hid.mk' (fun w => plain10 S w HS.out)
  have HP13 := Hid.mk' (fun w => plain13 S w HS.out)
  unfold fm0 at X0 HNEW
  obtain ⟨l, hl⟩ : ∃ l, Sums.bl S = l := ⟨_, rfl⟩
  rw [hl] at X0 HNEW HP10 HP13 ⊢
  clear hS hl
  go_enter Tryz.func8, Tryz.ntmps8
  go_wp2_with fail
  generalize (w.alloc _) = W0 at *
  generalize hG : w.heap.size = G at *
  have HG := Hid.mk' hG
  have hgg : Hid (G ≤ G) := Nat.le_refl G
  clear hG
  refine (fday_any G S _ _ _ _ _ _ X0.out.fm HS.out).mono ?_
  rintro e W1 ⟨rfl, ht, ho⟩
  have X1 := Hid.mk' (X0.out.call hgg.out ht ho)
  clear ht ho X0
  go_wp2_with fail
  refine (fmust_any G _ S [84, 32] _ _ _ _ _ _ X1.out.fm HS.out (by decide) (by decide)).mono ?_
  rintro e W2 ⟨rfl, ht, ho⟩
  rw [(isL_T l).1, (isL_T l).2] at ht
  have X2 := Hid.mk' (X1.out.call hgg.out ht ho)
  clear ht ho X1
  go_wp2_with fail
  refine (ftime_any G S _ _ _ _ _ _ X2.out.fm HS.out rfl rfl).mono ?_
  rintro e W3 ⟨rfl, ht, ho⟩
  have X3 := Hid.mk' (X2.out.call hgg.out ht ho)
  clear ht ho X2
  go_wp2_with fail
  refine (fzone_any G S _ _ _ false _ X3.out.fm HS.out).mono ?_
  rintro e W4 ⟨rfl, ht, ho⟩
  have x4 := X3.out.call hgg.out ht ho
  clear ht ho X3
  change FmW G S (false || dayB l || (!hasF 84 (dayL l) && !hasF 32 (dayL l)) || timB (dt2 l) || znB false (dt3 l)) (znL false (dt3 l)) [((day0 l : Nat) : Int), ((day1 l : Nat) : Int), ((day2 l : Nat) : Int), ((sec0 (dt2 l) : Nat) : Int), ((sec1 (dt2 l) : Nat) : Int), ((sec2 (dt2 l) : Nat) : Int), ((timMs (dt2 l) : Nat) : Int)] (znS (dt3 l) * (60 * ((znH (dt3 l) : Nat) : Int) + ((znM (dt3 l) : Nat) : Int))) (oddB (znH (dt3 l)) (znM (dt3 l))) G w W4 at x4
  rw [show (false || dayB l || (!hasF 84 (dayL l) && !hasF 32 (dayL l)) || timB (dt2 l) || znB false (dt3 l)) = rdB l by unfold rdB; rw [Bool.false_or]] at x4
  have X4 := Hid.mk' x4
  clear x4
  go_wp2_with fail
  refine (frest_any G S _ _ _ _ _ _ X4.out.fm HS.out).mono ?_
  rintro e W5 ⟨rfl, hb⟩
  have X5 := Hid.mk' (X4.out.next hgg.out hb)
  clear hb X4
  unfold frT
  rw [show (!rdB l && endF (znL false (dt3 l))) = ok1 l from rfl]
  cases h1 : ok1 l
  · have H1 := Hid.mk' h1
    simp only [Bool.false_eq_true, if_false]
    clear h1
    have B5 := Hid.mk' X5.out.bel
    clear X5
    go_wp2_with fail
    have x6 : FmW W5.heap.size S false l [0, 0, 0, 0, 0, 0, 0] 0 false G w (W5.alloc (.cells #[.string S, .int .i64 0, .bool false, .int .i64 0, .int .i64 0, .int .i64 0, .int .i64 0, .int .i64 0, .int .i64 0, .int .i64 0, .int .i64 0, .bool false] 48)) := ⟨HNEW.out W5, B5.out.alloc (by have := B5.out.size; rw [HG.out] at this; exact this) _⟩
    have X6 := Hid.mk' x6
    have hg2 : Hid (G ≤ W5.heap.size) := Hid.mk' (by have := B5.out.size; rw [HG.out] at this; exact this)
    clear x6 B5 HNEW
    generalize (W5.alloc _) = W6 at *
    generalize W5.heap.size = G2 at *
    refine (fbracket_any G2 S l _ X6.out.fm HS2.out).mono ?_
    rintro e W7 ⟨rfl, ht, ho⟩
    have X7 := Hid.mk' (X6.out.call hg2.out ht ho)
    clear ht ho X6
    go_wp2_with fail
    refine (frest_any G2 S _ _ _ _ _ _ X7.out.fm HS.out).mono ?_
    rintro e W8 ⟨rfl, hb⟩
    have X8 := Hid.mk' (X7.out.next hg2.out hb)
    clear hb X7
    unfold frT
    rw [show (!(!hasF 91 l || brB (restF 91 l)) && endF (brL (restF 91 l))) = ok2 l from rfl]
    cases h2 : ok2 l
    · have H2 := Hid.mk' h2
      simp only [Bool.false_eq_true, if_false]
      have B8 := Hid.mk' X8.out.bel
      clear h2 X8
      obtain ⟨a1, t1, e1⟩ := plR_tup 10 1000 l
      have HE1 := Hid.mk' e1
      rw [e1] at HP10
      clear e1
      go_wp2_with fail
      refine (HP10.out _).mono ?_
      rintro e W9 ⟨rfl, hb⟩
      have B9 := Hid.mk' (B8.out.trans (hb.mono (by have := B8.out.size; rw [HG.out] at this; exact this)))
      clear hb B8 HP10
      cases h3 : okP 10 l
      · have HA : Hid (aheadR l = plR 13 1 l) := ahead_4 H1.out H2.out h3
        obtain ⟨a2, t2, e2⟩ := plR_tup 13 1 l
        obtain ⟨o2, ho2⟩ : ∃ o2, okP 13 l = o2 := ⟨_, rfl⟩
        rw [ho2] at e2
        rw [e2] at HP13 HA
        clear h3 e2 HE1 H1 H2 ho2
        go_wp2_with fail
        refine (HP13.out _).mono ?_
        rintro e W10 ⟨rfl, hb⟩
        have B10 := Hid.mk' (B9.out.trans (hb.mono (by have := B9.out.size; rw [HG.out] at this; exact this)))
        clear hb B9 HP13
        go_wp2_with fail
        go_ret3
        exact ⟨HA.out.symm, (by rw [HG.out]; exact B10.out)⟩
      · have HA : Hid (aheadR l = .returned (.tuple #[.int .i64 a1, .string t1, .bool true])) := Hid.mk' (by rw [ahead_3 h3, HE1.out, h3])
        clear h3 HE1 H1 H2
        go_wp2_with fail
        go_ret3
        exact ⟨HA.out.symm, (by rw [HG.out]; exact B9.out)⟩
    · have HA := Hid.mk' (ahead_2 h2)
      have x8 := X8.out
      have hbf : (!hasF 91 l || brB (restF 91 l)) = false := by
        unfold ok2 at h2
        simp only [Bool.and_eq_true, Bool.not_eq_true'] at h2
        exact h2.1
      rw [hbf] at x8
      have X9 := Hid.mk' x8
      clear h2 X8 x8 hbf
      simp only [if_true]
      have HST := Hid.mk' (fun w h => fstamp_any G2 S (brL (restF 91 l)) (numN 4 0 (b4L (restF 91 l))) (mnI (b2L (restF 91 l))) (numN 2 0 (restF 91 l)) (sec0 (b6L (restF 91 l))) (sec1 (b6L (restF 91 l))) (sec2 (b6L (restF 91 l))) 0 (pmV (b8L (restF 91 l))) (numN 2 0 (b9L (restF 91 l))) (numN 2 0 (b10L (restF 91 l))) w h (pmV_is _) (num2_le _) (num2_le _))
      generalize Mo.stOK (numN 4 0 (b4L (restF 91 l))) (mnI (b2L (restF 91 l))) (numN 2 0 (restF 91 l)) (sec0 (b6L (restF 91 l))) (sec1 (b6L (restF 91 l))) (sec2 (b6L (restF 91 l))) 0 (pmV (b8L (restF 91 l))) (numN 2 0 (b9L (restF 91 l))) (numN 2 0 (b10L (restF 91 l))) = OK at HA HST
      generalize nums (restF 32 (brL (restF 91 l))) = tt at HA ⊢
      go_wp2_with fail
      refine (HST.out _ X9.out.fm).mono ?_
      rintro e W10 ⟨⟨v, rfl, hv⟩, hb⟩
      have B10 := Hid.mk' (X9.out.next hg2.out hb).bel
      have HV := Hid.mk' hv
      clear hb X9 hv HST
      cases OK
      · have HA2 : Hid (aheadR l = failR) := Hid.mk' (by rw [HA.out]; rfl)
        clear HA HV
        go_wp2_with fail
        go_ret3
        exact ⟨HA2.out.symm, (by rw [HG.out]; exact B10.out)⟩
      · have HA2 : Hid (aheadR l = .returned (.tuple #[.int .i64 v, .string tt, .bool true])) := Hid.mk' (by rw [HA.out, if_pos rfl, HV.out rfl])
        clear HA HV
        go_wp2_with fail
        go_ret3
        exact ⟨HA2.out.symm, (by rw [HG.out]; exact B10.out)⟩
  · have HA := Hid.mk' (ahead_1 h1)
    obtain ⟨z1, z2, z3, z4⟩ := (ok1_dt l).2 h1
    have x8 := X5.out
    have hbf : rdB l = false := by
      unfold ok1 at h1
      simp only [Bool.and_eq_true, Bool.not_eq_true'] at h1
      exact h1.1
    rw [hbf] at x8
    rw [← z1, ← z2, ← z3, ← z4] at HA
    have X9 := Hid.mk' x8
    clear h1 X5 x8 hbf z1 z2 z3 z4
    simp only [if_true]
    have HST := Hid.mk' (fun w h => fstamp_any G S (znL false (dt3 l)) (day0 l) (day1 l) (day2 l) (sec0 (dt2 l)) (sec1 (dt2 l)) (sec2 (dt2 l)) (timMs (dt2 l)) (znS (dt3 l)) (znH (dt3 l)) (znM (dt3 l)) w h (znS_is _) (znH_le _) (znM_le _))
    generalize Mo.stOK (day0 l) (day1 l) (day2 l) (sec0 (dt2 l)) (sec1 (dt2 l)) (sec2 (dt2 l)) (timMs (dt2 l)) (znS (dt3 l)) (znH (dt3 l)) (znM (dt3 l)) = OK at HA HST
    generalize nums (restF 32 (znL false (dt3 l))) = tt at HA ⊢
    go_wp2_with fail
    refine (HST.out _ X9.out.fm).mono ?_
    rintro e W10 ⟨⟨v, rfl, hv⟩, hb⟩
    have B10 := Hid.mk' (X9.out.next hgg.out hb).bel
    have HV := Hid.mk' hv
    clear hb X9 hv HST
    cases OK
    · have HA2 : Hid (aheadR l = failR) := Hid.mk' (by rw [HA.out]; rfl)
      clear HA HV
      go_wp2_with fail
      go_ret3
      exact ⟨HA2.out.symm, (by rw [HG.out]; exact B10.out)⟩
    · have HA2 : Hid (aheadR l = .returned (.tuple #[.int .i64 v, .string tt, .bool true])) := Hid.mk' (by rw [HA.out, if_pos rfl, HV.out rfl])
      clear HA HV
      go_wp2_with fail
      go_ret3
      exact ⟨HA2.out.symm, (by rw [HG.out]; exact B10.out)⟩
end Go.Proofs.YthmpokndffbkdaaGreatDoor
