/-
  Lz4Back returns true. Conditions: the text has at most 1048576 bytes.
-/
import Derived.Test.YtchjmhgalbkjkaaLvz
import Derived.Test.YtchjmhgalbkjkaaShn
namespace Go.Proofs.Ytchjmhgalbkjkaa
open Go.RowKit Go.Shelf
set_option linter.unusedVariables false
set_option linter.unusedSimpArgs false
/-- what a level packs -/
theorem packs (s : ByteArray) (k : Nat) (hk : k < 4) (hs : s.size ≤ 1048576) (h3 : k = 3 → s.size ≤ 4096) : ∃ cs, Lz.tru (Sums.bl s) 0 cs ∧ ∀ w : World, Calls Try.prog 10 #[.string s, .int .i64 (k : Int)] w fun e w' => e = .returned (.tuple #[.string (packC s cs), .int .i64 0]) ∧ Below w.heap.size w w' := by
  rcases (show k = 0 ∨ k = 1 ∨ k = 2 ∨ k = 3 by omega) with rfl | rfl | rfl | rfl
  · exact ⟨[], trivial, fun w => compress0_any s w (by omega)⟩
  · exact ⟨_, Lz.greedy_true (Sums.bl s) (Sums.bl_byt s) 1, fun w => compress1_any s w (by omega)⟩
  · exact ⟨_, Lz.greedy_true (Sums.bl s) (Sums.bl_byt s) 32, fun w => compress2_any s w (by omega)⟩
  · exact ⟨_, best3_tru s (h3 rfl), fun w => compress3_any s w (h3 rfl)⟩
theorem str_nq2 (a : ByteArray) (w : World) : (binOp .neq 9 (.string a) (.string a)).run Try.prog w = .ok (.bool false) w := by simp [go_sem]
set_option maxRecDepth 100000 in
set_option maxHeartbeats 4000000 in
theorem lz4Back_any (s : ByteArray) (level more : Int) (w : World) (hs : s.size ≤ 1048576) (hl1 : -9223372036854775808 ≤ level) (hl2 : level ≤ 9223372036854775807) (hm1 : -9223372036854775808 ≤ more) (hm2 : more ≤ 9223372036854775807) :
    Calls Try.prog 7 #[.string s, .int .i64 level, .int .i64 more] w fun e w' => e = .returned (.bool true) ∧ Below w.heap.size w w' := by
  have HSH := Hid.mk' (shown_any w)
  have HPK := Hid.mk' (fun W => pick_det level 4 W (by omega) (by omega) hl1 hl2)
  have hklt := pickN_lt level 4 (by omega)
  obtain ⟨k, hk⟩ : ∃ k, pickN level 4 = k := ⟨_, rfl⟩
  rw [hk] at HPK hklt
  clear hk
  by_cases hlong : k = 3 ∧ 4096 < s.size
  · obtain ⟨rfl, hsz⟩ := hlong
    have h4 : (4096 : Int) < (s.size : Int) := by omega
    have h4B : decide ((4096 : Int) < (s.size : Int)) = true := by simp; omega
    have HC := Hid.mk' (fun W => compress3_long s W hsz)
    have HPK3 : Hid (∀ W, Calls Try.prog 15 #[.int .i64 level, .int .i64 4] W fun e w' => e = .returned (.int .i64 3) ∧ w' = W) := HPK.out
    clear HPK hklt hsz
    go_enter Try.func7, Try.ntmps7
    go_wp2_with (first | (go_at_call 9; refine HSH.out.mono ?_; rintro e w1 ⟨rfl, hb1⟩; have HB1 := Hid.mk' hb1; clear hb1) | (go_at_call 15; refine (HPK3.out _).mono ?_; rintro e w' ⟨rfl, hw'⟩; have hw2 := hw'.symm; subst hw2) | (go_at_call 10; refine (HC.out _).mono ?_; rintro e w' ⟨rfl, hw'⟩; have hw2 := hw'.symm; subst hw2) | fail)
    go_ret
    exact ⟨rfl, HB1.out⟩
  · have HMO := Hid.mk' (fun W => pick_det more 1000 W (by omega) (by omega) hm1 hm2)
    have hmlt := pickN_lt more 1000 (by omega)
    obtain ⟨mo, hmo⟩ : ∃ mo, pickN more 1000 = mo := ⟨_, rfl⟩
    rw [hmo] at HMO hmlt
    obtain ⟨cs, htru, hcm⟩ := packs s k (by omega) hs (fun h => by omega)
    have HCM := Hid.mk' hcm
    have HCP := Hid.mk' (fun w => copies_any s cs w (by omega) htru (by have := packC_le s cs htru; omega))
    have hpb := packC_bound s cs htru
    obtain ⟨mm, hmm⟩ : ∃ mm, s.size + mo = mm := ⟨_, rfl⟩
    have hmmI : (s.size : Int) + (mo : Int) = (mm : Int) := by omega
    have hex := packC_exp s cs htru mm (by omega)
    have hle : ∀ n, s.size = n + 1 → ∃ tt : Nat, expR ⟨#[]⟩ (packC s cs) (n : Int) = tup3 ⟨#[]⟩ 41 tt := packC_less s cs htru
    obtain ⟨P, hP⟩ : ∃ P, packC s cs = P := ⟨_, rfl⟩
    rw [hP] at HCM HCP hpb hex
    simp only [hP] at hle
    have HE1 := Hid.mk' (fun w => expand_all P (mm : Int) w (by omega) (by omega) (.inr (by omega)))
    rw [hex] at HE1
    unfold tup3 at HE1
    have HBD := Hid.mk' (fun w => bound_any s.size w (by omega))
    obtain ⟨bd, hbd⟩ : ∃ bd, s.size + s.size / 255 + 16 = bd := ⟨_, rfl⟩
    rw [hbd] at HBD hpb
    have hpbI : ¬ (bd : Int) < (P.size : Int) := by omega
    have hpbB : decide ((bd : Int) < (P.size : Int)) = false := by simp; omega
    have hpbN : decide (bd < P.size) = false := by simp; omega
    have hkk : (((k : Int) == 3) = false) ∨ (((k : Int) == 3) = true ∧ decide ((4096 : Int) < (s.size : Int)) = false ∧ ¬ (4096 : Int) < (s.size : Int)) := by
      by_cases h : k = 3
      · right
        exact ⟨by simp; omega, by simp; omega, by omega⟩
      · left
        simp
        omega
    have hnq := fun W => str_nq2 s W
    have HLE := Hid.mk' hle
    have HTL := Hid.mk' (fun (W : World) (h : level < 0 ∨ 3 < level) => compress_arg s level W h)
    have hss : s.size ≤ 1048576 := hs
    have hPs : P.size ≤ 137438953472 := by omega
    clear hP hle hex htru hcm hmo hmm hbd hlong hpb
    go_enter Try.func7, Try.ntmps7
    go_upto_region 4 with (first | (go_at_call 9; refine HSH.out.mono ?_; rintro e w1 ⟨rfl, hb1⟩; have HB1 := Hid.mk' hb1; clear hb1) | (go_at_call 15; refine (HPK.out _).mono ?_; rintro e w' ⟨rfl, hw'⟩; have hw2 := hw'.symm; subst hw2) | (go_at_call 10; refine (HCM.out _).mono ?_; rintro e w2 ⟨rfl, hb2⟩; have HB2 := Hid.mk' (below_up2 HB1.out HB1.out.size hb2); clear hb2) | fail)
    go_cut [37] (fun bv wc => w2 = wc ∧ bv = .bool false)
    case first =>
      rcases hkk with h | ⟨h, h2, h3⟩
      · go_wp2_with fail
        go_meet
        exact ⟨rfl, rfl⟩
      · go_wp2_with fail
        go_meet
        exact ⟨rfl, rfl⟩
    case rest =>
      obtain ⟨rfl, rfl⟩ := hcut
      clear HPK HCM HSH HB1 hkk
      go_upto_region 10 with (first | (go_at_call 15; refine (HMO.out _).mono ?_; rintro e w' ⟨rfl, hw'⟩; have hw2 := hw'.symm; subst hw2) | (go_at_call 16; refine (HE1.out _).mono ?_; rintro e w4 ⟨rfl, hb4⟩; have HB4 := Hid.mk' (below_up2 HB2.out HB2.out.size hb4); clear hb4) | (go_at_call 18; refine (HCP.out _).mono ?_; rintro e w5 ⟨av, ov, rfl, hra, hro, hb5⟩; obtain ⟨ab, ac, rfl⟩ := row_shape' hra; obtain ⟨ob, oc, rfl⟩ := row_shape' hro; have HB5 := Hid.mk' (below_up2 HB4.out HB4.out.size hb5); clear hra hro hb5) | (go_at_call 19; refine (HBD.out _).mono ?_; rintro e w' ⟨rfl, hw'⟩; have hw2 := hw'.symm; subst hw2) | fail)
      clear HMO HE1 HCP HBD HB2 HB4 hnq hpbI hpbB hpbN
      by_cases hs0 : s.size = 0
      · have hs0I : ¬ (0 : Int) < (s.size : Int) := by omega
        by_cases hlv : level < 0 ∨ 3 < level
        · have HCL := Hid.mk' (fun W => HTL.out W hlv)
          have hlvc : (decide (level < 0) = true ∧ level < 0) ∨ (decide (level < 0) = false ∧ ¬ level < 0 ∧ decide ((3 : Int) < level) = true ∧ (3 : Int) < level) := by
            by_cases h : level < 0
            · left
              exact ⟨by simp; omega, h⟩
            · right
              exact ⟨by simp; omega, h, by simp; omega, by omega⟩
          clear hlv
          rcases hlvc with ⟨v1, v2⟩ | ⟨v1, v2, v3, v4⟩
          · go_wp2_with (first | (go_at_call 10; refine (HCL.out _).mono ?_; rintro e w' ⟨rfl, hw'⟩; have hw2 := hw'.symm; subst hw2) | fail)
            go_ret
            exact ⟨rfl, HB5.out⟩
          · go_wp2_with (first | (go_at_call 10; refine (HCL.out _).mono ?_; rintro e w' ⟨rfl, hw'⟩; have hw2 := hw'.symm; subst hw2) | fail)
            go_ret
            exact ⟨rfl, HB5.out⟩
        · have v1 : decide (level < 0) = false := by simp; omega
          have v2 : ¬ level < 0 := by omega
          have v3 : decide ((3 : Int) < level) = false := by simp; omega
          have v4 : ¬ (3 : Int) < level := by omega
          clear hlv
          go_wp2_with (first | fail)
          go_ret
          exact ⟨rfl, HB5.out⟩
      · have hs0I : (0 : Int) < (s.size : Int) := by omega
        obtain ⟨n, hn⟩ : ∃ n, s.size = n + 1 := ⟨s.size - 1, by omega⟩
        have hnI : (s.size : Int) - 1 = (n : Int) := by omega
        obtain ⟨tt, htt⟩ := HLE.out n hn
        have HE2 := Hid.mk' (fun w => expand_all P (n : Int) w (by omega) (by omega) (.inr (by omega)))
        rw [htt] at HE2
        unfold tup3 at HE2
        clear hn htt hs0 HLE
        by_cases hlv : level < 0 ∨ 3 < level
        · have HCL := Hid.mk' (fun W => HTL.out W hlv)
          have hlvc : (decide (level < 0) = true ∧ level < 0) ∨ (decide (level < 0) = false ∧ ¬ level < 0 ∧ decide ((3 : Int) < level) = true ∧ (3 : Int) < level) := by
            by_cases h : level < 0
            · left
              exact ⟨by simp; omega, h⟩
            · right
              exact ⟨by simp; omega, h, by simp; omega, by omega⟩
          clear hlv
          rcases hlvc with ⟨v1, v2⟩ | ⟨v1, v2, v3, v4⟩
          · go_wp2_with (first | (go_at_call 16; refine (HE2.out _).mono ?_; rintro e w6 ⟨rfl, hb6⟩; have HB6 := Hid.mk' (below_up2 HB5.out HB5.out.size hb6); clear hb6) | (go_at_call 10; refine (HCL.out _).mono ?_; rintro e w' ⟨rfl, hw'⟩; have hw2 := hw'.symm; subst hw2) | fail)
            go_ret
            exact ⟨rfl, HB6.out⟩
          · go_wp2_with (first | (go_at_call 16; refine (HE2.out _).mono ?_; rintro e w6 ⟨rfl, hb6⟩; have HB6 := Hid.mk' (below_up2 HB5.out HB5.out.size hb6); clear hb6) | (go_at_call 10; refine (HCL.out _).mono ?_; rintro e w' ⟨rfl, hw'⟩; have hw2 := hw'.symm; subst hw2) | fail)
            go_ret
            exact ⟨rfl, HB6.out⟩
        · have v1 : decide (level < 0) = false := by simp; omega
          have v2 : ¬ level < 0 := by omega
          have v3 : decide ((3 : Int) < level) = false := by simp; omega
          have v4 : ¬ (3 : Int) < level := by omega
          clear hlv
          go_wp2_with (first | (go_at_call 16; refine (HE2.out _).mono ?_; rintro e w6 ⟨rfl, hb6⟩; have HB6 := Hid.mk' (below_up2 HB5.out HB5.out.size hb6); clear hb6) | fail)
          go_ret
          exact ⟨rfl, HB6.out⟩
end Go.Proofs.Ytchjmhgalbkjkaa
