/-
  Lz4Choosy returns true. Conditions: the text has at most 1048576 bytes.
-/
import Derived.Test.YtchjmhgalbkjkabGrA
import Derived.Test.YtchjmhgalbkjkabLzM
namespace Go.Proofs.Ytchjmhgalbkjkab
open Go.RowKit Go.Shelf
set_option linter.unusedVariables false
set_option linter.unusedSimpArgs false
set_option maxRecDepth 100000 in
set_option maxHeartbeats 4000000 in
theorem lz4Choosy_any (s : ByteArray) (which : Int) (w : World) (hs : s.size ≤ 1048576) (hw1 : -9223372036854775808 ≤ which) (hw2 : which ≤ 9223372036854775807) :
    Calls Try.prog 3 #[.string s, .int .i64 which] w fun e w' => e = .returned (.bool true) ∧ Below w.heap.size w w' := by
  have hsl := Sums.bl_length s
  have hfb := Lz.first_both (Sums.bl s) (Sums.bl_byt s)
  obtain ⟨cs, hcs⟩ : ∃ cs, Lz.greedy (Sums.bl s) 32 = cs := ⟨_, rfl⟩
  obtain ⟨ds, hds⟩ : ∃ ds, Lz.greedy (Sums.bl s) 1 = ds := ⟨_, rfl⟩
  have htru := Lz.greedy_true (Sums.bl s) (Sums.bl_byt s) 32
  have hfit := Lz.greedy_fits (Sums.bl s) 32
  have htr1 := Lz.greedy_true (Sums.bl s) (Sums.bl_byt s) 1
  rw [hcs] at htru hfit
  rw [hds] at htr1
  rw [hcs, hds] at hfb
  have hpl := packC_le s cs htru
  have hpl1 := packC_le s ds htr1
  have hnb := cs_len s cs htru
  have hnb1 := cs_len s ds htr1
  have HSH := Hid.mk' (shown_any w)
  have HCP := Hid.mk' (fun w => copies_any s cs w (by omega) htru (by omega))
  have HCP1 := Hid.mk' (fun w => copies_any s ds w (by omega) htr1 (by omega))
  obtain ⟨P, hP⟩ : ∃ P, packC s cs = P := ⟨_, rfl⟩
  obtain ⟨P1, hP1⟩ : ∃ P1, packC s ds = P1 := ⟨_, rfl⟩
  rw [hP] at HCP
  rw [hP1] at HCP1
  have HCM : Hid (∀ w : World, Calls Try.prog 6 #[.string s, .int .i64 2] w fun e w' => e = .returned (.tuple #[.string P, .int .i64 0]) ∧ Below w.heap.size w w') := by
    intro w1
    have := compress2_any s w1 (by omega)
    unfold pkV at this
    rw [hcs, show nums (Lz.packed (Sums.bl s) 0 cs) = P from hP] at this
    exact this
  have HCM1 : Hid (∀ w : World, Calls Try.prog 6 #[.string s, .int .i64 1] w fun e w' => e = .returned (.tuple #[.string P1, .int .i64 0]) ∧ Below w.heap.size w w') := by
    intro w1
    have := compress1_any s w1 (by omega)
    unfold pkV at this
    rw [hds, show nums (Lz.packed (Sums.bl s) 0 ds) = P1 from hP1] at this
    exact this
  obtain ⟨n, hn⟩ : ∃ n, cs.length = n := ⟨_, rfl⟩
  obtain ⟨n1, hn1⟩ : ∃ n1, ds.length = n1 := ⟨_, rfl⟩
  rw [hn] at HCP hnb
  rw [hn1] at HCP1 hnb1
  have hnm : n ≤ 1048576 := by omega
  have hnm1 : n1 ≤ 1048576 := by omega
  have HT := Hid.mk' (And.intro htru (And.intro hfit (And.intro hn hsl)))
  have HT1 := Hid.mk' (And.intro htr1 hn1)
  have HFB := Hid.mk' hfb
  have hnn1 : ∀ W, (binOp .neq 4 (.bool true) (.bool true)).run Try.prog W = .ok (.bool false) W := fun W => by kernel_rfl
  have hnn0 : ∀ W, (binOp .neq 4 (.bool false) (.bool false)).run Try.prog W = .ok (.bool false) W := fun W => by kernel_rfl
  clear hP hP1 hcs hds htru hfit htr1 hpl hpl1 hn hn1 hsl hnb hnb1 hfb
  go_enter Try.func3, Try.ntmps3
  go_upto_region 3 with (first | (go_at_call 5; refine HSH.out.mono ?_; rintro e w1 ⟨rfl, hb1⟩; have HB1 := Hid.mk' hb1; clear hb1) | (go_at_call 6; refine (HCM.out _).mono ?_; rintro e w2 ⟨rfl, hb2⟩; have HB2 := Hid.mk' hb2; clear hb2) | fail)
  go_upto_region 4 with (go_at_call 6; refine (HCM1.out _).mono ?_; rintro e w3 ⟨rfl, hb3⟩; have HB3 := Hid.mk' hb3; clear hb3)
  go_upto_region 5 with (go_at_call 7; refine (HCP.out _).mono ?_; rintro e w4 ⟨av, ov, rfl, hra, hro, hb4⟩; obtain ⟨ab, ac, rfl⟩ := row_shape' hra; obtain ⟨ob, oc, rfl⟩ := row_shape' hro; have HR4 := Hid.mk' (cpRows_of HT.out.1 HT.out.2.2.1.symm hra hro); have HB4 := Hid.mk' hb4; clear hra hro hb4)
  go_upto_region 6 with (go_at_call 7; refine (HCP1.out _).mono ?_; rintro e w5 ⟨av1, ov1, rfl, hra, hro, hb5⟩; obtain ⟨tb, tc, rfl⟩ := row_shape' hra; obtain ⟨lb, lc, rfl⟩ := row_shape' hro; have HR5 := Hid.mk' (cpRows_of HT1.out.1 HT1.out.2.symm hra hro); have HB5 := Hid.mk' hb5; clear hra hro hb5)
  have hb05 : Below w.heap.size w w5 := below_up2 (below_up2 (below_up2 (below_up2 HB1.out HB1.out.size HB2.out) (Nat.le_trans HB1.out.size HB2.out.size) HB3.out) (Nat.le_trans (Nat.le_trans HB1.out.size HB2.out.size) HB3.out.size) HB4.out) (Nat.le_trans (Nat.le_trans (Nat.le_trans HB1.out.size HB2.out.size) HB3.out.size) HB4.out.size) HB5.out
  have HR45 := Hid.mk' (HR4.out.below HB5.out)
  have HB05 := Hid.mk' hb05
  clear hb05 HB1 HB2 HB3 HB4 HB5 HSH HCM HCM1 HCP HCP1 HR4
  rcases HFB.out with ⟨rfl, rfl⟩ | ⟨c2, l2, c1, l1, hc2, hc1, hat, hcnt⟩
  · obtain rfl : n = 0 := by have := HT.out.2.2.1; simpa using this.symm
    obtain rfl : n1 = 0 := by have := HT1.out.2; simpa using this.symm
    go_wp2_with fail
    go_ret
    exact ⟨rfl, HB05.out⟩
  · have hn0 : 0 < n := by rw [← HT.out.2.2.1, hc2]; simp
    have hn10 : 0 < n1 := by rw [← HT1.out.2, hc1]; simp
    have hz1 : ((n : Int) == 0) = false := by simp; omega
    have hz2 : ((n1 : Int) == 0) = false := by simp; omega
    have hnI : (0 : Int) < (n : Int) := by omega
    have hn1I : (0 : Int) < (n1 : Int) := by omega
    have HPK := Hid.mk' (fun W => pick_det which (n : Int) W hnI (by omega) hw1 hw2)
    have hklt := pickN_lt which (n : Int) hnI
    obtain ⟨k, hk⟩ : ∃ k, pickN which (n : Int) = k := ⟨_, rfl⟩
    rw [hk] at HPK hklt
    clear hk
    have hkn : k < n := by omega
    obtain ⟨c, hc⟩ : ∃ c, cs[k]? = some c := ⟨_, List.getElem?_eq_getElem (by have := HT.out.2.2.1; omega)⟩
    obtain ⟨ga, rfl, hca⟩ := HR45.out.at_ k c hc
    obtain ⟨gb, rfl, hcb, hcc⟩ := HR45.out.seq k c hc
    obtain ⟨ga', e1, hca0⟩ := HR45.out.at_ 0 c2 (by rw [hc2]; rfl)
    cases e1
    obtain ⟨gb', e2, hcb0, hcc0⟩ := HR45.out.seq 0 c2 (by rw [hc2]; rfl)
    cases e2
    obtain ⟨gt, rfl, hta0⟩ := HR5.out.at_ 0 c1 (by rw [hc1]; rfl)
    obtain ⟨gl, rfl, htb0, htc0⟩ := HR5.out.seq 0 c1 (by rw [hc1]; rfl)
    simp only [Nat.zero_mul, Nat.zero_add] at hcb0 hcc0 htb0 htc0
    rw [hat] at hca0
    have htr := (pcs_at (Sums.bl s) cs 0 k c hc HT.out.1).2.2.1
    obtain ⟨t1, t2, t3, t4, t5, t6, t7⟩ := htr
    rw [HT.out.2.2.2] at t5 t6
    obtain ⟨_, hlong, hc0, _⟩ := Lz.fits_at (Sums.bl s) 32 cs 0 k c HT.out.2.1 hc
    obtain ⟨_, _, hagr⟩ := Lz.long_agree (Sums.bl s) 32 c.at_ c.off c.cnt hlong hc0
    obtain ⟨p, hp⟩ : ∃ p, c.at_ = p := ⟨_, rfl⟩
    obtain ⟨off, hoff⟩ : ∃ off, c.off = off := ⟨_, rfl⟩
    obtain ⟨cnt, hcn⟩ : ∃ cnt, c.cnt = cnt := ⟨_, rfl⟩
    rw [hp] at hca t4 t5 t6 hlong hagr
    rw [hoff] at hcb t2 t3 t4 hlong hagr
    rw [hcn] at hcc t1 t6 hlong hagr hc0
    obtain ⟨po, hpo⟩ : ∃ po, p - off = po := ⟨_, rfl⟩
    have hpoI : (p : Int) - (off : Int) = (po : Int) := by omega
    have hpow : IntKind.i64.wrap (po : Int) = (po : Int) := by rw [IntKind.wrap_i64]; omega
    have HSM0 := Hid.mk' (fun W => same_any s po p W (by omega) (by omega) (by omega))
    rw [hpo] at hagr
    rw [← hagr] at HSM0
    have h00 : ((c1.at_ : Int) != (c1.at_ : Int)) = false := by simp
    have hll : ¬ (c2.cnt : Int) < (c1.cnt : Int) := by omega
    have hllB : decide ((c2.cnt : Int) < (c1.cnt : Int)) = false := by simp; omega
    have hllN : decide (c2.cnt < c1.cnt) = false := by simp; omega
    have hllM : ¬ c2.cnt < c1.cnt := by omega
    have hcncn : ((cnt : Int) != (cnt : Int)) = false := by simp
    have HLG := Hid.mk' (And.intro hlong hc0)
    clear hlong hc hc0 hagr t7 hc2 hc1 hat hcnt hp hoff hcn HR45 HR5 HFB hpo
    go_upto_region 12 with (go_at_call 8; refine (HPK.out _).mono ?_; rintro e w' ⟨rfl, hw'⟩; have hw2 := hw'.symm; subst hw2)
    go_cut [120] (fun bv wc => Hid (∃ j, wc = w5.drewN j) ∧ bv = .bool false)
    case first =>
      go_quiet ((go_at_call 9; exact Calls.quiet_of (HSM0.out _)))
      go_wp2_with fail
      go_meet
      exact ⟨⟨nq, rfl⟩, rfl⟩
    case rest =>
      obtain ⟨hwc, rfl⟩ := hcut
      rename World => w6
      have hcb6 : w6.cell? ⟨gb, k * 3 + 1, none⟩ = some (.int .i64 (off : Int)) := by
        obtain ⟨j, rfl⟩ := hwc.out
        exact hcb
      have hcc6 : w6.cell? ⟨gb, k * 3 + 2, none⟩ = some (.int .i64 (cnt : Int)) := by
        obtain ⟨j, rfl⟩ := hwc.out
        exact hcc
      have HB06 : Hid (Below w.heap.size w w6) := by
        obtain ⟨j, rfl⟩ := hwc.out
        exact HB05.out.drewN' j
      have HC6 := Hid.mk' (And.intro hcb6 hcc6)
      clear hwc hca hcb hcc hca0 hcb0 hcc0 hta0 htb0 htc0 HB05 HSM0 h00 hll hllB hllN hllM hcncn HPK hnn1 hnn0 hz1 hz2 hcb6 hcc6
      obtain ⟨P4, hP4⟩ : ∃ P4, p + 4 = P4 := ⟨_, rfl⟩
      have hP4I : (p : Int) + 4 = (P4 : Int) := by omega
      have hP4w : IntKind.i64.wrap (P4 : Int) = (P4 : Int) := by rw [IntKind.wrap_i64]; omega
      have hP4s : P4 ≤ s.size := by omega
      have hpP4 : p ≤ P4 := by omega
      obtain ⟨B4, hB4⟩ : ∃ B4, s.extract p P4 = B4 := ⟨_, rfl⟩
      have HP4 := Hid.mk' hP4
      clear hP4
      have hkI : (k : Int) < (n : Int) := by omega
      go_wp2_with fail
      go_loopw [18, 19, 20] (fun mv fv cv wr => ∃ (e many bo bc : Nat) (found : Bool) (cI : Int), mv = .int .i64 (many : Int) ∧ fv = .bool found ∧ cv = .int .i64 cI ∧ cI = (e : Int) - 1 ∧ e ≤ p ∧ many ≤ 32 ∧ Hid (Lz.Scan (Sums.bl s) p off cnt e many bo bc found) ∧ Hid (∃ j, wr = w6.drewN j)) (fun _ _ cv _ => (intOf cv + 1).toNat)
      case atStart => exact ⟨p, 0, 0, 0, false, (p : Int) - 1, rfl, rfl, by first | rfl | simp, rfl, Nat.le_refl _, by omega, Lz.Scan.start HLG.out.1 HLG.out.2, ⟨0, rfl⟩⟩
      case round =>
        obtain ⟨e, many, bo, bc, found, cI, rfl, rfl, rfl, hcI, hep, hm32, hsc, hj⟩ := hrel
        rename World => wo
        obtain ⟨hcb, hcc⟩ : wo.cell? ⟨gb, k * 3 + 1, none⟩ = some (.int .i64 (off : Int)) ∧ wo.cell? ⟨gb, k * 3 + 2, none⟩ = some (.int .i64 (cnt : Int)) := by
          obtain ⟨j, rfl⟩ := hj.out
          exact HC6.out
        have HBO : Hid (Below w.heap.size w wo) := by
          obtain ⟨j, rfl⟩ := hj.out
          exact HB06.out.drewN' j
        by_cases hst : e = 0 ∨ 65535 < (p : Int) - ((e : Int) - 1) ∨ many = 32
        · have hft := hsc.out.stop hst
          subst hft
          have hcs : cI = -1 ∨ ∃ c D : Nat, cI = (c : Int) ∧ (p : Int) - (c : Int) = (D : Int) ∧ (65535 < D ∨ (D ≤ 65535 ∧ many = 32)) := by
            cases e with
            | zero => left; omega
            | succ q =>
              right
              refine ⟨q, p - q, by omega, by omega, ?_⟩
              rcases hst with h | h | h
              · omega
              · left; omega
              · by_cases h2 : 65535 < p - q
                · left; exact h2
                · right; exact ⟨by omega, h⟩
          clear hst hcI
          rcases hcs with rfl | ⟨c, D, rfl, hDI, hD⟩
          · go_wp2_with fail
            go_ret
            exact ⟨rfl, HBO.out⟩
          · have hc0 : decide ((0 : Int) ≤ (c : Int)) = true := by simp
            have hDw : IntKind.i64.wrap (D : Int) = (D : Int) := by rw [IntKind.wrap_i64]; omega
            rcases hD with hD | ⟨hD, rfl⟩
            · have hfI : ¬ (D : Int) ≤ 65535 := by omega
              have hfB : decide ((D : Int) ≤ 65535) = false := by simp; omega
              go_wp2_with fail
              go_ret
              exact ⟨rfl, HBO.out⟩
            · have hfI : (D : Int) ≤ 65535 := by omega
              have hfB : decide ((D : Int) ≤ 65535) = true := by simp; omega
              go_wp2_with fail
              go_ret
              exact ⟨rfl, HBO.out⟩
        · obtain ⟨c, rfl⟩ : ∃ c, e = c + 1 := ⟨e - 1, by omega⟩
          obtain rfl : cI = (c : Int) := by omega
          have hmI : (many : Int) < 32 := by omega
          have hmB : decide ((many : Int) < 32) = true := by simp; omega
          have hc0 : decide ((0 : Int) ≤ (c : Int)) = true := by simp
          obtain ⟨D, hD⟩ : ∃ D, p - c = D := ⟨_, rfl⟩
          have hDI : (p : Int) - (c : Int) = (D : Int) := by omega
          have hDw : IntKind.i64.wrap (D : Int) = (D : Int) := by rw [IntKind.wrap_i64]; omega
          have hfI : (D : Int) ≤ 65535 := by omega
          have hfB : decide ((D : Int) ≤ 65535) = true := by simp; omega
          obtain ⟨C4, hC4⟩ : ∃ C4, c + 4 = C4 := ⟨_, rfl⟩
          have hC4I : (c : Int) + 4 = (C4 : Int) := by omega
          have hC4w : IntKind.i64.wrap (C4 : Int) = (C4 : Int) := by rw [IntKind.wrap_i64]; omega
          have hC4s : C4 ≤ s.size := by omega
          have hcC4 : c ≤ C4 := by omega
          obtain ⟨A4, hA4⟩ : ∃ A4, s.extract c C4 = A4 := ⟨_, rfl⟩
          have hiff : A4 = B4 ↔ Lz.four (Sums.bl s) c = Lz.four (Sums.bl s) p := by
            rw [← hA4, ← hB4, ← hC4, ← HP4.out]
            exact four_ext s c p (by omega) (by have := HP4.out; omega)
          have HIFF := Hid.mk' hiff
          have HD := Hid.mk' hD
          have hcp : c < p := by omega
          clear hiff hC4 hst hD hcI hep
          by_cases hab : A4 = B4
          · have hnq := fun W => str_nq A4 W
            obtain ⟨k1, k2, bo', bc', k3⟩ := hsc.out.take (HIFF.out.1 hab) (by omega) (by omega)
            rw [HD.out] at k2 k3
            rw [← hab] at hB4
            obtain ⟨M, hM⟩ : ∃ M, Lz.agree (Sums.bl s) c p = M := ⟨_, rfl⟩
            rw [hM] at k1 k2
            have HSM := Hid.mk' (fun W => same_any s c p W (by omega) hcp (by omega))
            rw [hM] at HSM
            have HK3 := Hid.mk' (And.intro k2 k3)
            have hM1 : ¬ (cnt : Int) < (M : Int) := by omega
            have hM1B : decide ((cnt : Int) < (M : Int)) = false := by simp; omega
            have hM1N : decide (cnt < M) = false := by simp; omega
            have hM1M : ¬ cnt < M := by omega
            clear hab HIFF hM k2 k3
            go_wp2_with fail
            go_cut [147] (fun bv wc => Hid (∃ j, wc = wo.drewN j) ∧ bv = .bool false)
            case first =>
              go_quiet (fail)
              go_wp2_with fail
              go_meet
              exact ⟨⟨nq, rfl⟩, rfl⟩
            case rest =>
              obtain ⟨hwc, rfl⟩ := hcut
              rename World => w7
              have hcb7 : w7.cell? ⟨gb, k * 3 + 1, none⟩ = some (.int .i64 (off : Int)) := by
                obtain ⟨j, rfl⟩ := hwc.out
                exact hcb
              have hcc7 : w7.cell? ⟨gb, k * 3 + 2, none⟩ = some (.int .i64 (cnt : Int)) := by
                obtain ⟨j, rfl⟩ := hwc.out
                exact hcc
              have HJ7 : Hid (∃ j, w7 = w6.drewN j) := by
                obtain ⟨j, rfl⟩ := hwc.out
                obtain ⟨j2, rfl⟩ := hj.out
                exact ⟨j2 + j, World.drewN_drewN _ _ _⟩
              clear hwc hcb hcc
              cases found with
              | true =>
                go_wp2_with (go_at_call 9; refine (HSM.out _).mono ?_; rintro e w8 ⟨rfl, nn, hw8⟩; have hcb8 : w8.cell? ⟨gb, k * 3 + 1, none⟩ = some (.int .i64 (off : Int)) := (by rw [hw8]; exact hcb7); have hcc8 : w8.cell? ⟨gb, k * 3 + 2, none⟩ = some (.int .i64 (cnt : Int)) := (by rw [hw8]; exact hcc7); have HW8 := Hid.mk' hw8; clear hw8)
                go_roundw
                case rel =>
                  obtain ⟨j, hj2⟩ := HJ7.out
                  refine ⟨c, many + 1, bo', bc', true, _, by simp, rfl, rfl, by omega, by omega, by omega, ?_, ⟨j + nn, by rw [HW8.out, hj2, World.drewN_drewN]⟩⟩
                  have := HK3.out.2
                  exact Hid.mk' (by simpa using this)
                case measure =>
                  simp [intOf]
              | false =>
                by_cases hpo : D = off
                · have hpoB : ((D : Int) == (off : Int)) = true := by simp; omega
                  have HPO := Hid.mk' hpo
                  clear hpo
                  go_wp2_with (go_at_call 9; refine (HSM.out _).mono ?_; rintro e w8 ⟨rfl, nn, hw8⟩; have hcb8 : w8.cell? ⟨gb, k * 3 + 1, none⟩ = some (.int .i64 (off : Int)) := (by rw [hw8]; exact hcb7); have hcc8 : w8.cell? ⟨gb, k * 3 + 2, none⟩ = some (.int .i64 (cnt : Int)) := (by rw [hw8]; exact hcc7); have HW8 := Hid.mk' hw8; clear hw8)
                  go_roundw
                  case rel =>
                    obtain ⟨j, hj2⟩ := HJ7.out
                    refine ⟨c, many + 1, bo', bc', true, _, by simp, rfl, rfl, by omega, by omega, by omega, ?_, ⟨j + nn, by rw [HW8.out, hj2, World.drewN_drewN]⟩⟩
                    have := HK3.out.2
                    rw [decide_eq_true HPO.out] at this; exact Hid.mk' (by simpa using this)
                  case measure =>
                    simp [intOf]
                · have hpoB : ((D : Int) == (off : Int)) = false := by simp; omega
                  have hMc : ¬ M = cnt := fun h => by
                    have h2 := HK3.out.1 h
                    rw [decide_eq_false hpo] at h2
                    cases h2
                  have hMcB : ((M : Int) == (cnt : Int)) = false := by simp; omega
                  have HPO := Hid.mk' hpo
                  clear hpo
                  go_wp2_with (go_at_call 9; refine (HSM.out _).mono ?_; rintro e w8 ⟨rfl, nn, hw8⟩; have hcb8 : w8.cell? ⟨gb, k * 3 + 1, none⟩ = some (.int .i64 (off : Int)) := (by rw [hw8]; exact hcb7); have hcc8 : w8.cell? ⟨gb, k * 3 + 2, none⟩ = some (.int .i64 (cnt : Int)) := (by rw [hw8]; exact hcc7); have HW8 := Hid.mk' hw8; clear hw8)
                  go_roundw
                  case rel =>
                    obtain ⟨j, hj2⟩ := HJ7.out
                    refine ⟨c, many + 1, bo', bc', false, _, by simp, rfl, rfl, by omega, by omega, by omega, ?_, ⟨j + nn, by rw [HW8.out, hj2, World.drewN_drewN]⟩⟩
                    have := HK3.out.2
                    rw [decide_eq_false HPO.out] at this; exact Hid.mk' (by simpa using this)
                  case measure =>
                    simp [intOf]
          · have hnq := fun W => str_nq_ne A4 B4 hab W
            have HAB : Hid (¬ Lz.four (Sums.bl s) c = Lz.four (Sums.bl s) p) := fun h => hab (HIFF.out.2 h)
            have hbl : (A4.toList == B4.toList) = false := by
              simp only [beq_eq_false_iff_ne, ne_eq]
              intro e
              rw [ByteArray.toList_eq, ByteArray.toList_eq] at e
              exact hab (ByteArray.ext (Array.toList_inj.1 e))
            clear hab HIFF
            go_wp2_with fail
            go_quiet (fail)
            go_wp2_with fail
            go_roundw
            case rel =>
              obtain ⟨j, hj2⟩ := hj.out
              exact ⟨c, many, bo, bc, found, _, rfl, rfl, rfl, by omega, by omega, hm32, hsc.out.skip HAB.out, ⟨j + nq, by rw [hj2, World.drewN_drewN]⟩⟩
            case measure =>
              simp [intOf]
end Go.Proofs.Ytchjmhgalbkjkab
