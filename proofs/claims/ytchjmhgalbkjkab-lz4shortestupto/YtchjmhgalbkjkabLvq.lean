/-
  packing: what any choices pack is no shorter. Conditions: the text has at most 4096 bytes; the list's cells are read as the argument's.
-/
import Derived.Test.YtchjmhgalbkjkabLvp
import Derived.Test.YtchjmhgalbkjkabSam
import Derived.Test.YtchjmhgalbkjkabMadB
import Derived.Test.YtchjmhgalbkjkabQk
namespace Go.Proofs.Ytchjmhgalbkjkab
open Go.RowKit Go.Shelf
set_option linter.unusedVariables false
set_option linter.unusedSimpArgs false
theorem nums_lenb (n : Nat) : (nums (Lz.lenb n)).size = Lz.lenz n := by
  rw [← lenb_lenz, nums_size]
set_option maxRecDepth 100000 in
set_option maxHeartbeats 4000000 in
theorem packing_any (s : ByteArray) (pp : Option Addr) (cap : Nat) (L : List Int) (R : Nat → Nat) (w : World) (hs : s.size ≤ 4096) (hR : R = Lz.rch (Sums.bl s) (s.size - 1)) (hz : ∀ z ∈ L, -9223372036854775808 ≤ z ∧ z ≤ 9223372036854775807) (hc : ∀ i, i < L.length → ∃ g off, pp = some ⟨g, off, none⟩ ∧ w.cell? ⟨g, off + i, none⟩ = some (.int .i64 (L.getD i 0))) :
    Calls Try.prog 10 #[.string s, .slice pp L.length cap] w fun e w' => ∃ N : Nat, e = .returned (.int .i64 (N : Int)) ∧ N ≤ 100000 ∧ (Lz.wv s.size R 0).1 ≤ N ∧ Below w.heap.size w w' := by
  have hsl := Sums.bl_length s
  obtain ⟨n, hn⟩ : ∃ n, s.size = n := ⟨_, rfl⟩
  have HZ := Hid.mk' hz
  have HC := Hid.mk' hc
  have HR := Hid.mk' (And.intro hR (And.intro hsl hn))
  obtain ⟨B, hB⟩ : ∃ B, (Lz.wv s.size R 0).1 = B := ⟨_, rfl⟩
  rw [hB]
  have HB := Hid.mk' hB
  clear hz hc hR hsl hn hB
  go_enter Try.func10, Try.ntmps10
  go_wp2
  go_loopw [5, 6, 7] (fun nv av iv wr => ∃ (nn a i : Nat), nv = .int .i64 (nn : Int) ∧ av = .int .i64 (a : Int) ∧ iv = .int .i64 (i : Int) ∧ a ≤ s.size ∧ nn ≤ 3 * a ∧ i ≤ 603 ∧ B ≤ nn + (Lz.wv s.size R a).1 ∧ Hid (Below w.heap.size w wr)) (fun _ _ iv _ => 603 - (intOf iv).toNat)
  case atStart => exact ⟨0, 0, 0, by simp, by simp, by simp, by omega, by omega, by omega, by rw [← HB.out]; omega, Below.refl _ _⟩
  case round =>
    obtain ⟨nn, a, i, rfl, rfl, rfl, has, hnn, hi, hbn, hbel⟩ := hrel
    rename World => wo
    have HBN := Hid.mk' hbn
    clear hbn
    by_cases hin : i + 2 < L.length ∧ i < 600
    · obtain ⟨hiL, hi6⟩ := hin
      have a1 : (i : Int) + 2 < (L.length : Int) := by omega
      have a1B : decide ((i : Int) + 2 < (L.length : Int)) = true := by simp; omega
      have a2 : (i : Int) < 600 := by omega
      have a2B : decide ((i : Int) < 600) = true := by simp; omega
      have i0I : (i : Int) < (L.length : Int) := by omega
      have i1I : (i : Int) + 1 < (L.length : Int) := by omega
      obtain ⟨g, off, rfl, hcell0⟩ := HC.out i (by omega)
      have hgl : g < w.heap.size := World.block_lt_of_cell? w ⟨g, off + i, none⟩ hcell0
      have hcells : ∀ (W : World), Below w.heap.size w W → ∀ j, j < L.length → W.cell? ⟨g, off + j, none⟩ = some (.int .i64 (L.getD j 0)) := by
        intro W hW j hj
        obtain ⟨g', off', e, hce⟩ := HC.out j hj
        cases e
        exact (hW.cell (p := ⟨g, off + j, none⟩) hgl).trans hce
      have hzs : ∀ j, j < L.length → -9223372036854775808 ≤ L.getD j 0 ∧ L.getD j 0 ≤ 9223372036854775807 := fun j hj => HZ.out _ (by rw [List.getD_eq_getElem?_getD, List.getElem?_eq_getElem hj]; exact List.getElem_mem hj)
      obtain ⟨z0, hz0⟩ : ∃ z, L.getD i 0 = z := ⟨_, rfl⟩
      obtain ⟨z1, hz1⟩ : ∃ z, L.getD (i + 1) 0 = z := ⟨_, rfl⟩
      obtain ⟨z2, hz2⟩ : ∃ z, L.getD (i + 2) 0 = z := ⟨_, rfl⟩
      have b0 := hzs i (by omega)
      have b1 := hzs (i + 1) (by omega)
      have b2 := hzs (i + 2) (by omega)
      rw [hz0] at b0
      rw [hz1] at b1
      rw [hz2] at b2
      have HCE : Hid (∀ (W : World), Below w.heap.size w W → W.cell? ⟨g, off + i, none⟩ = some (.int .i64 z0) ∧ W.cell? ⟨g, off + (i + 1), none⟩ = some (.int .i64 z1) ∧ W.cell? ⟨g, off + (i + 2), none⟩ = some (.int .i64 z2)) := fun W hW => ⟨by rw [← hz0]; exact hcells W hW i (by omega), by rw [← hz1]; exact hcells W hW (i + 1) (by omega), by rw [← hz2]; exact hcells W hW (i + 2) (by omega)⟩
      have HP0 := Hid.mk' (fun W => pick_det z0 40 W (by omega) (by omega) b0.1 b0.2)
      have HP1 := Hid.mk' (fun W => pick_det z1 50 W (by omega) (by omega) b1.1 b1.2)
      have l0 := pickN_lt z0 40 (by omega)
      have l1 := pickN_lt z1 50 (by omega)
      obtain ⟨k0, hk0⟩ : ∃ k, pickN z0 40 = k := ⟨_, rfl⟩
      obtain ⟨k1, hk1⟩ : ∃ k, pickN z1 50 = k := ⟨_, rfl⟩
      rw [hk0] at HP0 l0
      rw [hk1] at HP1 l1
      have HB2 := Hid.mk' b2
      obtain ⟨d0, d1, d2⟩ := HCE.out wo hbel.out
      obtain ⟨p, hp⟩ : ∃ p, a + k0 = p := ⟨_, rfl⟩
      have hpI : (a : Int) + (k0 : Int) = (p : Int) := by omega
      clear hcell0 hcells hzs hz0 hz1 hz2 b0 b1 b2 hk0 hk1 hgl
      by_cases hp12 : p + 12 ≤ s.size
      · have hp12I : ¬ (s.size : Int) - 12 < (p : Int) := by omega
        have hps : p ≤ s.size := by omega
        have hap : a ≤ p := by omega
        have HPP := Hid.mk' hp
        clear hp
        go_upto_block 2 with (first | (go_at_call_of 8 z0; refine (HP0.out _).mono ?_; rintro e w' ⟨rfl, hw'⟩; have hw2 := hw'.symm; subst hw2) | (go_at_call_of 8 z1; refine (HP1.out _).mono ?_; rintro e w' ⟨rfl, hw'⟩; have hw2 := hw'.symm; subst hw2) | fail)
        go_cut [9] (fun cv wc => Hid (∃ j, wc = wo.drewN j) ∧ ∃ cI : Int, cv = .int .i64 cI ∧ -60 ≤ cI ∧ cI < (p : Int) ∧ (0 ≤ cI → 4 ≤ Lz.agree (Sums.bl s) cI.toNat p))
        case first =>
          go_wp2_with fail
          go_loopw [9] (fun cv wx => Hid (∃ j, wx = wo.drewN j) ∧ ∃ cI : Int, cv = .int .i64 cI ∧ -60 ≤ cI ∧ cI < (p : Int)) (fun cv _ => (intOf cv + 60).toNat)
          case atStart => exact ⟨⟨0, rfl⟩, (p : Int) - 1 - (k1 : Int), rfl, by omega, by omega⟩
          case round =>
            obtain ⟨hj, cI, rfl, hc1, hc2⟩ := hrel
            by_cases h0 : cI < 0
            · have h0B : decide ((0 : Int) ≤ cI) = false := by simp; omega
              go_wp2_with fail
              go_meet
              exact ⟨hj, cI, rfl, hc1, hc2, fun h => by omega⟩
            · obtain ⟨c, rfl⟩ := Int.eq_ofNat_of_zero_le (show 0 ≤ cI by omega)
              have h0B : decide ((0 : Int) ≤ (c : Int)) = true := by simp
              have HSM := Hid.mk' (fun W => same_any s c p W (by omega) (by omega) (by omega))
              obtain ⟨M, hM⟩ : ∃ M, Lz.agree (Sums.bl s) c p = M := ⟨_, rfl⟩
              rw [hM] at HSM
              have HMM := Hid.mk' hM
              clear hM h0
              by_cases h4 : M < 4
              · have h4I : (M : Int) < 4 := by omega
                have h4B : decide ((M : Int) < 4) = true := by simp; omega
                go_wp2_with (go_at_call 9; refine (HSM.out _).mono ?_; rintro e w8 ⟨rfl, nd, hw8⟩; have HW8 := Hid.mk' hw8; clear hw8)
                go_roundw
                case rel =>
                  obtain ⟨j, hj2⟩ := hj.out
                  exact ⟨⟨j + nd, by rw [HW8.out, hj2, World.drewN_drewN]⟩, _, rfl, by omega, by omega⟩
                case measure =>
                  simp [intOf]
                  try omega
              · have h4I : ¬ (M : Int) < 4 := by omega
                have h4B : decide ((M : Int) < 4) = false := by simp; omega
                go_wp2_with (go_at_call 9; refine (HSM.out _).mono ?_; rintro e w8 ⟨rfl, nd, hw8⟩; have HW8 := Hid.mk' hw8; clear hw8)
                go_meet
                obtain ⟨j, hj2⟩ := hj.out
                exact ⟨⟨j + nd, by rw [HW8.out, hj2, World.drewN_drewN]⟩, (c : Int), rfl, by omega, by omega, fun _ => by rw [Int.toNat_natCast, HMM.out]; omega⟩
        case rest =>
          obtain ⟨hwc, cI, rfl, hc1, hc2, hag⟩ := hcut
          rename World => w6
          have HB6 : Hid (Below w.heap.size w w6) := by
            obtain ⟨j, rfl⟩ := hwc.out
            exact hbel.out.drewN' j
          clear hwc d0 d1 d2 HP0 HP1
          by_cases h0 : cI < 0
          · go_wp2_with fail
            go_roundw
            case rel => exact ⟨nn, a, i + 3, rfl, rfl, by simp, has, hnn, by omega, HBN.out, HB6⟩
            case measure =>
              simp [intOf]
              omega
          · obtain ⟨c, rfl⟩ := Int.eq_ofNat_of_zero_le (show 0 ≤ cI by omega)
            have h0I : ¬ (c : Int) < 0 := by omega
            obtain ⟨M, hM⟩ : ∃ M, Lz.agree (Sums.bl s) c p = M := ⟨_, rfl⟩
            have h4 : 4 ≤ M := by
              have := hag (by omega)
              rw [Int.toNat_natCast, hM] at this
              exact this
            have HSM := Hid.mk' (fun W => same_any s c p W (by omega) (by omega) (by omega))
            have hMle := Lz.agree_le (Sums.bl s) c p
            rw [HR.out.2.1, hM] at hMle
            have hMR : M ≤ R p := by
              have h := Lz.rch_max (Sums.bl s) (s.size - 1) p (p - c) (by omega) (by omega) (by omega) (by rw [HR.out.2.1]; exact hp12) (by rw [show p - (p - c) = c by omega, hM]; exact h4)
              rw [show p - (p - c) = c by omega, hM] at h
              rw [HR.out.1]
              exact h
            rw [hM] at HSM
            obtain ⟨M3, hM3⟩ : ∃ M3, M - 3 = M3 := ⟨_, rfl⟩
            have hM3I : (M : Int) - 3 = (M3 : Int) := by omega
            have HP2 := Hid.mk' (fun W => pick_det z2 (M3 : Int) W (by omega) (by omega) HB2.out.1 HB2.out.2)
            have l2 := pickN_lt z2 (M3 : Int) (by omega)
            obtain ⟨k2, hk2⟩ : ∃ k, pickN z2 (M3 : Int) = k := ⟨_, rfl⟩
            rw [hk2] at HP2 l2
            obtain ⟨m, hm⟩ : ∃ m, M - k2 = m := ⟨_, rfl⟩
            have hmI : (M : Int) - (k2 : Int) = (m : Int) := by omega
            have hm4 : 4 ≤ m := by omega
            have hmM : m ≤ M := by omega
            obtain ⟨ll, hll⟩ : ∃ ll, p - a = ll := ⟨_, rfl⟩
            have hllI : (p : Int) - (a : Int) = (ll : Int) := by omega
            obtain ⟨l3, hl3⟩ : ∃ l3, m - 4 = l3 := ⟨_, rfl⟩
            have hl3I : (m : Int) - 4 = (l3 : Int) := by omega
            have HL1 := Hid.mk' (fun w => lengthed_any ll w (by omega))
            have HL2 := Hid.mk' (fun w => lengthed_any l3 w (by omega))
            have hn1 := nums_lenb ll
            have hn2 := nums_lenb l3
            obtain ⟨Z1, hZ1⟩ : ∃ Z, nums (Lz.lenb ll) = Z := ⟨_, rfl⟩
            obtain ⟨Z2, hZ2⟩ : ∃ Z, nums (Lz.lenb l3) = Z := ⟨_, rfl⟩
            rw [hZ1] at HL1 hn1
            rw [hZ2] at HL2 hn2
            have hz1 := Lz.lenz_le ll
            have hz2 := Lz.lenz_le l3
            have hst := Lz.wv_step s.size R a p m hap hp12 hm4 (by omega)
            rw [hll, hl3, ← hn1, ← hn2] at hst
            rw [← hn1] at hz1
            rw [← hn2] at hz2
            have HSTP := Hid.mk' (And.intro hst (And.intro hll hl3))
            have hpm : p + m ≤ s.size := by omega
            have hMb : M ≤ 4096 := by omega
            have hM3b : M3 ≤ 4096 := by omega
            have hllb : ll ≤ 4096 := by omega
            have hl3b : l3 ≤ 4096 := by omega
            have hnb : nn ≤ 12288 := by omega
            clear hM hMle hMR hM3 hk2 hm hll hl3 hn1 hn2 hZ1 hZ2 hst hag hc1 h0
            go_wp2_with (first | (go_at_call 9; refine (HSM.out _).mono ?_; rintro e w7 ⟨rfl, nd, hw7⟩; have HB7 : Hid (Below w.heap.size w w7) := (by rw [hw7]; exact HB6.out.drewN' nd); obtain ⟨d0, d1, d2⟩ := HCE.out w7 HB7.out; clear hw7) | (go_at_call_of 8 z2; refine (HP2.out _).mono ?_; rintro e w' ⟨rfl, hw'⟩; have hw2 := hw'.symm; subst hw2) | (go_at_call_of 16 ll; refine (HL1.out _).mono ?_; rintro e w8 ⟨rfl, hb8⟩; have HB8 := Hid.mk' (below_up2 HB7.out HB7.out.size hb8); clear hb8) | (go_at_call_of 16 l3; refine (HL2.out _).mono ?_; rintro e w9 ⟨rfl, hb9⟩; have HB9 := Hid.mk' (below_up2 HB8.out HB8.out.size hb9); clear hb9) | fail)
            go_roundw
            case rel =>
              have h1 := HSTP.out.1
              have h2 := HSTP.out.2
              have h3 := HBN.out
              refine ⟨nn + 1 + Z1.size + p - a + 2 + Z2.size, p + m, i + 3, ?_, by simp, by simp, by omega, by omega, by omega, by omega, HB9⟩
              congr 1
              omega
            case measure =>
              simp [intOf]
              omega
      · have hp12I : (s.size : Int) - 12 < (p : Int) := by omega
        obtain ⟨lf, hlf⟩ : ∃ lf, s.size - a = lf := ⟨_, rfl⟩
        have hlfI : (s.size : Int) - (a : Int) = (lf : Int) := by omega
        have HLG := Hid.mk' (fun w => lengthed_any lf w (by omega))
        have hnl := nums_lenb lf
        obtain ⟨Z, hZ⟩ : ∃ Z, nums (Lz.lenb lf) = Z := ⟨_, rfl⟩
        rw [hZ] at HLG hnl
        have hlz := Lz.lenz_le lf
        have hend := Lz.wv_end s.size R a has
        rw [hlf, ← hnl] at hend
        have HEND := Hid.mk' (And.intro hend (And.intro hnl hlz))
        have hZs : Z.size ≤ 4096 := by omega
        clear hend hnl hlz hZ hp
        go_wp2_with (first | (go_at_call 8; refine (HP0.out _).mono ?_; rintro e w' ⟨rfl, hw'⟩; have hw2 := hw'.symm; subst hw2) | (go_at_call 16; refine (HLG.out _).mono ?_; rintro e w4 ⟨rfl, hb4⟩; have HB4 := Hid.mk' (below_up2 hbel.out hbel.out.size hb4); clear hb4) | fail)
        go_ret
        have h1 := HEND.out.1
        have h2 := HBN.out
        exact ⟨nn + 1 + Z.size + s.size - a, ret_i (by omega), by omega, by omega, HB4.out⟩
    · have hx : (decide ((i : Int) + 2 < (L.length : Int)) = false ∧ ¬ (i : Int) + 2 < (L.length : Int)) ∨ (decide ((i : Int) + 2 < (L.length : Int)) = true ∧ (i : Int) + 2 < (L.length : Int) ∧ decide ((i : Int) < 600) = false ∧ ¬ (i : Int) < 600) := by
        by_cases h : i + 2 < L.length
        · right
          refine ⟨by simp; omega, by omega, by simp; omega, by omega⟩
        · left
          exact ⟨by simp; omega, by omega⟩
      clear hin
      obtain ⟨lf, hlf⟩ : ∃ lf, s.size - a = lf := ⟨_, rfl⟩
      have hlfI : (s.size : Int) - (a : Int) = (lf : Int) := by omega
      have HLG := Hid.mk' (fun w => lengthed_any lf w (by omega))
      have hnl := nums_lenb lf
      obtain ⟨Z, hZ⟩ : ∃ Z, nums (Lz.lenb lf) = Z := ⟨_, rfl⟩
      rw [hZ] at HLG hnl
      have hlz := Lz.lenz_le lf
      have hend := Lz.wv_end s.size R a has
      rw [hlf, ← hnl] at hend
      have HEND := Hid.mk' (And.intro hend (And.intro hnl hlz))
      have hZs : Z.size ≤ 4096 := by omega
      clear hend hnl hlz hZ
      rcases hx with ⟨x1, x2⟩ | ⟨x1, x2, x3, x4⟩
      · go_wp2_with (go_at_call 16; refine (HLG.out _).mono ?_; rintro e w4 ⟨rfl, hb4⟩; have HB4 := Hid.mk' (below_up2 hbel.out hbel.out.size hb4); clear hb4)
        go_ret
        have h1 := HEND.out.1
        have h2 := HBN.out
        exact ⟨nn + 1 + Z.size + s.size - a, ret_i (by omega), by omega, by omega, HB4.out⟩
      · go_wp2_with (go_at_call 16; refine (HLG.out _).mono ?_; rintro e w4 ⟨rfl, hb4⟩; have HB4 := Hid.mk' (below_up2 hbel.out hbel.out.size hb4); clear hb4)
        go_ret
        have h1 := HEND.out.1
        have h2 := HBN.out
        exact ⟨nn + 1 + Z.size + s.size - a, ret_i (by omega), by omega, by omega, HB4.out⟩
end Go.Proofs.Ytchjmhgalbkjkab
