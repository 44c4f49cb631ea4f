/-
  dragnetlaw7.ManyFinds, for every input with texts of at most 16777216 bytes. Conditions: as it says.
-/
import Derived.Test.YtlbfnchjbpioeaaFzC
namespace Go.Proofs.Ytlbfnchjbpioeaa
open Go.RowKit Go.Shelf
set_option linter.unusedVariables false
theorem kept_and {K1 K2 : World → Prop} (h1 : Kept K1) (h2 : Kept K2) : Kept (fun V => K1 V ∧ K2 V) := fun V V' hb h => ⟨h1 V V' hb h.1, h2 V V' hb h.2⟩
set_option maxRecDepth 100000 in
set_option maxHeartbeats 4000000 in
theorem manyFinds_any (p1 : Option Addr) (cap1 : Nat) (R1 : List ByteArray) (p2 : Option Addr) (cap2 : Nat) (R2 : List ByteArray) (fold : Bool) (pa : Option Addr) (na ca : Nat) (TT : Nat → ByteArray) (FF MM : Nat → Int) (leave : Int) (w : World) (h1 : StrAt w p1 R1) (hl1 : R1.length ≤ 8796093022208) (hR1 : ∀ x ∈ R1, x.size ≤ 140737488351232) (h2 : StrAt w p2 R2) (hl2 : R2.length ≤ 8796093022208) (hR2 : ∀ x ∈ R2, x.size ≤ 140737488351232)
    (hna : na ≤ 140737488351232) (hz : ∀ i, i < na → (TT i).size ≤ 16777216 ∧ (-9223372036854775808 ≤ FF i ∧ FF i ≤ 9223372036854775807) ∧ (-9223372036854775808 ≤ MM i ∧ MM i ≤ 9223372036854775807)) (hca : ∀ i, i < na → ∃ g off, pa = some ⟨g, off, none⟩ ∧ w.cell? ⟨g, off + i * 3, none⟩ = some (.string (TT i)) ∧ w.cell? ⟨g, off + i * 3 + 1, none⟩ = some (.int .i64 (FF i)) ∧ w.cell? ⟨g, off + i * 3 + 2, none⟩ = some (.int .i64 (MM i))) (hv1 : -9223372036854775808 ≤ leave) (hv2 : leave ≤ 9223372036854775807) :
    Calls Try.prog 4 #[.slice p1 R1.length cap1, .slice p2 R2.length cap2, .bool fold, .slice pa na ca, .int .i64 leave] w fun e w' => e = .returned (.bool true) ∧ Below w.heap.size w w' := by
  obtain ⟨b, hb⟩ : ∃ b, w.heap.size = b := ⟨_, rfl⟩
  obtain ⟨n1, hn1⟩ : ∃ n1, R1.length = n1 := ⟨_, rfl⟩
  obtain ⟨n2, hn2⟩ : ∃ n2, R2.length = n2 := ⟨_, rfl⟩
  rw [hn1] at hl1 ⊢
  rw [hn2] at hl2 ⊢
  rw [hb]
  have HS1 := Hid.mk' (And.intro h1 hn1)
  have HS2 := Hid.mk' (And.intro h2 hn2)
  have HB := Hid.mk' hb
  have HR1 := Hid.mk' hR1
  have HR2 := Hid.mk' hR2
  have HZ := Hid.mk' hz
  have HCA := Hid.mk' hca
  have HSH := Hid.mk' (shown_any w)
  rw [hb] at HSH
  obtain ⟨nf, hnf⟩ : ∃ nf, (!fold) = nf := ⟨_, rfl⟩
  have HLV := Hid.mk' (And.intro hv1 hv2)
  clear h1 h2 hn1 hn2 hb hR1 hR2 hz hca hv1 hv2
  rcases Mn.good_or fold R1 with hg1 | ⟨k1, hg1⟩
  · have HG1 := Hid.mk' hg1
    clear hg1
    rcases Mn.good_or nf R2 with hg2 | ⟨k2, hg2⟩
    · have HG2 := Hid.mk' hg2
      clear hg2
      go_enter Try.func4, Try.ntmps4
      go_wp2_with (first
        | (go_at_call 7; refine HSH.out.mono ?_; rintro e w1 ⟨rfl, hb1⟩; have HB1 := Hid.mk' hb1; clear hb1 HSH)
        | (go_at_call 8; refine (mk_lent cap1 HS1.out.1 HB.out HB1.out HS1.out.2 hl1).mono ?_; rintro e w2 ⟨b1, rfl, hm2⟩; have HM2 := Hid.mk' hm2; clear hm2 HB1)
        | (go_at_call 9; refine (mk_newG HM2.out HG1.out HR1.out).mono ?_; rintro e w3 ⟨sb, rfl, hm3⟩; have HM3 := Hid.mk' hm3; clear hm3 HM2)
        | (go_at_call 10; refine (mk_refG cap1 HM3.out HG1.out HR1.out).mono ?_; rintro e w4 ⟨rg, rfl, hm4⟩; have HM4 := Hid.mk' hm4; clear hm4 HM3)
        | fail)
      obtain ⟨K1, hK1, hT1, HM5⟩ : ∃ K1 : World → Prop, (∀ V i u, K1 V → K1 (V.setCell ⟨b1, i, none⟩ u)) ∧ Hid (∀ V, K1 V → TwoM b1 sb rg fold R1 V) ∧ Hid (MkP K1 b b1 n1 R1 w w4) := ⟨_, fun V i u h => ⟨trivial, two_set h.2 i u⟩, fun V h => h.2, HM4.out.toMkP⟩
      have HK1 := Hid.mk' hK1
      clear HM4 hK1
      go_loopw [19] (fun iv wr => ∃ i : Nat, iv = .int .i64 (i : Int) ∧ i ≤ n1 ∧ Hid (∃ R', MkP K1 b b1 n1 R' w wr)) (fun iv _ => n1 - (intOf iv).toNat)
      case atStart => exact ⟨0, rfl, by omega, R1, HM5.out⟩
      case round =>
        obtain ⟨i, rfl, hi, hst⟩ := hrel
        rename World => wr
        clear HM5
        by_cases hin : i < n1
        · have hinI : (i : Int) < (n1 : Int) := by omega
          obtain ⟨R', hm⟩ := hst.out
          obtain ⟨c1, f1⟩ := hm.cell i hin
          have HP : Hid (∃ R', MkP K1 b b1 n1 R' w (wr.setCell ⟨b1, i, none⟩ (.string ⟨#[111, 118, 101, 114]⟩))) := Hid.mk' ⟨_, hm.put i ⟨#[111, 118, 101, 114]⟩ hin (HK1.out _ _ _ hm.ex)⟩
          clear hst hm
          go_wp2_with fail
          go_roundw
          case rel => exact ⟨i + 1, by simp, by omega, HP⟩
          case measure =>
            simp [intOf]
            omega
        · have e9 : n1 = i := by omega
          subst e9
          have hinI : ¬ (n1 : Int) < (n1 : Int) := by omega
          obtain ⟨R', hm⟩ := hst.out
          have HM6 := Hid.mk' (And.intro hm.bel (And.intro hm.kp hm.ex))
          clear hst hm HK1
          go_wp2_with (first
            | (go_at_call 8; refine (mk_lentK cap2 HS2.out.1 HB.out HM6.out.1 HS2.out.2 hl2 HM6.out.2.1 HM6.out.2.2).mono ?_; rintro e w6 ⟨b2, rfl, hm7⟩; have HM7 := Hid.mk' hm7; clear hm7 HM6)
            | (go_at_call 9; refine (mk_newG HM7.out HG2.out HR2.out).mono ?_; rintro e w7 ⟨sb2, rfl, hm8⟩; have HM8 := Hid.mk' hm8; clear hm8 HM7)
            | (go_at_call 10; refine (mk_refG cap2 HM8.out HG2.out HR2.out).mono ?_; rintro e w8 ⟨rg2, rfl, hm9⟩; have HM9 := Hid.mk' hm9; obtain ⟨g, hg⟩ : ∃ g, w8.heap.size = g := ⟨_, rfl⟩; clear hm9 HM8)
            | fail)
          have HF0 : Hid (FdW g 0 w8 (w8.alloc (.cells #[.slice none 0 0, .slice none 0 0, .slice none 0 0] 40))) := Hid.mk' (FdW.start hg)
          have HA1 : Hid (AnsW g R1 fold sb rg w8) := Hid.mk' (ansW_of (hT1.out _ HM9.out.ex.1) HG1.out hg)
          have HA2 : Hid (AnsW g R2 nf sb2 rg2 w8) := Hid.mk' (ansW_of HM9.out.ex.2 HG2.out hg)
          have HBL := Hid.mk' HM9.out.bel
          have hbg : b ≤ g := by rw [← HB.out, ← hg]; exact HM9.out.bel.size
          have HCX : Hid (∀ X i, Below g w8 X → i < na → ∃ g off, pa = some ⟨g, off, none⟩ ∧ X.cell? ⟨g, off + i * 3, none⟩ = some (.string (TT i)) ∧ X.cell? ⟨g, off + i * 3 + 1, none⟩ = some (.int .i64 (FF i)) ∧ X.cell? ⟨g, off + i * 3 + 2, none⟩ = some (.int .i64 (MM i))) := fun X i hX hi => by
            obtain ⟨ga, off, h1, h2, h3, h4⟩ := HCA.out i hi
            have hlt : ga < b := by rw [← HB.out]; exact World.block_lt_of_cell? w ⟨ga, off + i * 3, none⟩ h2
            have hk : X.heap[ga]? = w.heap[ga]? := (hX.block ga (by omega)).trans (HBL.out.block ga hlt)
            exact ⟨ga, off, h1, (World.cell?_of_block (a := ⟨ga, off + i * 3, none⟩) hk).trans h2, (World.cell?_of_block (a := ⟨ga, off + i * 3 + 1, none⟩) hk).trans h3, (World.cell?_of_block (a := ⟨ga, off + i * 3 + 2, none⟩) hk).trans h4⟩
          clear HM9 hg hT1
          go_loopw [27, 28, 29] (fun iv ov tv wx => ∃ j k : Nat, iv = .int .i64 (j : Int) ∧ j ≤ na ∧ j ≤ 40 ∧ k ≤ 4 * j ∧ Hid (FdW g k w8 wx)) (fun iv ov tv _ => 40 - (intOf iv).toNat)
          case atStart => exact ⟨0, 0, rfl, by omega, by omega, by omega, HF0⟩
          case round =>
            obtain ⟨j, k, rfl, hj, hj4, hk, hfd⟩ := hrel
            rename World => wx
            clear HF0
            by_cases hja : j < na ∧ j < 40
            · obtain ⟨hj1, hj2⟩ := hja
              have hjI : (j : Int) < (na : Int) := by omega
              have hjI2 : (j : Int) < 40 := by omega
              obtain ⟨ga, off, hpa, x1, x2, x3⟩ := HCX.out wx j hfd.out.bel hj1
              have HZJ := Hid.mk' (HZ.out j hj1)
              have HCJ : Hid (∀ X, Below g w8 X → ∃ g off, pa = some ⟨g, off, none⟩ ∧ X.cell? ⟨g, off + j * 3, none⟩ = some (.string (TT j)) ∧ X.cell? ⟨g, off + j * 3 + 1, none⟩ = some (.int .i64 (FF j)) ∧ X.cell? ⟨g, off + j * 3 + 2, none⟩ = some (.int .i64 (MM j))) := fun X hX => HCX.out X j hX hj1
              generalize TT j = tj at x1 HZJ HCJ
              generalize FF j = fj at x2 HZJ HCJ
              generalize MM j = mj at x3 HZJ HCJ
              subst hpa
              have hk9 : k ≤ 160 := by omega
              go_wp2_with (first
                | (go_at_call 15; refine (hfd.out.ask HA1.out (by omega) tj fj mj leave HZJ.out.1 HZJ.out.2.1 HZJ.out.2.2 HLV.out).mono ?_; rintro e wy ⟨rfl, k2, hk2, hf2⟩; have HF2 := Hid.mk' hf2; obtain ⟨ga2, off2, hpa2, y1, y2, y3⟩ := HCJ.out wy hf2.bel; cases hpa2; clear hf2 hfd x1 x2 x3)
                | (go_at_call 15; refine (HF2.out.ask HA2.out (by omega) tj fj mj leave HZJ.out.1 HZJ.out.2.1 HZJ.out.2.2 HLV.out).mono ?_; rintro e wz ⟨rfl, k3, hk3, hf3⟩; have HF3 := Hid.mk' hf3; clear hf3 HF2)
                | fail)
              go_roundw
              case rel => exact ⟨j + 1, k3, by simp, by omega, by omega, by omega, HF3⟩
              case measure =>
                simp [intOf]
                omega
            · have hkb : k ≤ 900 := by omega
              have HST := Hid.mk' (hfd.out.settles hkb)
              by_cases hj1 : j < na
              · have hjI : (j : Int) < (na : Int) := by omega
                have hjI2 : ¬ (j : Int) < 40 := by omega
                go_wp2_with (first | (go_at_call 16; refine HST.out.mono ?_; rintro e wz ⟨rfl, hbz⟩; have HBZ := Hid.mk' hbz; clear hbz) | fail)
                go_ret
                exact ⟨rfl, HBL.out.trans ⟨HBZ.out.os, HBZ.out.tape, HBZ.out.output, HBZ.out.size, fun k hk => HBZ.out.block k (by omega)⟩⟩
              · have hjI : ¬ (j : Int) < (na : Int) := by omega
                go_wp2_with (first | (go_at_call 16; refine HST.out.mono ?_; rintro e wz ⟨rfl, hbz⟩; have HBZ := Hid.mk' hbz; clear hbz) | fail)
                go_ret
                exact ⟨rfl, HBL.out.trans ⟨HBZ.out.os, HBZ.out.tape, HBZ.out.output, HBZ.out.size, fun k hk => HBZ.out.block k (by omega)⟩⟩
    · have HG2 := Hid.mk' hg2
      clear hg2
      go_enter Try.func4, Try.ntmps4
      go_wp2_with (first
        | (go_at_call 7; refine HSH.out.mono ?_; rintro e w1 ⟨rfl, hb1⟩; have HB1 := Hid.mk' hb1; clear hb1 HSH)
        | (go_at_call 8; refine (mk_lent cap1 HS1.out.1 HB.out HB1.out HS1.out.2 hl1).mono ?_; rintro e w2 ⟨b1, rfl, hm2⟩; have HM2 := Hid.mk' hm2; clear hm2 HB1)
        | (go_at_call 9; refine (mk_newG HM2.out HG1.out HR1.out).mono ?_; rintro e w3 ⟨sb, rfl, hm3⟩; have HM3 := Hid.mk' hm3; clear hm3 HM2)
        | (go_at_call 10; refine (mk_refG cap1 HM3.out HG1.out HR1.out).mono ?_; rintro e w4 ⟨rg, rfl, hm4⟩; have HM4 := Hid.mk' hm4; clear hm4 HM3)
        | fail)
      obtain ⟨K1, hK1, hT1, HM5⟩ : ∃ K1 : World → Prop, (∀ V i u, K1 V → K1 (V.setCell ⟨b1, i, none⟩ u)) ∧ Hid (∀ V, K1 V → TwoM b1 sb rg fold R1 V) ∧ Hid (MkP K1 b b1 n1 R1 w w4) := ⟨_, fun V i u h => ⟨trivial, two_set h.2 i u⟩, fun V h => h.2, HM4.out.toMkP⟩
      have HK1 := Hid.mk' hK1
      clear HM4 hK1
      go_loopw [19] (fun iv wr => ∃ i : Nat, iv = .int .i64 (i : Int) ∧ i ≤ n1 ∧ Hid (∃ R', MkP K1 b b1 n1 R' w wr)) (fun iv _ => n1 - (intOf iv).toNat)
      case atStart => exact ⟨0, rfl, by omega, R1, HM5.out⟩
      case round =>
        obtain ⟨i, rfl, hi, hst⟩ := hrel
        rename World => wr
        clear HM5
        by_cases hin : i < n1
        · have hinI : (i : Int) < (n1 : Int) := by omega
          obtain ⟨R', hm⟩ := hst.out
          obtain ⟨c1, f1⟩ := hm.cell i hin
          have HP : Hid (∃ R', MkP K1 b b1 n1 R' w (wr.setCell ⟨b1, i, none⟩ (.string ⟨#[111, 118, 101, 114]⟩))) := Hid.mk' ⟨_, hm.put i ⟨#[111, 118, 101, 114]⟩ hin (HK1.out _ _ _ hm.ex)⟩
          clear hst hm
          go_wp2_with fail
          go_roundw
          case rel => exact ⟨i + 1, by simp, by omega, HP⟩
          case measure =>
            simp [intOf]
            omega
        · have e9 : n1 = i := by omega
          subst e9
          have hinI : ¬ (n1 : Int) < (n1 : Int) := by omega
          obtain ⟨R', hm⟩ := hst.out
          have HM6 := Hid.mk' (And.intro hm.bel (And.intro hm.kp hm.ex))
          clear hst hm HK1
          go_wp2_with (first
            | (go_at_call 8; refine (mk_lentK cap2 HS2.out.1 HB.out HM6.out.1 HS2.out.2 hl2 HM6.out.2.1 HM6.out.2.2).mono ?_; rintro e w6 ⟨b2, rfl, hm7⟩; have HM7 := Hid.mk' hm7; clear hm7 HM6)
            | (go_at_call 9; refine (mk_newB k2 HM7.out HG2.out hl2 HR2.out).mono ?_; rintro e w7 ⟨rfl, hm8⟩; have HM8 := Hid.mk' hm8; clear hm8 HM7)
            | (go_at_call 10; refine (mk_refB k2 cap2 HM8.out HG2.out hl2 HR2.out).mono ?_; rintro e w8 ⟨rfl, hm9⟩; have HM9 := Hid.mk' hm9; obtain ⟨g, hg⟩ : ∃ g, w8.heap.size = g := ⟨_, rfl⟩; clear hm9 HM8)
            | fail)
          have HF0 : Hid (FdW g 0 w8 (w8.alloc (.cells #[.slice none 0 0, .slice none 0 0, .slice none 0 0] 40))) := Hid.mk' (FdW.start hg)
          have HA1 : Hid (AnsW g R1 fold sb rg w8) := Hid.mk' (ansW_of (hT1.out _ HM9.out.ex) HG1.out hg)
          have HBL := Hid.mk' HM9.out.bel
          have hbg : b ≤ g := by rw [← HB.out, ← hg]; exact HM9.out.bel.size
          have HCX : Hid (∀ X i, Below g w8 X → i < na → ∃ g off, pa = some ⟨g, off, none⟩ ∧ X.cell? ⟨g, off + i * 3, none⟩ = some (.string (TT i)) ∧ X.cell? ⟨g, off + i * 3 + 1, none⟩ = some (.int .i64 (FF i)) ∧ X.cell? ⟨g, off + i * 3 + 2, none⟩ = some (.int .i64 (MM i))) := fun X i hX hi => by
            obtain ⟨ga, off, h1, h2, h3, h4⟩ := HCA.out i hi
            have hlt : ga < b := by rw [← HB.out]; exact World.block_lt_of_cell? w ⟨ga, off + i * 3, none⟩ h2
            have hk : X.heap[ga]? = w.heap[ga]? := (hX.block ga (by omega)).trans (HBL.out.block ga hlt)
            exact ⟨ga, off, h1, (World.cell?_of_block (a := ⟨ga, off + i * 3, none⟩) hk).trans h2, (World.cell?_of_block (a := ⟨ga, off + i * 3 + 1, none⟩) hk).trans h3, (World.cell?_of_block (a := ⟨ga, off + i * 3 + 2, none⟩) hk).trans h4⟩
          clear HM9 hg hT1
          go_loopw [27, 28, 29] (fun iv ov tv wx => ∃ j k : Nat, iv = .int .i64 (j : Int) ∧ j ≤ na ∧ j ≤ 40 ∧ k ≤ 4 * j ∧ Hid (FdW g k w8 wx)) (fun iv ov tv _ => 40 - (intOf iv).toNat)
          case atStart => exact ⟨0, 0, rfl, by omega, by omega, by omega, HF0⟩
          case round =>
            obtain ⟨j, k, rfl, hj, hj4, hk, hfd⟩ := hrel
            rename World => wx
            clear HF0
            by_cases hja : j < na ∧ j < 40
            · obtain ⟨hj1, hj2⟩ := hja
              have hjI : (j : Int) < (na : Int) := by omega
              have hjI2 : (j : Int) < 40 := by omega
              obtain ⟨ga, off, hpa, x1, x2, x3⟩ := HCX.out wx j hfd.out.bel hj1
              have HZJ := Hid.mk' (HZ.out j hj1)
              have HCJ : Hid (∀ X, Below g w8 X → ∃ g off, pa = some ⟨g, off, none⟩ ∧ X.cell? ⟨g, off + j * 3, none⟩ = some (.string (TT j)) ∧ X.cell? ⟨g, off + j * 3 + 1, none⟩ = some (.int .i64 (FF j)) ∧ X.cell? ⟨g, off + j * 3 + 2, none⟩ = some (.int .i64 (MM j))) := fun X hX => HCX.out X j hX hj1
              generalize TT j = tj at x1 HZJ HCJ
              generalize FF j = fj at x2 HZJ HCJ
              generalize MM j = mj at x3 HZJ HCJ
              subst hpa
              have hk9 : k ≤ 160 := by omega
              go_wp2_with (first
                | (go_at_call 15; refine (hfd.out.ask HA1.out (by omega) tj fj mj leave HZJ.out.1 HZJ.out.2.1 HZJ.out.2.2 HLV.out).mono ?_; rintro e wy ⟨rfl, k2, hk2, hf2⟩; have HF2 := Hid.mk' hf2; obtain ⟨ga2, off2, hpa2, y1, y2, y3⟩ := HCJ.out wy hf2.bel; cases hpa2; clear hf2 hfd x1 x2 x3)
                | fail)
              go_roundw
              case rel => exact ⟨j + 1, k2, by simp, by omega, by omega, by omega, HF2⟩
              case measure =>
                simp [intOf]
                omega
            · have hkb : k ≤ 900 := by omega
              have HST := Hid.mk' (hfd.out.settles hkb)
              by_cases hj1 : j < na
              · have hjI : (j : Int) < (na : Int) := by omega
                have hjI2 : ¬ (j : Int) < 40 := by omega
                go_wp2_with (first | (go_at_call 16; refine HST.out.mono ?_; rintro e wz ⟨rfl, hbz⟩; have HBZ := Hid.mk' hbz; clear hbz) | fail)
                go_ret
                exact ⟨rfl, HBL.out.trans ⟨HBZ.out.os, HBZ.out.tape, HBZ.out.output, HBZ.out.size, fun k hk => HBZ.out.block k (by omega)⟩⟩
              · have hjI : ¬ (j : Int) < (na : Int) := by omega
                go_wp2_with (first | (go_at_call 16; refine HST.out.mono ?_; rintro e wz ⟨rfl, hbz⟩; have HBZ := Hid.mk' hbz; clear hbz) | fail)
                go_ret
                exact ⟨rfl, HBL.out.trans ⟨HBZ.out.os, HBZ.out.tape, HBZ.out.output, HBZ.out.size, fun k hk => HBZ.out.block k (by omega)⟩⟩
  · have HG1 := Hid.mk' hg1
    clear hg1
    rcases Mn.good_or nf R2 with hg2 | ⟨k2, hg2⟩
    · have HG2 := Hid.mk' hg2
      clear hg2
      go_enter Try.func4, Try.ntmps4
      go_wp2_with (first
        | (go_at_call 7; refine HSH.out.mono ?_; rintro e w1 ⟨rfl, hb1⟩; have HB1 := Hid.mk' hb1; clear hb1 HSH)
        | (go_at_call 8; refine (mk_lent cap1 HS1.out.1 HB.out HB1.out HS1.out.2 hl1).mono ?_; rintro e w2 ⟨b1, rfl, hm2⟩; have HM2 := Hid.mk' hm2; clear hm2 HB1)
        | (go_at_call 9; refine (mk_newB k1 HM2.out HG1.out hl1 HR1.out).mono ?_; rintro e w3 ⟨rfl, hm3⟩; have HM3 := Hid.mk' hm3; clear hm3 HM2)
        | (go_at_call 10; refine (mk_refB k1 cap1 HM3.out HG1.out hl1 HR1.out).mono ?_; rintro e w4 ⟨rfl, hm4⟩; have HM4 := Hid.mk' hm4; clear hm4 HM3)
        | fail)
      obtain ⟨K1, hK1, HM5⟩ : ∃ K1 : World → Prop, (∀ V i u, K1 V → K1 (V.setCell ⟨b1, i, none⟩ u)) ∧ Hid (MkP K1 b b1 n1 R1 w w4) := ⟨_, fun V i u h => trivial, HM4.out.toMkP⟩
      have HK1 := Hid.mk' hK1
      clear HM4 hK1
      go_loopw [19] (fun iv wr => ∃ i : Nat, iv = .int .i64 (i : Int) ∧ i ≤ n1 ∧ Hid (∃ R', MkP K1 b b1 n1 R' w wr)) (fun iv _ => n1 - (intOf iv).toNat)
      case atStart => exact ⟨0, rfl, by omega, R1, HM5.out⟩
      case round =>
        obtain ⟨i, rfl, hi, hst⟩ := hrel
        rename World => wr
        clear HM5
        by_cases hin : i < n1
        · have hinI : (i : Int) < (n1 : Int) := by omega
          obtain ⟨R', hm⟩ := hst.out
          obtain ⟨c1, f1⟩ := hm.cell i hin
          have HP : Hid (∃ R', MkP K1 b b1 n1 R' w (wr.setCell ⟨b1, i, none⟩ (.string ⟨#[111, 118, 101, 114]⟩))) := Hid.mk' ⟨_, hm.put i ⟨#[111, 118, 101, 114]⟩ hin (HK1.out _ _ _ hm.ex)⟩
          clear hst hm
          go_wp2_with fail
          go_roundw
          case rel => exact ⟨i + 1, by simp, by omega, HP⟩
          case measure =>
            simp [intOf]
            omega
        · have e9 : n1 = i := by omega
          subst e9
          have hinI : ¬ (n1 : Int) < (n1 : Int) := by omega
          obtain ⟨R', hm⟩ := hst.out
          have HM6 := Hid.mk' (And.intro hm.bel (And.intro hm.kp hm.ex))
          clear hst hm HK1
          go_wp2_with (first
            | (go_at_call 8; refine (mk_lentK cap2 HS2.out.1 HB.out HM6.out.1 HS2.out.2 hl2 HM6.out.2.1 HM6.out.2.2).mono ?_; rintro e w6 ⟨b2, rfl, hm7⟩; have HM7 := Hid.mk' hm7; clear hm7 HM6)
            | (go_at_call 9; refine (mk_newG HM7.out HG2.out HR2.out).mono ?_; rintro e w7 ⟨sb2, rfl, hm8⟩; have HM8 := Hid.mk' hm8; clear hm8 HM7)
            | (go_at_call 10; refine (mk_refG cap2 HM8.out HG2.out HR2.out).mono ?_; rintro e w8 ⟨rg2, rfl, hm9⟩; have HM9 := Hid.mk' hm9; obtain ⟨g, hg⟩ : ∃ g, w8.heap.size = g := ⟨_, rfl⟩; clear hm9 HM8)
            | fail)
          have HF0 : Hid (FdW g 0 w8 (w8.alloc (.cells #[.slice none 0 0, .slice none 0 0, .slice none 0 0] 40))) := Hid.mk' (FdW.start hg)
          have HA2 : Hid (AnsW g R2 nf sb2 rg2 w8) := Hid.mk' (ansW_of HM9.out.ex.2 HG2.out hg)
          have HBL := Hid.mk' HM9.out.bel
          have hbg : b ≤ g := by rw [← HB.out, ← hg]; exact HM9.out.bel.size
          have HCX : Hid (∀ X i, Below g w8 X → i < na → ∃ g off, pa = some ⟨g, off, none⟩ ∧ X.cell? ⟨g, off + i * 3, none⟩ = some (.string (TT i)) ∧ X.cell? ⟨g, off + i * 3 + 1, none⟩ = some (.int .i64 (FF i)) ∧ X.cell? ⟨g, off + i * 3 + 2, none⟩ = some (.int .i64 (MM i))) := fun X i hX hi => by
            obtain ⟨ga, off, h1, h2, h3, h4⟩ := HCA.out i hi
            have hlt : ga < b := by rw [← HB.out]; exact World.block_lt_of_cell? w ⟨ga, off + i * 3, none⟩ h2
            have hk : X.heap[ga]? = w.heap[ga]? := (hX.block ga (by omega)).trans (HBL.out.block ga hlt)
            exact ⟨ga, off, h1, (World.cell?_of_block (a := ⟨ga, off + i * 3, none⟩) hk).trans h2, (World.cell?_of_block (a := ⟨ga, off + i * 3 + 1, none⟩) hk).trans h3, (World.cell?_of_block (a := ⟨ga, off + i * 3 + 2, none⟩) hk).trans h4⟩
          clear HM9 hg
          go_loopw [27, 28, 29] (fun iv ov tv wx => ∃ j k : Nat, iv = .int .i64 (j : Int) ∧ j ≤ na ∧ j ≤ 40 ∧ k ≤ 4 * j ∧ Hid (FdW g k w8 wx)) (fun iv ov tv _ => 40 - (intOf iv).toNat)
          case atStart => exact ⟨0, 0, rfl, by omega, by omega, by omega, HF0⟩
          case round =>
            obtain ⟨j, k, rfl, hj, hj4, hk, hfd⟩ := hrel
            rename World => wx
            clear HF0
            by_cases hja : j < na ∧ j < 40
            · obtain ⟨hj1, hj2⟩ := hja
              have hjI : (j : Int) < (na : Int) := by omega
              have hjI2 : (j : Int) < 40 := by omega
              obtain ⟨ga, off, hpa, x1, x2, x3⟩ := HCX.out wx j hfd.out.bel hj1
              have HZJ := Hid.mk' (HZ.out j hj1)
              have HCJ : Hid (∀ X, Below g w8 X → ∃ g off, pa = some ⟨g, off, none⟩ ∧ X.cell? ⟨g, off + j * 3, none⟩ = some (.string (TT j)) ∧ X.cell? ⟨g, off + j * 3 + 1, none⟩ = some (.int .i64 (FF j)) ∧ X.cell? ⟨g, off + j * 3 + 2, none⟩ = some (.int .i64 (MM j))) := fun X hX => HCX.out X j hX hj1
              generalize TT j = tj at x1 HZJ HCJ
              generalize FF j = fj at x2 HZJ HCJ
              generalize MM j = mj at x3 HZJ HCJ
              subst hpa
              have hk9 : k ≤ 160 := by omega
              go_wp2_with (first
                | (go_at_call 15; refine (hfd.out.ask HA2.out (by omega) tj fj mj leave HZJ.out.1 HZJ.out.2.1 HZJ.out.2.2 HLV.out).mono ?_; rintro e wz ⟨rfl, k3, hk3, hf3⟩; have HF3 := Hid.mk' hf3; clear hf3 hfd)
                | fail)
              go_roundw
              case rel => exact ⟨j + 1, k3, by simp, by omega, by omega, by omega, HF3⟩
              case measure =>
                simp [intOf]
                omega
            · have hkb : k ≤ 900 := by omega
              have HST := Hid.mk' (hfd.out.settles hkb)
              by_cases hj1 : j < na
              · have hjI : (j : Int) < (na : Int) := by omega
                have hjI2 : ¬ (j : Int) < 40 := by omega
                go_wp2_with (first | (go_at_call 16; refine HST.out.mono ?_; rintro e wz ⟨rfl, hbz⟩; have HBZ := Hid.mk' hbz; clear hbz) | fail)
                go_ret
                exact ⟨rfl, HBL.out.trans ⟨HBZ.out.os, HBZ.out.tape, HBZ.out.output, HBZ.out.size, fun k hk => HBZ.out.block k (by omega)⟩⟩
              · have hjI : ¬ (j : Int) < (na : Int) := by omega
                go_wp2_with (first | (go_at_call 16; refine HST.out.mono ?_; rintro e wz ⟨rfl, hbz⟩; have HBZ := Hid.mk' hbz; clear hbz) | fail)
                go_ret
                exact ⟨rfl, HBL.out.trans ⟨HBZ.out.os, HBZ.out.tape, HBZ.out.output, HBZ.out.size, fun k hk => HBZ.out.block k (by omega)⟩⟩
    · have HG2 := Hid.mk' hg2
      clear hg2
      go_enter Try.func4, Try.ntmps4
      go_wp2_with (first
        | (go_at_call 7; refine HSH.out.mono ?_; rintro e w1 ⟨rfl, hb1⟩; have HB1 := Hid.mk' hb1; clear hb1 HSH)
        | (go_at_call 8; refine (mk_lent cap1 HS1.out.1 HB.out HB1.out HS1.out.2 hl1).mono ?_; rintro e w2 ⟨b1, rfl, hm2⟩; have HM2 := Hid.mk' hm2; clear hm2 HB1)
        | (go_at_call 9; refine (mk_newB k1 HM2.out HG1.out hl1 HR1.out).mono ?_; rintro e w3 ⟨rfl, hm3⟩; have HM3 := Hid.mk' hm3; clear hm3 HM2)
        | (go_at_call 10; refine (mk_refB k1 cap1 HM3.out HG1.out hl1 HR1.out).mono ?_; rintro e w4 ⟨rfl, hm4⟩; have HM4 := Hid.mk' hm4; clear hm4 HM3)
        | fail)
      obtain ⟨K1, hK1, HM5⟩ : ∃ K1 : World → Prop, (∀ V i u, K1 V → K1 (V.setCell ⟨b1, i, none⟩ u)) ∧ Hid (MkP K1 b b1 n1 R1 w w4) := ⟨_, fun V i u h => trivial, HM4.out.toMkP⟩
      have HK1 := Hid.mk' hK1
      clear HM4 hK1
      go_loopw [19] (fun iv wr => ∃ i : Nat, iv = .int .i64 (i : Int) ∧ i ≤ n1 ∧ Hid (∃ R', MkP K1 b b1 n1 R' w wr)) (fun iv _ => n1 - (intOf iv).toNat)
      case atStart => exact ⟨0, rfl, by omega, R1, HM5.out⟩
      case round =>
        obtain ⟨i, rfl, hi, hst⟩ := hrel
        rename World => wr
        clear HM5
        by_cases hin : i < n1
        · have hinI : (i : Int) < (n1 : Int) := by omega
          obtain ⟨R', hm⟩ := hst.out
          obtain ⟨c1, f1⟩ := hm.cell i hin
          have HP : Hid (∃ R', MkP K1 b b1 n1 R' w (wr.setCell ⟨b1, i, none⟩ (.string ⟨#[111, 118, 101, 114]⟩))) := Hid.mk' ⟨_, hm.put i ⟨#[111, 118, 101, 114]⟩ hin (HK1.out _ _ _ hm.ex)⟩
          clear hst hm
          go_wp2_with fail
          go_roundw
          case rel => exact ⟨i + 1, by simp, by omega, HP⟩
          case measure =>
            simp [intOf]
            omega
        · have e9 : n1 = i := by omega
          subst e9
          have hinI : ¬ (n1 : Int) < (n1 : Int) := by omega
          obtain ⟨R', hm⟩ := hst.out
          have HM6 := Hid.mk' (And.intro hm.bel (And.intro hm.kp hm.ex))
          clear hst hm HK1
          go_wp2_with (first
            | (go_at_call 8; refine (mk_lentK cap2 HS2.out.1 HB.out HM6.out.1 HS2.out.2 hl2 HM6.out.2.1 HM6.out.2.2).mono ?_; rintro e w6 ⟨b2, rfl, hm7⟩; have HM7 := Hid.mk' hm7; clear hm7 HM6)
            | (go_at_call 9; refine (mk_newB k2 HM7.out HG2.out hl2 HR2.out).mono ?_; rintro e w7 ⟨rfl, hm8⟩; have HM8 := Hid.mk' hm8; clear hm8 HM7)
            | (go_at_call 10; refine (mk_refB k2 cap2 HM8.out HG2.out hl2 HR2.out).mono ?_; rintro e w8 ⟨rfl, hm9⟩; have HM9 := Hid.mk' hm9; obtain ⟨g, hg⟩ : ∃ g, w8.heap.size = g := ⟨_, rfl⟩; clear hm9 HM8)
            | fail)
          have HF0 : Hid (FdW g 0 w8 (w8.alloc (.cells #[.slice none 0 0, .slice none 0 0, .slice none 0 0] 40))) := Hid.mk' (FdW.start hg)
          have HBL := Hid.mk' HM9.out.bel
          have hbg : b ≤ g := by rw [← HB.out, ← hg]; exact HM9.out.bel.size
          have HCX : Hid (∀ X i, Below g w8 X → i < na → ∃ g off, pa = some ⟨g, off, none⟩ ∧ X.cell? ⟨g, off + i * 3, none⟩ = some (.string (TT i)) ∧ X.cell? ⟨g, off + i * 3 + 1, none⟩ = some (.int .i64 (FF i)) ∧ X.cell? ⟨g, off + i * 3 + 2, none⟩ = some (.int .i64 (MM i))) := fun X i hX hi => by
            obtain ⟨ga, off, h1, h2, h3, h4⟩ := HCA.out i hi
            have hlt : ga < b := by rw [← HB.out]; exact World.block_lt_of_cell? w ⟨ga, off + i * 3, none⟩ h2
            have hk : X.heap[ga]? = w.heap[ga]? := (hX.block ga (by omega)).trans (HBL.out.block ga hlt)
            exact ⟨ga, off, h1, (World.cell?_of_block (a := ⟨ga, off + i * 3, none⟩) hk).trans h2, (World.cell?_of_block (a := ⟨ga, off + i * 3 + 1, none⟩) hk).trans h3, (World.cell?_of_block (a := ⟨ga, off + i * 3 + 2, none⟩) hk).trans h4⟩
          clear HM9 hg
          go_loopw [27, 28, 29] (fun iv ov tv wx => ∃ j k : Nat, iv = .int .i64 (j : Int) ∧ j ≤ na ∧ j ≤ 40 ∧ k ≤ 4 * j ∧ Hid (FdW g k w8 wx)) (fun iv ov tv _ => 40 - (intOf iv).toNat)
          case atStart => exact ⟨0, 0, rfl, by omega, by omega, by omega, HF0⟩
          case round =>
            obtain ⟨j, k, rfl, hj, hj4, hk, hfd⟩ := hrel
            rename World => wx
            clear HF0
            by_cases hja : j < na ∧ j < 40
            · obtain ⟨hj1, hj2⟩ := hja
              have hjI : (j : Int) < (na : Int) := by omega
              have hjI2 : (j : Int) < 40 := by omega
              obtain ⟨ga, off, hpa, x1, x2, x3⟩ := HCX.out wx j hfd.out.bel hj1
              have HZJ := Hid.mk' (HZ.out j hj1)
              have HCJ : Hid (∀ X, Below g w8 X → ∃ g off, pa = some ⟨g, off, none⟩ ∧ X.cell? ⟨g, off + j * 3, none⟩ = some (.string (TT j)) ∧ X.cell? ⟨g, off + j * 3 + 1, none⟩ = some (.int .i64 (FF j)) ∧ X.cell? ⟨g, off + j * 3 + 2, none⟩ = some (.int .i64 (MM j))) := fun X hX => HCX.out X j hX hj1
              generalize TT j = tj at x1 HZJ HCJ
              generalize FF j = fj at x2 HZJ HCJ
              generalize MM j = mj at x3 HZJ HCJ
              subst hpa
              have hk9 : k ≤ 160 := by omega
              go_wp2_with (first
                | fail)
              go_roundw
              case rel => exact ⟨j + 1, k, by simp, by omega, by omega, by omega, hfd⟩
              case measure =>
                simp [intOf]
                omega
            · have hkb : k ≤ 900 := by omega
              have HST := Hid.mk' (hfd.out.settles hkb)
              by_cases hj1 : j < na
              · have hjI : (j : Int) < (na : Int) := by omega
                have hjI2 : ¬ (j : Int) < 40 := by omega
                go_wp2_with (first | (go_at_call 16; refine HST.out.mono ?_; rintro e wz ⟨rfl, hbz⟩; have HBZ := Hid.mk' hbz; clear hbz) | fail)
                go_ret
                exact ⟨rfl, HBL.out.trans ⟨HBZ.out.os, HBZ.out.tape, HBZ.out.output, HBZ.out.size, fun k hk => HBZ.out.block k (by omega)⟩⟩
              · have hjI : ¬ (j : Int) < (na : Int) := by omega
                go_wp2_with (first | (go_at_call 16; refine HST.out.mono ?_; rintro e wz ⟨rfl, hbz⟩; have HBZ := Hid.mk' hbz; clear hbz) | fail)
                go_ret
                exact ⟨rfl, HBL.out.trans ⟨HBZ.out.os, HBZ.out.tape, HBZ.out.output, HBZ.out.size, fun k hk => HBZ.out.block k (by omega)⟩⟩
end Go.Proofs.Ytlbfnchjbpioeaa
