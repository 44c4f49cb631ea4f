/-
  The law MomentSpells is true. Conditions: ints; the tables lie as the programs' texts lay them.
-/
import Derived.Test.YtpkhjfoeemhhoabDoorSx12
namespace Go.Proofs.YtpkhjfoeemhhoabDoor
open Go.RowKit
set_option linter.unusedVariables false
theorem spanR_pos {s : Nat} (h : ¬ s = 0) : spanR (some s) = .returned (.tuple #[.int .i64 (s : Int), .int .i64 0]) := by
  simp only [spanR]
  rw [if_neg h]
theorem span_sum (cc : Nat → Nat) (u : ByteArray) (sum : Nat) (hb : Sums.bl u = tpre cc 5) (hs : spre cc 5 = sum) (h : sum ≤ 253402300799999) : spanR (spanF (u.size + 1) (Sums.bl u) 0 0) = spanR (some sum) := by
  rw [tpre_tx] at hb
  rw [spre_sm] at hs
  have := span_tx cc 5 0 0 0 (u.size + 1) (by decide) (by decide) (by omega) (by rw [← hb, Sums.bl_length]; omega)
  rw [hb, this, hs, Nat.zero_add]
theorem span_nums (n : Nat) (w : World) (h1 : 1 ≤ n) (h2 : n ≤ 253402300799999) (hu : UnT w) :
    Calls Tryd.prog 14 #[.string (nums (spT n 5))] w fun e w' => e = .returned (.tuple #[.int .i64 (n : Int), .int .i64 0]) ∧ Below w.heap.size w w' := by
  have ha := spT_ascii n
  have hb : Sums.bl (nums (spT n 5)) = spT n 5 := bl_nums _ (fun z hz => Nat.lt_trans (ha z hz) (by decide))
  have hl : (nums (spT n 5)).size = (spT n 5).length := by rw [← Sums.bl_length, hb]
  have hlen : (spT n 5).length ≤ 85 := by
    rw [spT_tx, ← tpre_tx]
    exact tpre_len _ (fun i => Nat.le_trans (Nat.div_le_self _ _) (Nat.le_trans (spRm_le n i) h2)) 5
  have := span_any (nums (spT n 5)) w (by omega) (by rw [hb]; exact ha) hu
  rw [hl, hb, span_spell n h1 h2] at this
  exact this
set_option maxRecDepth 100000 in
set_option maxHeartbeats 8000000 in
theorem momentSpells_any (x0 x1 x2 x3 x4 : Int) (w : World) (a0 : -9223372036854775808 ≤ x0) (b0 : x0 ≤ 9223372036854775807) (a1 : -9223372036854775808 ≤ x1) (b1 : x1 ≤ 9223372036854775807) (a2 : -9223372036854775808 ≤ x2) (b2 : x2 ≤ 9223372036854775807) (a3 : -9223372036854775808 ≤ x3) (b3 : x3 ≤ 9223372036854775807) (a4 : -9223372036854775808 ≤ x4) (b4 : x4 ≤ 9223372036854775807) (hu : UnT w) (hp : Pow w) :
    Calls Tryd.prog 5 #[.int .i64 x0, .int .i64 x1, .int .i64 x2, .int .i64 x3, .int .i64 x4] w fun e w' => e = .returned (.bool true) ∧ Below w.heap.size w w' := by
  have HK := Hid.mk' (known_any w hu hp)
  have P0 := Hid.mk' (fun w => pick_any x0 2000000 w a0 b0 (by decide) (by decide))
  have P1 := Hid.mk' (fun w => pick_any x1 100 w a1 b1 (by decide) (by decide))
  have P2 := Hid.mk' (fun w => pick_any x2 1000 w a2 b2 (by decide) (by decide))
  have P3 := Hid.mk' (fun w => pick_any x3 10000 w a3 b3 (by decide) (by decide))
  have P4 := Hid.mk' (fun w => pick_any x4 100000 w a4 b4 (by decide) (by decide))
  clear hu hp a0 a1 a2 a3 a4 b0 b1 b2 b3 b4
  go_enter Tryd.func5, Tryd.ntmps5
  go_wp2_with fail
  refine HK.out.mono ?_
  rintro e w1 ⟨rfl, hlw⟩
  have H1 := Hid.mk' hlw
  clear hlw HK
  go_wp2_with fail
  refine (P0.out _).mono ?_
  rintro e w2 ⟨⟨c0, k0, rfl⟩, hw⟩
  have hw2 := hw.symm
  subst hw2
  clear hw P0
  go_wp2_with fail
  refine (P1.out _).mono ?_
  rintro e w2 ⟨⟨c1, k1, rfl⟩, hw⟩
  have hw2 := hw.symm
  subst hw2
  clear hw P1
  go_wp2_with fail
  refine (P2.out _).mono ?_
  rintro e w2 ⟨⟨c2, k2, rfl⟩, hw⟩
  have hw2 := hw.symm
  subst hw2
  clear hw P2
  go_wp2_with fail
  refine (P3.out _).mono ?_
  rintro e w2 ⟨⟨c3, k3, rfl⟩, hw⟩
  have hw2 := hw.symm
  subst hw2
  clear hw P3
  go_wp2_with fail
  refine (P4.out _).mono ?_
  rintro e w2 ⟨⟨c4, k4, rfl⟩, hw⟩
  have hw2 := hw.symm
  subst hw2
  clear hw P4
  go_wp2_with fail
  have M0 : SpM w1.heap.size (w1.heap.size + 1) (w1.heap.size + 1 + 1) c0 c1 c2 c3 c4 (((w1.alloc (.cells #[.int .i64 (c0 : Int), .int .i64 (c1 : Int), .int .i64 (c2 : Int), .int .i64 (c3 : Int), .int .i64 (c4 : Int)] 3)).alloc (.cells #[.string ⟨#[100]⟩, .string ⟨#[104]⟩, .string ⟨#[109]⟩, .string ⟨#[115]⟩, .string ⟨#[109, 115]⟩] 9)).alloc (.cells #[.int .i64 86400000, .int .i64 3600000, .int .i64 60000, .int .i64 1000, .int .i64 1] 3)) := by
    have s1 : (w1.alloc (.cells #[.int .i64 (c0 : Int), .int .i64 (c1 : Int), .int .i64 (c2 : Int), .int .i64 (c3 : Int), .int .i64 (c4 : Int)] 3)).heap.size = w1.heap.size + 1 := by simp
    have s2 : ((w1.alloc (.cells #[.int .i64 (c0 : Int), .int .i64 (c1 : Int), .int .i64 (c2 : Int), .int .i64 (c3 : Int), .int .i64 (c4 : Int)] 3)).alloc (.cells #[.string ⟨#[100]⟩, .string ⟨#[104]⟩, .string ⟨#[109]⟩, .string ⟨#[115]⟩, .string ⟨#[109, 115]⟩] 9)).heap.size = w1.heap.size + 1 + 1 := by simp
    have r1 := heap_alloc_new w1 (.cells #[.int .i64 (c0 : Int), .int .i64 (c1 : Int), .int .i64 (c2 : Int), .int .i64 (c3 : Int), .int .i64 (c4 : Int)] 3)
    have r2 := heap_alloc_new (w1.alloc (.cells #[.int .i64 (c0 : Int), .int .i64 (c1 : Int), .int .i64 (c2 : Int), .int .i64 (c3 : Int), .int .i64 (c4 : Int)] 3)) (.cells #[.string ⟨#[100]⟩, .string ⟨#[104]⟩, .string ⟨#[109]⟩, .string ⟨#[115]⟩, .string ⟨#[109, 115]⟩] 9)
    have r3 := heap_alloc_new ((w1.alloc (.cells #[.int .i64 (c0 : Int), .int .i64 (c1 : Int), .int .i64 (c2 : Int), .int .i64 (c3 : Int), .int .i64 (c4 : Int)] 3)).alloc (.cells #[.string ⟨#[100]⟩, .string ⟨#[104]⟩, .string ⟨#[109]⟩, .string ⟨#[115]⟩, .string ⟨#[109, 115]⟩] 9)) (.cells #[.int .i64 86400000, .int .i64 3600000, .int .i64 60000, .int .i64 1000, .int .i64 1] 3)
    rw [s1] at r2
    rw [s2] at r3
    have r1b := (Below.heap_alloc (w1.alloc (.cells #[.int .i64 (c0 : Int), .int .i64 (c1 : Int), .int .i64 (c2 : Int), .int .i64 (c3 : Int), .int .i64 (c4 : Int)] 3)) (.cells #[.string ⟨#[100]⟩, .string ⟨#[104]⟩, .string ⟨#[109]⟩, .string ⟨#[115]⟩, .string ⟨#[109, 115]⟩] 9) w1.heap.size (by rw [s1]; omega)).trans r1
    have r1c := (Below.heap_alloc ((w1.alloc (.cells #[.int .i64 (c0 : Int), .int .i64 (c1 : Int), .int .i64 (c2 : Int), .int .i64 (c3 : Int), .int .i64 (c4 : Int)] 3)).alloc (.cells #[.string ⟨#[100]⟩, .string ⟨#[104]⟩, .string ⟨#[109]⟩, .string ⟨#[115]⟩, .string ⟨#[109, 115]⟩] 9)) (.cells #[.int .i64 86400000, .int .i64 3600000, .int .i64 60000, .int .i64 1000, .int .i64 1] 3) w1.heap.size (by rw [s2]; omega)).trans r1b
    have r2c := (Below.heap_alloc ((w1.alloc (.cells #[.int .i64 (c0 : Int), .int .i64 (c1 : Int), .int .i64 (c2 : Int), .int .i64 (c3 : Int), .int .i64 (c4 : Int)] 3)).alloc (.cells #[.string ⟨#[100]⟩, .string ⟨#[104]⟩, .string ⟨#[109]⟩, .string ⟨#[115]⟩, .string ⟨#[109, 115]⟩] 9)) (.cells #[.int .i64 86400000, .int .i64 3600000, .int .i64 60000, .int .i64 1000, .int .i64 1] 3) (w1.heap.size + 1) (by rw [s2]; omega)).trans r2
    exact ⟨r1c, r2c, r3⟩
  have H4 := Hid.mk' (((H1.out.next ((Below.refl w1.heap.size w1).alloc (Nat.le_refl _) (.cells #[.int .i64 (c0 : Int), .int .i64 (c1 : Int), .int .i64 (c2 : Int), .int .i64 (c3 : Int), .int .i64 (c4 : Int)] 3))).next ((Below.refl _ _).alloc (Nat.le_refl _) (.cells #[.string ⟨#[100]⟩, .string ⟨#[104]⟩, .string ⟨#[109]⟩, .string ⟨#[115]⟩, .string ⟨#[109, 115]⟩] 9))).next ((Below.refl _ _).alloc (Nat.le_refl _) (.cells #[.int .i64 86400000, .int .i64 3600000, .int .i64 60000, .int .i64 1000, .int .i64 1] 3)))
  have HM0 := Hid.mk' M0
  clear H1 M0
  generalize (((w1.alloc _).alloc _).alloc _) = W0 at *
  generalize w1.heap.size = G at *
  obtain ⟨cc, hcc⟩ : ∃ cc, cF c0 c1 c2 c3 c4 = cc := ⟨_, rfl⟩
  have e0 : cc 0 = c0 := by rw [← hcc]; rfl
  have e1 : cc 1 = c1 := by rw [← hcc]; rfl
  have e2 : cc 2 = c2 := by rw [← hcc]; rfl
  have e3 : cc 3 = c3 := by rw [← hcc]; rfl
  have e4 : cc 4 = c4 := by rw [← hcc]; rfl
  have hcb : ∀ i, cc i ≤ 253402300799999 := by intro i; rw [← hcc]; unfold cF; split; omega; split; omega; split; omega; split; omega; omega
  have HCC := Hid.mk' (And.intro e0 (And.intro e1 (And.intro e2 (And.intro e3 e4))))
  have HCB := Hid.mk' hcb
  clear hcc e0 e1 e2 e3 e4 hcb
  go_loopw [15, 16, 17] (fun tv sv iv wr => ∃ (i sum : Nat) (u : ByteArray), iv = .int .i64 ((i : Nat) : Int) ∧ tv = .string u ∧ sv = .int .i64 ((sum : Nat) : Int) ∧ i ≤ 5 ∧ Hid (Sums.bl u = tpre cc i ∧ spre cc i = sum) ∧ u.size ≤ 100 ∧ sum ≤ 172800000000000 + i * 400000000 ∧ Hid (SpM G (G + 1) (G + 1 + 1) c0 c1 c2 c3 c4 wr ∧ Lw w wr)) (fun _ _ iv _ => 5 - (intOf iv).toNat)
  case atStart => exact ⟨0, 0, ⟨#[]⟩, rfl, rfl, rfl, by decide, ⟨rfl, rfl⟩, by decide, by decide, ⟨HM0.out, H4.out⟩⟩
  case round =>
    obtain ⟨i, sum, u, rfl, rfl, rfl, hi, hts, hus, hsb, hmw⟩ := hrel
    have husI : (u.size : Int) ≤ 100 := by omega
    obtain ⟨E0, E1, E2, E3, E4⟩ := HCC.out
    by_cases hi5 : i = 5
    · subst hi5
      clear E0 E1 E2 E3 E4
      have hsb2 : sum ≤ 253402300799999 := by omega
      have hua : ∀ z ∈ Sums.bl u, z < 128 := by rw [hts.out.1]; exact tx_ascii cc 5
      have hsv := span_sum cc u sum hts.out.1 hts.out.2 hsb2
      by_cases hz : sum = 0
      · have SP : Hid (∀ w, UnT w → Calls Tryd.prog 14 #[.string u] w fun e w' => e = .returned (.tuple #[.int .i64 0, .int .i64 121]) ∧ Below w.heap.size w w') := fun w hu => by
          have := span_any u w (by omega) hua hu
          rw [hsv, hz] at this
          exact this
        have hzI : (sum : Int) = 0 := by omega
        clear hua hsv hz
        go_wp2_with fail
        refine (SP.out _ hmw.out.2.un).mono ?_
        rintro e w3 ⟨rfl, hb3⟩
        have H3 := Hid.mk' (hmw.out.2.next hb3)
        clear hb3 SP
        go_wp2_with fail
        go_ret
        exact ⟨rfl, H3.out.bel⟩
      · have hs1 : 1 ≤ sum := by omega
        have SP : Hid (∀ w, UnT w → Calls Tryd.prog 14 #[.string u] w fun e w' => e = .returned (.tuple #[.int .i64 (sum : Int), .int .i64 0]) ∧ Below w.heap.size w w') := fun w hu => by
          have := span_any u w (by omega) hua hu
          rw [hsv, spanR_pos hz] at this
          exact this
        have SL : Hid (∀ w, UnT w → Pow w → Calls Tryd.prog 15 #[.int .i64 (sum : Int)] w fun e w' => e = .returned (.tuple #[.string (nums (spT sum 5)), .int .i64 0]) ∧ Below w.heap.size w w') := fun w hu hp => spell_any sum w hs1 hsb2 hu hp
        have SQ : Hid (∀ w, UnT w → Calls Tryd.prog 14 #[.string (nums (spT sum 5))] w fun e w' => e = .returned (.tuple #[.int .i64 (sum : Int), .int .i64 0]) ∧ Below w.heap.size w w') := fun w hu => span_nums sum w hs1 hsb2 hu
        have hzI : ¬ (sum : Int) = 0 := by omega
        have hz : ¬ sum = 0 := hz
        clear hua hsv hs1
        go_wp2_with fail
        refine (SP.out _ hmw.out.2.un).mono ?_
        rintro e w3 ⟨rfl, hb3⟩
        have H3 := Hid.mk' (hmw.out.2.next hb3)
        clear hb3 SP
        go_wp2_with fail
        refine (SL.out _ H3.out.un H3.out.pow).mono ?_
        rintro e w4 ⟨rfl, hb4⟩
        have H5 := Hid.mk' (H3.out.next hb4)
        clear hb4 SL
        generalize nums (spT sum 5) = q at *
        go_wp2_with fail
        refine (SQ.out _ H5.out.un).mono ?_
        rintro e w5 ⟨rfl, hb5⟩
        have H6 := Hid.mk' (H5.out.next hb5)
        clear hb5 SQ
        go_wp2_with fail
        go_ret
        exact ⟨rfl, H6.out.bel⟩
    · rcases (show i = 0 ∨ i = 1 ∨ i = 2 ∨ i = 3 ∨ i = 4 by omega) with rfl | rfl | rfl | rfl | rfl
      · have hla : wr.cell? ⟨G, 0, none⟩ = some (.int .i64 (c0 : Int)) := by simp [World.cell?, hmw.out.1.a]
        have hlb : wr.cell? ⟨G + 1, 0, none⟩ = some (.string ⟨#[100]⟩) := by simp [World.cell?, hmw.out.1.b]
        have hlc : wr.cell? ⟨G + 1 + 1, 0, none⟩ = some (.int .i64 86400000) := by simp [World.cell?, hmw.out.1.c]
        have hst : tpre cc 1 = tpre cc 0 ++ (if 0 < c0 then dec c0 ++ [100] else []) := by rw [← E0]; rfl
        have hss : spre cc 1 = sum + c0 * 86400000 := by rw [← E0, ← hts.out.2]; rfl
        have hs0 : sum ≤ 0 := Nat.le_of_eq hts.out.2.symm
        have HST := Hid.mk' (And.intro hst hss)
        clear hst hss E0 E1 E2 E3 E4 hi5
        by_cases hc0 : 0 < c0
        · have hc0I : (0 : Int) < (c0 : Int) := by omega
          rw [if_pos hc0] at HST
          have DC := Hid.mk' (fun w => decimal_any c0 w hc0 (by omega))
          have HS0 := Hid.mk' hs0
          clear hs0
          clear hc0
          obtain ⟨nm, hnm⟩ : ∃ nm, (⟨#[100]⟩ : ByteArray) = nm := ⟨_, rfl⟩
          have hns : nm.size = 1 := by rw [← hnm]; rfl
          rw [hnm] at hlb
          have HNM := Hid.mk' hnm
          have HNS := Hid.mk' hns
          clear hnm hns
          go_wp2_with fail
          go_region_held3 (fun w' => w'.cell? ⟨G, 0, none⟩ = some (.int .i64 (c0 : Int)) ∧ w'.cell? ⟨G + 1, 0, none⟩ = some (.string nm)) (first | go_keep | exact ⟨hla, hlb⟩ | exact ⟨za, zb⟩)
            ((go_at_call 11; refine (DC.out _).mono ?_; rintro e wz ⟨⟨t, ht, rfl⟩, hbz⟩; have mz : Hid (SpM G (G + 1) (G + 1 + 1) c0 c1 c2 c3 c4 wz ∧ Lw w wz) := ⟨hmw.out.1.below (((Below.refl _ wr).drewN' 1).trans hbz), hmw.out.2.next (((Below.refl _ wr).drewN' 1).trans hbz)⟩; have za : wz.cell? ⟨G, 0, none⟩ = some (.int .i64 (c0 : Int)) := (by simp [World.cell?, mz.out.1.a]); have zb : wz.cell? ⟨G + 1, 0, none⟩ = some (.string nm) := (by rw [← HNM.out]; simp [World.cell?, mz.out.1.b]); have zc : wz.cell? ⟨G + 1 + 1, 0, none⟩ = some (.int .i64 86400000) := (by simp [World.cell?, mz.out.1.c]); have hts2 : t.size ≤ 15 := (by rw [← Sums.bl_length, ht]; exact dec_short c0 (by omega)); have htI : (t.size : Int) ≤ 15 := (by omega); have hk1 : ¬ 9223372036854775807 < u.size + t.size := (by omega); have hk2 : ¬ 9223372036854775807 < u.size + t.size + nm.size := (by rw [HNS.out]; omega); clear hbz))
          clear hla hlb hlc
          go_wp2_with fail
          go_quiet (fail)
          go_wp2_with fail
          go_roundw
          case rel =>
            have hbl : Sums.bl (u ++ t ++ nm) = tpre cc 1 := by
              rw [HST.out.1, Sums.bl_append, Sums.bl_append, hts.out.1, ht, List.append_assoc, ← HNM.out]; rfl
            have hln : (u ++ t ++ nm).size ≤ 100 := by
              rw [← Sums.bl_length, hbl]
              exact Nat.le_trans (tpre_len cc HCB.out 1) (by decide)
            exact ⟨1, sum + c0 * 86400000, u ++ t ++ nm, by first | rfl | simp, rfl, by simp, by decide, ⟨hbl, HST.out.2⟩, hln, by have := HS0.out; omega, ⟨mz.out.1.below ((Below.refl _ wz).drewN' _), mz.out.2.next ((Below.refl _ wz).drewN' _)⟩⟩
          case measure => simp [intOf]
        · have hc0I : ¬ (0 : Int) < (c0 : Int) := by omega
          have hcz : c0 = 0 := by omega
          rw [if_neg hc0, List.append_nil, hcz] at HST
          clear hc0
          have HZ := Hid.mk' hcz
          clear hcz
          go_wp2_with fail
          go_roundw
          case rel => exact ⟨1, sum, u, by first | rfl | simp, rfl, rfl, by decide, ⟨by rw [HST.out.1]; exact hts.out.1, by rw [HST.out.2]; omega⟩, hus, by omega, hmw⟩
          case measure => simp [intOf]
      · have hla : wr.cell? ⟨G, 1, none⟩ = some (.int .i64 (c1 : Int)) := by simp [World.cell?, hmw.out.1.a]
        have hlb : wr.cell? ⟨G + 1, 1, none⟩ = some (.string ⟨#[104]⟩) := by simp [World.cell?, hmw.out.1.b]
        have hlc : wr.cell? ⟨G + 1 + 1, 1, none⟩ = some (.int .i64 3600000) := by simp [World.cell?, hmw.out.1.c]
        have hst : tpre cc 2 = tpre cc 1 ++ (if 0 < c1 then dec c1 ++ [104] else []) := by rw [← E1]; rfl
        have hss : spre cc 2 = sum + c1 * 3600000 := by rw [← E1, ← hts.out.2]; rfl
        have hs0 : sum ≤ 172800400000000 := hsb
        have HST := Hid.mk' (And.intro hst hss)
        clear hst hss E0 E1 E2 E3 E4 hi5
        by_cases hc0 : 0 < c1
        · have hc0I : (0 : Int) < (c1 : Int) := by omega
          rw [if_pos hc0] at HST
          have DC := Hid.mk' (fun w => decimal_any c1 w hc0 (by omega))
          have HS0 := Hid.mk' hs0
          clear hs0
          clear hc0
          obtain ⟨nm, hnm⟩ : ∃ nm, (⟨#[104]⟩ : ByteArray) = nm := ⟨_, rfl⟩
          have hns : nm.size = 1 := by rw [← hnm]; rfl
          rw [hnm] at hlb
          have HNM := Hid.mk' hnm
          have HNS := Hid.mk' hns
          clear hnm hns
          go_wp2_with fail
          go_region_held3 (fun w' => w'.cell? ⟨G, 1, none⟩ = some (.int .i64 (c1 : Int)) ∧ w'.cell? ⟨G + 1, 1, none⟩ = some (.string nm)) (first | go_keep | exact ⟨hla, hlb⟩ | exact ⟨za, zb⟩)
            ((go_at_call 11; refine (DC.out _).mono ?_; rintro e wz ⟨⟨t, ht, rfl⟩, hbz⟩; have mz : Hid (SpM G (G + 1) (G + 1 + 1) c0 c1 c2 c3 c4 wz ∧ Lw w wz) := ⟨hmw.out.1.below (((Below.refl _ wr).drewN' 1).trans hbz), hmw.out.2.next (((Below.refl _ wr).drewN' 1).trans hbz)⟩; have za : wz.cell? ⟨G, 1, none⟩ = some (.int .i64 (c1 : Int)) := (by simp [World.cell?, mz.out.1.a]); have zb : wz.cell? ⟨G + 1, 1, none⟩ = some (.string nm) := (by rw [← HNM.out]; simp [World.cell?, mz.out.1.b]); have zc : wz.cell? ⟨G + 1 + 1, 1, none⟩ = some (.int .i64 3600000) := (by simp [World.cell?, mz.out.1.c]); have hts2 : t.size ≤ 15 := (by rw [← Sums.bl_length, ht]; exact dec_short c1 (by omega)); have htI : (t.size : Int) ≤ 15 := (by omega); have hk1 : ¬ 9223372036854775807 < u.size + t.size := (by omega); have hk2 : ¬ 9223372036854775807 < u.size + t.size + nm.size := (by rw [HNS.out]; omega); clear hbz))
          clear hla hlb hlc
          go_wp2_with fail
          go_quiet (fail)
          go_wp2_with fail
          go_roundw
          case rel =>
            have hbl : Sums.bl (u ++ t ++ nm) = tpre cc 2 := by
              rw [HST.out.1, Sums.bl_append, Sums.bl_append, hts.out.1, ht, List.append_assoc, ← HNM.out]; rfl
            have hln : (u ++ t ++ nm).size ≤ 100 := by
              rw [← Sums.bl_length, hbl]
              exact Nat.le_trans (tpre_len cc HCB.out 2) (by decide)
            exact ⟨2, sum + c1 * 3600000, u ++ t ++ nm, by first | rfl | simp, rfl, by simp, by decide, ⟨hbl, HST.out.2⟩, hln, by have := HS0.out; omega, ⟨mz.out.1.below ((Below.refl _ wz).drewN' _), mz.out.2.next ((Below.refl _ wz).drewN' _)⟩⟩
          case measure => simp [intOf]
        · have hc0I : ¬ (0 : Int) < (c1 : Int) := by omega
          have hcz : c1 = 0 := by omega
          rw [if_neg hc0, List.append_nil, hcz] at HST
          clear hc0
          have HZ := Hid.mk' hcz
          clear hcz
          go_wp2_with fail
          go_roundw
          case rel => exact ⟨2, sum, u, by first | rfl | simp, rfl, rfl, by decide, ⟨by rw [HST.out.1]; exact hts.out.1, by rw [HST.out.2]; omega⟩, hus, by omega, hmw⟩
          case measure => simp [intOf]
      · have hla : wr.cell? ⟨G, 2, none⟩ = some (.int .i64 (c2 : Int)) := by simp [World.cell?, hmw.out.1.a]
        have hlb : wr.cell? ⟨G + 1, 2, none⟩ = some (.string ⟨#[109]⟩) := by simp [World.cell?, hmw.out.1.b]
        have hlc : wr.cell? ⟨G + 1 + 1, 2, none⟩ = some (.int .i64 60000) := by simp [World.cell?, hmw.out.1.c]
        have hst : tpre cc 3 = tpre cc 2 ++ (if 0 < c2 then dec c2 ++ [109] else []) := by rw [← E2]; rfl
        have hss : spre cc 3 = sum + c2 * 60000 := by rw [← E2, ← hts.out.2]; rfl
        have hs0 : sum ≤ 172800800000000 := hsb
        have HST := Hid.mk' (And.intro hst hss)
        clear hst hss E0 E1 E2 E3 E4 hi5
        by_cases hc0 : 0 < c2
        · have hc0I : (0 : Int) < (c2 : Int) := by omega
          rw [if_pos hc0] at HST
          have DC := Hid.mk' (fun w => decimal_any c2 w hc0 (by omega))
          have HS0 := Hid.mk' hs0
          clear hs0
          clear hc0
          obtain ⟨nm, hnm⟩ : ∃ nm, (⟨#[109]⟩ : ByteArray) = nm := ⟨_, rfl⟩
          have hns : nm.size = 1 := by rw [← hnm]; rfl
          rw [hnm] at hlb
          have HNM := Hid.mk' hnm
          have HNS := Hid.mk' hns
          clear hnm hns
          go_wp2_with fail
          go_region_held3 (fun w' => w'.cell? ⟨G, 2, none⟩ = some (.int .i64 (c2 : Int)) ∧ w'.cell? ⟨G + 1, 2, none⟩ = some (.string nm)) (first | go_keep | exact ⟨hla, hlb⟩ | exact ⟨za, zb⟩)
            ((go_at_call 11; refine (DC.out _).mono ?_; rintro e wz ⟨⟨t, ht, rfl⟩, hbz⟩; have mz : Hid (SpM G (G + 1) (G + 1 + 1) c0 c1 c2 c3 c4 wz ∧ Lw w wz) := ⟨hmw.out.1.below (((Below.refl _ wr).drewN' 1).trans hbz), hmw.out.2.next (((Below.refl _ wr).drewN' 1).trans hbz)⟩; have za : wz.cell? ⟨G, 2, none⟩ = some (.int .i64 (c2 : Int)) := (by simp [World.cell?, mz.out.1.a]); have zb : wz.cell? ⟨G + 1, 2, none⟩ = some (.string nm) := (by rw [← HNM.out]; simp [World.cell?, mz.out.1.b]); have zc : wz.cell? ⟨G + 1 + 1, 2, none⟩ = some (.int .i64 60000) := (by simp [World.cell?, mz.out.1.c]); have hts2 : t.size ≤ 15 := (by rw [← Sums.bl_length, ht]; exact dec_short c2 (by omega)); have htI : (t.size : Int) ≤ 15 := (by omega); have hk1 : ¬ 9223372036854775807 < u.size + t.size := (by omega); have hk2 : ¬ 9223372036854775807 < u.size + t.size + nm.size := (by rw [HNS.out]; omega); clear hbz))
          clear hla hlb hlc
          go_wp2_with fail
          go_quiet (fail)
          go_wp2_with fail
          go_roundw
          case rel =>
            have hbl : Sums.bl (u ++ t ++ nm) = tpre cc 3 := by
              rw [HST.out.1, Sums.bl_append, Sums.bl_append, hts.out.1, ht, List.append_assoc, ← HNM.out]; rfl
            have hln : (u ++ t ++ nm).size ≤ 100 := by
              rw [← Sums.bl_length, hbl]
              exact Nat.le_trans (tpre_len cc HCB.out 3) (by decide)
            exact ⟨3, sum + c2 * 60000, u ++ t ++ nm, by first | rfl | simp, rfl, by simp, by decide, ⟨hbl, HST.out.2⟩, hln, by have := HS0.out; omega, ⟨mz.out.1.below ((Below.refl _ wz).drewN' _), mz.out.2.next ((Below.refl _ wz).drewN' _)⟩⟩
          case measure => simp [intOf]
        · have hc0I : ¬ (0 : Int) < (c2 : Int) := by omega
          have hcz : c2 = 0 := by omega
          rw [if_neg hc0, List.append_nil, hcz] at HST
          clear hc0
          have HZ := Hid.mk' hcz
          clear hcz
          go_wp2_with fail
          go_roundw
          case rel => exact ⟨3, sum, u, by first | rfl | simp, rfl, rfl, by decide, ⟨by rw [HST.out.1]; exact hts.out.1, by rw [HST.out.2]; omega⟩, hus, by omega, hmw⟩
          case measure => simp [intOf]
      · have hla : wr.cell? ⟨G, 3, none⟩ = some (.int .i64 (c3 : Int)) := by simp [World.cell?, hmw.out.1.a]
        have hlb : wr.cell? ⟨G + 1, 3, none⟩ = some (.string ⟨#[115]⟩) := by simp [World.cell?, hmw.out.1.b]
        have hlc : wr.cell? ⟨G + 1 + 1, 3, none⟩ = some (.int .i64 1000) := by simp [World.cell?, hmw.out.1.c]
        have hst : tpre cc 4 = tpre cc 3 ++ (if 0 < c3 then dec c3 ++ [115] else []) := by rw [← E3]; rfl
        have hss : spre cc 4 = sum + c3 * 1000 := by rw [← E3, ← hts.out.2]; rfl
        have hs0 : sum ≤ 172801200000000 := hsb
        have HST := Hid.mk' (And.intro hst hss)
        clear hst hss E0 E1 E2 E3 E4 hi5
        by_cases hc0 : 0 < c3
        · have hc0I : (0 : Int) < (c3 : Int) := by omega
          rw [if_pos hc0] at HST
          have DC := Hid.mk' (fun w => decimal_any c3 w hc0 (by omega))
          have HS0 := Hid.mk' hs0
          clear hs0
          clear hc0
          obtain ⟨nm, hnm⟩ : ∃ nm, (⟨#[115]⟩ : ByteArray) = nm := ⟨_, rfl⟩
          have hns : nm.size = 1 := by rw [← hnm]; rfl
          rw [hnm] at hlb
          have HNM := Hid.mk' hnm
          have HNS := Hid.mk' hns
          clear hnm hns
          go_wp2_with fail
          go_region_held3 (fun w' => w'.cell? ⟨G, 3, none⟩ = some (.int .i64 (c3 : Int)) ∧ w'.cell? ⟨G + 1, 3, none⟩ = some (.string nm)) (first | go_keep | exact ⟨hla, hlb⟩ | exact ⟨za, zb⟩)
            ((go_at_call 11; refine (DC.out _).mono ?_; rintro e wz ⟨⟨t, ht, rfl⟩, hbz⟩; have mz : Hid (SpM G (G + 1) (G + 1 + 1) c0 c1 c2 c3 c4 wz ∧ Lw w wz) := ⟨hmw.out.1.below (((Below.refl _ wr).drewN' 1).trans hbz), hmw.out.2.next (((Below.refl _ wr).drewN' 1).trans hbz)⟩; have za : wz.cell? ⟨G, 3, none⟩ = some (.int .i64 (c3 : Int)) := (by simp [World.cell?, mz.out.1.a]); have zb : wz.cell? ⟨G + 1, 3, none⟩ = some (.string nm) := (by rw [← HNM.out]; simp [World.cell?, mz.out.1.b]); have zc : wz.cell? ⟨G + 1 + 1, 3, none⟩ = some (.int .i64 1000) := (by simp [World.cell?, mz.out.1.c]); have hts2 : t.size ≤ 15 := (by rw [← Sums.bl_length, ht]; exact dec_short c3 (by omega)); have htI : (t.size : Int) ≤ 15 := (by omega); have hk1 : ¬ 9223372036854775807 < u.size + t.size := (by omega); have hk2 : ¬ 9223372036854775807 < u.size + t.size + nm.size := (by rw [HNS.out]; omega); clear hbz))
          clear hla hlb hlc
          go_wp2_with fail
          go_quiet (fail)
          go_wp2_with fail
          go_roundw
          case rel =>
            have hbl : Sums.bl (u ++ t ++ nm) = tpre cc 4 := by
              rw [HST.out.1, Sums.bl_append, Sums.bl_append, hts.out.1, ht, List.append_assoc, ← HNM.out]; rfl
            have hln : (u ++ t ++ nm).size ≤ 100 := by
              rw [← Sums.bl_length, hbl]
              exact Nat.le_trans (tpre_len cc HCB.out 4) (by decide)
            exact ⟨4, sum + c3 * 1000, u ++ t ++ nm, by first | rfl | simp, rfl, by simp, by decide, ⟨hbl, HST.out.2⟩, hln, by have := HS0.out; omega, ⟨mz.out.1.below ((Below.refl _ wz).drewN' _), mz.out.2.next ((Below.refl _ wz).drewN' _)⟩⟩
          case measure => simp [intOf]
        · have hc0I : ¬ (0 : Int) < (c3 : Int) := by omega
          have hcz : c3 = 0 := by omega
          rw [if_neg hc0, List.append_nil, hcz] at HST
          clear hc0
          have HZ := Hid.mk' hcz
          clear hcz
          go_wp2_with fail
          go_roundw
          case rel => exact ⟨4, sum, u, by first | rfl | simp, rfl, rfl, by decide, ⟨by rw [HST.out.1]; exact hts.out.1, by rw [HST.out.2]; omega⟩, hus, by omega, hmw⟩
          case measure => simp [intOf]
      · have hla : wr.cell? ⟨G, 4, none⟩ = some (.int .i64 (c4 : Int)) := by simp [World.cell?, hmw.out.1.a]
        have hlb : wr.cell? ⟨G + 1, 4, none⟩ = some (.string ⟨#[109, 115]⟩) := by simp [World.cell?, hmw.out.1.b]
        have hlc : wr.cell? ⟨G + 1 + 1, 4, none⟩ = some (.int .i64 1) := by simp [World.cell?, hmw.out.1.c]
        have hst : tpre cc 5 = tpre cc 4 ++ (if 0 < c4 then dec c4 ++ [109, 115] else []) := by rw [← E4]; rfl
        have hss : spre cc 5 = sum + c4 * 1 := by rw [← E4, ← hts.out.2]; rfl
        have hs0 : sum ≤ 172801600000000 := hsb
        have HST := Hid.mk' (And.intro hst hss)
        clear hst hss E0 E1 E2 E3 E4 hi5
        by_cases hc0 : 0 < c4
        · have hc0I : (0 : Int) < (c4 : Int) := by omega
          rw [if_pos hc0] at HST
          have DC := Hid.mk' (fun w => decimal_any c4 w hc0 (by omega))
          have HS0 := Hid.mk' hs0
          clear hs0
          clear hc0
          obtain ⟨nm, hnm⟩ : ∃ nm, (⟨#[109, 115]⟩ : ByteArray) = nm := ⟨_, rfl⟩
          have hns : nm.size = 2 := by rw [← hnm]; rfl
          rw [hnm] at hlb
          have HNM := Hid.mk' hnm
          have HNS := Hid.mk' hns
          clear hnm hns
          go_wp2_with fail
          go_region_held3 (fun w' => w'.cell? ⟨G, 4, none⟩ = some (.int .i64 (c4 : Int)) ∧ w'.cell? ⟨G + 1, 4, none⟩ = some (.string nm)) (first | go_keep | exact ⟨hla, hlb⟩ | exact ⟨za, zb⟩)
            ((go_at_call 11; refine (DC.out _).mono ?_; rintro e wz ⟨⟨t, ht, rfl⟩, hbz⟩; have mz : Hid (SpM G (G + 1) (G + 1 + 1) c0 c1 c2 c3 c4 wz ∧ Lw w wz) := ⟨hmw.out.1.below (((Below.refl _ wr).drewN' 1).trans hbz), hmw.out.2.next (((Below.refl _ wr).drewN' 1).trans hbz)⟩; have za : wz.cell? ⟨G, 4, none⟩ = some (.int .i64 (c4 : Int)) := (by simp [World.cell?, mz.out.1.a]); have zb : wz.cell? ⟨G + 1, 4, none⟩ = some (.string nm) := (by rw [← HNM.out]; simp [World.cell?, mz.out.1.b]); have zc : wz.cell? ⟨G + 1 + 1, 4, none⟩ = some (.int .i64 1) := (by simp [World.cell?, mz.out.1.c]); have hts2 : t.size ≤ 15 := (by rw [← Sums.bl_length, ht]; exact dec_short c4 (by omega)); have htI : (t.size : Int) ≤ 15 := (by omega); have hk1 : ¬ 9223372036854775807 < u.size + t.size := (by omega); have hk2 : ¬ 9223372036854775807 < u.size + t.size + nm.size := (by rw [HNS.out]; omega); clear hbz))
          clear hla hlb hlc
          go_wp2_with fail
          go_quiet (fail)
          go_wp2_with fail
          go_roundw
          case rel =>
            have hbl : Sums.bl (u ++ t ++ nm) = tpre cc 5 := by
              rw [HST.out.1, Sums.bl_append, Sums.bl_append, hts.out.1, ht, List.append_assoc, ← HNM.out]; rfl
            have hln : (u ++ t ++ nm).size ≤ 100 := by
              rw [← Sums.bl_length, hbl]
              exact Nat.le_trans (tpre_len cc HCB.out 5) (by decide)
            exact ⟨5, sum + c4 * 1, u ++ t ++ nm, by first | rfl | simp, rfl, by simp, by decide, ⟨hbl, HST.out.2⟩, hln, by have := HS0.out; omega, ⟨mz.out.1.below ((Below.refl _ wz).drewN' _), mz.out.2.next ((Below.refl _ wz).drewN' _)⟩⟩
          case measure => simp [intOf]
        · have hc0I : ¬ (0 : Int) < (c4 : Int) := by omega
          have hcz : c4 = 0 := by omega
          rw [if_neg hc0, List.append_nil, hcz] at HST
          clear hc0
          have HZ := Hid.mk' hcz
          clear hcz
          go_wp2_with fail
          go_roundw
          case rel => exact ⟨5, sum, u, by first | rfl | simp, rfl, rfl, by decide, ⟨by rw [HST.out.1]; exact hts.out.1, by rw [HST.out.2]; omega⟩, hus, by omega, hmw⟩
          case measure => simp [intOf]
end Go.Proofs.YtpkhjfoeemhhoabDoor
