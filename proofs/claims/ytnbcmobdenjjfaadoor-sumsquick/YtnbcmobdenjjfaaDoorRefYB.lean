/-
  What the document's XX64 does with a text of thirty-two bytes or more. Conditions: the seed is of 64 bits, the text no longer than any text that is read can be.
-/
import Derived.Test.YtnbcmobdenjjfaaDoorRefYA
import Derived.Test.YtnbcmobdenjjfaaDoorRefXB
import Derived.Deep.RegionWith
namespace Go.Proofs.YtnbcmobdenjjfaaDoor
open Go.RowKit
set_option linter.unusedVariables false
theorem round_at (F : Sums.Four) (l : List Nat) (p P j : Nat) (h : P = p + 8 * j) : Sums.round64 (fget F j) (Sums.w8 (l.drop P)) = roundJ F (l.drop p) j := by
  rw [roundJ, List.drop_drop, ← h]
theorem putW_four (f h : Sums.Four) : putW (fourW f) 0 h = fourW h := rfl
theorem four_foldW (F : Sums.Four) (l : List Nat) : setToW (fourW F) 0 F l 4 = fourW (Sums.take64 F l) := by
  have := fold_takeW (fourW F) 0 F l (by simp [fourW])
  rw [putW_four, putW_four] at this
  exact this
theorem fourW_at (F : Sums.Four) (j : Nat) (hj : j < 4) : (fourW F)[0 + j]? = some (.int .u64 ((fget F j : Nat) : Int)) := by
  have := putW_at (fourW F) 0 F (by simp [fourW]) j hj
  rw [putW_four] at this
  exact this
set_option maxHeartbeats 4000000 in
theorem refXX64_more (seed : Nat) (s : ByteArray) (w : World) (hq : seed < 18446744073709551616) (h : ¬ s.size < 32) (hm : s.size ≤ 140737488351232) :
    Calls Tryd.prog 17 #[.int .u64 (seed : Int), .string s] w fun e w' => e = .returned (.int .u64 (Sums.xx64 seed (Sums.bl s) : Nat)) ∧ Below w.heap.size w w' := by
  have g : (32 : Int) ≤ (s.size : Int) := by omega
  have hmx : s.size ≤ maxLen := by unfold maxLen; omega
  have hm2 : (s.size : Int) ≤ 140737488351232 := by omega
  have HX : Hid (Sums.xx64 seed (Sums.bl s) = Sums.last64 (Sums.merged64 (Sums.rows64 (Sums.begin64 seed) (Sums.bl s)).1) s.size (Sums.rows64 (Sums.begin64 seed) (Sums.bl s)).2) := by
    show _ = _
    rw [xx64_long _ _ (by rw [Sums.bl_length]; exact h), Sums.bl_length]
  have ha : Hid (IntKind.u64.wrap (IntKind.u64.wrap ((seed : Int) + 11400714785074694791) + 14029467366897019727) = ((Sums.begin64 seed).a : Nat)) := by show _ = _; simp only [Sums.begin64, IntKind.wrap_u64]; omega
  have hb : Hid (IntKind.u64.wrap ((seed : Int) + 14029467366897019727) = ((Sums.begin64 seed).b : Nat)) := by show _ = _; simp only [Sums.begin64, IntKind.wrap_u64]; omega
  have hd : Hid (IntKind.u64.wrap ((seed : Int) - 11400714785074694791) = ((Sums.begin64 seed).d : Nat)) := by show _ = _; simp only [Sums.begin64, IntKind.wrap_u64]; omega
  go_enter Tryd.func17, Tryd.ntmps17
  go_wp2_with fail
  rw [ha.out, hb.out, hd.out]
  have H0 : Hid ((w.alloc (.cells (fourW (Sums.begin64 seed)).toArray 64 (0, 0))).heap[w.heap.size]? = some (.cells (fourW (Sums.begin64 seed)).toArray 64 (0, 0))) := heapNew _ _
  have HB0 : Hid (Below w.heap.size w (w.alloc (.cells (fourW (Sums.begin64 seed)).toArray 64 (0, 0)))) := (Below.refl _ _).alloc (Nat.le_refl _) _
  clear ha hb hd
  generalize IntKind.u64.wrap ((seed : Int) + 11400714785074694791) = v1 at *
  generalize IntKind.u64.wrap ((seed : Int) + 2870177450012600261) = v3 at *
  go_loopw [6] (fun y wr => ∃ (p : Nat) (F : Sums.Four), p ≤ s.size ∧ y = .int .i64 (p : Int) ∧ Hid (Sums.rows64 F ((Sums.bl s).drop p) = Sums.rows64 (Sums.begin64 seed) (Sums.bl s)) ∧ Hid (FourLtW F) ∧ Hid (wr.heap[w.heap.size]? = some (.cells (fourW F).toArray 64 (0, 0))) ∧ Hid (Below w.heap.size w wr)) (fun y _ => s.size - (intOf y).toNat)
  case atStart => exact ⟨0, Sums.begin64 seed, by omega, rfl, by show _ = _; rw [List.drop_zero], begin64_lt seed hq, H0, HB0⟩
  case round =>
    clear H0 HB0
    obtain ⟨p, F, hp, rfl, HI, HL, HM, HB⟩ := hrel
    by_cases h16 : p + 32 ≤ s.size
    · have g16 : (p : Int) + 32 ≤ (s.size : Int) := by omega
      have HI2 : Hid (Sums.rows64 (Sums.take64 F ((Sums.bl s).drop p)) ((Sums.bl s).drop (p + 32)) = Sums.rows64 (Sums.begin64 seed) (Sums.bl s)) := by
        show _ = _
        rw [← List.drop_drop, ← Sums.rows64_more _ _ (by rw [List.length_drop, Sums.bl_length]; omega)]
        exact HI.out
      have HP0 : Hid (Put w.heap.size 64 (fourW F) wr wr) := Put.refl HM.out
      clear HI HM
      obtain ⟨wo, rfl⟩ : ∃ wo, wo = wr := ⟨_, rfl⟩
      go_wp2_with fail
      go_loopw [6, 10] (fun y z wr => ∃ (j P : Nat), j ≤ 4 ∧ P ≤ s.size ∧ y = .int .i64 (P : Int) ∧ z = .int .i64 (j : Int) ∧ Hid (P = p + 8 * j) ∧ Hid (Put w.heap.size 64 (setToW (fourW F) 0 F ((Sums.bl s).drop p) j) wo wr)) (fun _ z _ => 4 - (intOf z).toNat)
      case atStart => exact ⟨0, p, by omega, hp, rfl, rfl, by show _ = _; omega, HP0⟩
      case round =>
        clear HP0
        obtain ⟨j, P, hj, hP, rfl, rfl, HPP, HP⟩ := hrel
        by_cases hlt : j < 4
        · have hj3 : (j : Int) < 4 := by omega
          have hP8 : P + 8 ≤ s.size := by have := HPP.out; omega
          have hP8i : (P : Int) + 8 ≤ (s.size : Int) := by omega
          have c1 : wr.cell? ⟨w.heap.size, j, none⟩ = some (.int .u64 ((fget F j : Nat) : Int)) := by
            have := HP.out.cell (o := 0 + j) _ (by rw [setToW_far _ _ _ _ _ _ (by omega)]; exact fourW_at F j hlt)
            rw [Nat.zero_add] at this
            exact this
          have f1 : wr.frozen? ⟨w.heap.size, j, none⟩ = false := HP.out.frozen
          have hx := HL.out.get j hlt
          have hy := Sums.w8_lt ((Sums.bl s).drop P) (fun z hz => Sums.bl_byt s z (List.mem_of_mem_drop hz))
          have HEV := Hid.mk' (round_at F (Sums.bl s) p P j HPP.out)
          have HPS : Hid (∀ n, Put w.heap.size 64 (setToW (fourW F) 0 F ((Sums.bl s).drop p) (j + 1)) wo ((wr.drewN n).setCell ⟨w.heap.size, j, none⟩ (.int .u64 ((roundJ F ((Sums.bl s).drop p) j : Nat) : Int)))) := by
            intro n
            have := (HP.out.drewN n).setCell (o := 0 + j) (.int .u64 ((roundJ F ((Sums.bl s).drop p) j : Nat) : Int))
            rw [show setToW (fourW F) 0 F ((Sums.bl s).drop p) (j + 1) = (setToW (fourW F) 0 F ((Sums.bl s).drop p) j).set (0 + j) (.int .u64 ((roundJ F ((Sums.bl s).drop p) j : Nat) : Int)) by rw [setToW]]
            rw [Nat.zero_add] at this ⊢
            exact this
          go_wp2_with fail
          go_region_with (first | (go_at_call 41; refine (eight_any s P _ hmx hP8).mono ?_; rintro e w1 ⟨rfl, n1, rfl⟩) | (go_at_call 40; refine (refRound_any (fget F j) (Sums.w8 ((Sums.bl s).drop P)) _ hx hy).mono ?_; rintro e w1 ⟨rfl, n2, rfl⟩))
          all_goals
            rw [HEV.out]
            clear hP8i hy hx c1 f1 HEV HP
            go_wp2_with fail
            go_roundw
            case rel => exact ⟨j + 1, P + 8, by omega, hP8, by go_num, by go_num, by show _ = _; have := HPP.out; omega, HPS.out _⟩
            case measure => simp [intOf]; omega
        · obtain rfl : j = 4 := by omega
          have HP2 : Hid (wr.heap[w.heap.size]? = some (.cells (fourW (Sums.take64 F ((Sums.bl s).drop p))).toArray 64 (0, 0))) := by
            have := HP.out.row
            rw [four_foldW] at this
            exact this
          have HB2 : Hid (Below w.heap.size w wr) := HB.out.trans (HP.out.below (Nat.le_refl _))
          obtain rfl : P = p + 32 := by have := HPP.out; omega
          clear HP HPP HB
          go_wp2_with fail
          go_roundw
          case rel => exact ⟨p + 32, _, h16, rfl, HI2, FourLtW.take _ _, HP2, HB2⟩
          case measure => simp [intOf]; omega
    · have g16 : ¬ (p : Int) + 32 ≤ (s.size : Int) := by omega
      have HE : Hid (Sums.rows64 (Sums.begin64 seed) (Sums.bl s) = (F, (Sums.bl s).drop p)) := by
        show _ = _
        rw [← HI.out, Sums.rows64_end _ _ (by rw [List.length_drop, Sums.bl_length]; omega)]
      have HX2 : Hid (Sums.xx64 seed (Sums.bl s) = Sums.stir64 (Sums.tail64 ((Sums.merged64 F + s.size) % 18446744073709551616) ((Sums.bl s).drop p))) := by
        show _ = _
        rw [HX.out, HE.out, Sums.last64]
      clear HI HX HE
      obtain ⟨A, B, C, D⟩ := F
      have HCC : Hid (∀ j, j < 4 → wr.cell? ⟨w.heap.size, j, none⟩ = some (.int .u64 ((fget ⟨A, B, C, D⟩ j : Nat) : Int))) := fun j hj => by
        have := (Put.refl HM.out).cell _ (fourW_at _ j hj)
        rw [Nat.zero_add] at this
        exact this
      have c0 : wr.cell? ⟨w.heap.size, 0, none⟩ = some (.int .u64 (A : Int)) := HCC.out 0 (by omega)
      have c1 : wr.cell? ⟨w.heap.size, 1, none⟩ = some (.int .u64 (B : Int)) := HCC.out 1 (by omega)
      have c2 : wr.cell? ⟨w.heap.size, 2, none⟩ = some (.int .u64 (C : Int)) := HCC.out 2 (by omega)
      have c3 : wr.cell? ⟨w.heap.size, 3, none⟩ = some (.int .u64 (D : Int)) := HCC.out 3 (by omega)
      obtain ⟨h0, h1, h2, h3⟩ : A < 18446744073709551616 ∧ B < 18446744073709551616 ∧ C < 18446744073709551616 ∧ D < 18446744073709551616 := HL.out
      clear HM
      have HMM : Hid (Sums.merged64 ⟨A, B, C, D⟩ = mrg ⟨A, B, C, D⟩ ((Sums.rot64 A 1 + Sums.rot64 B 7 + Sums.rot64 C 12 + Sums.rot64 D 18) % 18446744073709551616) 4) := by show _ = _; rw [Sums.merged64]; rfl
      have R1 : ∀ w : World, Calls Tryd.prog 42 #[.int .u64 (A : Int), .int .i64 1] w fun e w' => e = .returned (.int .u64 (Sums.rot64 A 1 : Nat)) ∧ ∃ n, w' = w.drewN n := fun w => wide_any A 1 w h0 (by decide) (by decide)
      have R2 : ∀ w : World, Calls Tryd.prog 42 #[.int .u64 (B : Int), .int .i64 7] w fun e w' => e = .returned (.int .u64 (Sums.rot64 B 7 : Nat)) ∧ ∃ n, w' = w.drewN n := fun w => wide_any B 7 w h1 (by decide) (by decide)
      have R3 : ∀ w : World, Calls Tryd.prog 42 #[.int .u64 (C : Int), .int .i64 12] w fun e w' => e = .returned (.int .u64 (Sums.rot64 C 12 : Nat)) ∧ ∃ n, w' = w.drewN n := fun w => wide_any C 12 w h2 (by decide) (by decide)
      have R4 : ∀ w : World, Calls Tryd.prog 42 #[.int .u64 (D : Int), .int .i64 18] w fun e w' => e = .returned (.int .u64 (Sums.rot64 D 18 : Nat)) ∧ ∃ n, w' = w.drewN n := fun w => wide_any D 18 w h3 (by decide) (by decide)
      generalize Sums.rot64 A 1 = a at *
      generalize Sums.rot64 B 7 = b at *
      generalize Sums.rot64 C 12 = c at *
      generalize Sums.rot64 D 18 = d at *
      have HR1 := Hid.mk' R1
      have HR2 := Hid.mk' R2
      have HR3 := Hid.mk' R3
      have HR4 := Hid.mk' R4
      have HLL : Hid (∀ j, j < 4 → fget ⟨A, B, C, D⟩ j < 18446744073709551616) := HL.out.get
      clear R1 R2 R3 R4 h0 h1 h2 h3 HL
      go_wp2_with fail
      go_quiet ((go_at_call 42; first | (with_reducible exact Calls.quiet_of (HR1.out _)) | (with_reducible exact Calls.quiet_of (HR2.out _)) | (with_reducible exact Calls.quiet_of (HR3.out _)) | (with_reducible exact Calls.quiet_of (HR4.out _))))
      go_wp2_with fail
      obtain ⟨S0, HS0⟩ : ∃ S0, Hid (S0 = (a + b + c + d) % 18446744073709551616) := ⟨_, Hid.mk' rfl⟩
      rw [← HS0.out] at HMM
      have e0 : IntKind.u64.wrap (IntKind.u64.wrap (IntKind.u64.wrap ((a : Int) + (b : Int)) + (c : Int)) + (d : Int)) = (S0 : Int) := by
        have := HS0.out
        simp only [IntKind.wrap_u64]; omega
      have hS0 : S0 < 18446744073709551616 := by have := HS0.out; omega
      rw [e0]
      have HB1 : Hid (Below w.heap.size w (wr.drewN nq)) := HB.out.drewN' nq
      have HC1 : Hid (∀ j, j < 4 → (wr.drewN nq).cell? ⟨w.heap.size, j, none⟩ = some (.int .u64 ((fget ⟨A, B, C, D⟩ j : Nat) : Int))) := HCC
      clear e0 c0 c1 c2 c3 HR1 HR2 HR3 HR4 HB HCC
      generalize IntKind.u64.wrap (IntKind.u64.wrap ((a : Int) + (b : Int)) + (c : Int)) = v4 at *
      generalize IntKind.u64.wrap ((a : Int) + (b : Int)) = v5 at *
      obtain ⟨wo, hwo⟩ : ∃ wo, wo = wr.drewN nq := ⟨_, rfl⟩
      rw [← hwo] at HB1 HC1 ⊢
      clear hwo
      go_loopw [5, 11] (fun x z wr => ∃ (j H : Nat), j ≤ 4 ∧ H < 18446744073709551616 ∧ x = .int .u64 (H : Int) ∧ z = .int .i64 (j : Int) ∧ Hid (H = mrg ⟨A, B, C, D⟩ S0 j) ∧ ∃ n, wr = wo.drewN n) (fun _ z _ => 4 - (intOf z).toNat)
      case atStart => exact ⟨0, S0, by omega, hS0, rfl, rfl, rfl, 0, rfl⟩
      case round =>
        obtain ⟨j, H, hj, hH, rfl, rfl, HG, nn, rfl⟩ := hrel
        by_cases hlt : j < 4
        · have hj3 : (j : Int) < 4 := by omega
          have c1 := HC1.out j hlt
          have hx := HLL.out j hlt
          have hr := Sums.round64_lt 0 (fget ⟨A, B, C, D⟩ j)
          have HMB := Hid.mk' (merge_bits H (fget ⟨A, B, C, D⟩ j) hH)
          have HN : Hid (Sums.mergeOne H (fget ⟨A, B, C, D⟩ j) = mrg ⟨A, B, C, D⟩ S0 (j + 1)) := by
            show _ = _
            rw [mrg, ← HG.out]
          have hM := mergeOne_lt H (fget ⟨A, B, C, D⟩ j)
          clear HG
          generalize fget ⟨A, B, C, D⟩ j = X at *
          go_wp2_with fail
          refine (refRound0_any X _ hx).mono ?_
          rintro e w1 ⟨rfl, n1, rfl⟩
          go_wp2_with fail
          go_roundw
          case rel => exact ⟨j + 1, _, by omega, hM, int_u64 HMB.out, by go_num, HN, nn + n1, rfl⟩
          case measure => simp [intOf]; omega
        · have HJ : Hid (j = 4) := by show _ = _; omega
          have hj4 : ¬ (j : Int) < 4 := by omega
          obtain ⟨H0, HH0⟩ : ∃ H0, Hid (H0 = (Sums.merged64 ⟨A, B, C, D⟩ + s.size) % 18446744073709551616) := ⟨_, Hid.mk' rfl⟩
          rw [← HH0.out] at HX2
          have e9 : IntKind.u64.wrap ((H : Int) + (s.size : Int)) = (H0 : Int) := by
            have h1 := HH0.out
            have h2 := HG.out
            rw [HJ.out, ← HMM.out] at h2
            rw [← h2] at h1
            simp only [IntKind.wrap_u64]; omega
          have hH0 : H0 < 18446744073709551616 := by have := HH0.out; omega
          have HB0 : Hid (Below w.heap.size w (wo.drewN nn)) := HB1.out.drewN' nn
          have HE9 := Hid.mk' e9
          clear e9 HC1 HLL HB1
          go_wp2_with fail
          rw [HE9.out]
          clear HE9
          generalize wo.drewN nn = wz at *
          go_loopw [5, 6] (fun x y wr => ∃ H pz : Nat, H < 18446744073709551616 ∧ pz ≤ s.size ∧ x = .int .u64 (H : Int) ∧ y = .int .i64 (pz : Int) ∧ Hid (Sums.tail64 H ((Sums.bl s).drop pz) = Sums.tail64 H0 ((Sums.bl s).drop p)) ∧ Hid (Below w.heap.size w wr)) (fun _ y _ => s.size - (intOf y).toNat)
          case atStart => exact ⟨H0, p, hH0, hp, rfl, rfl, rfl, HB0⟩
          case round =>
            clear HB0
            obtain ⟨H, pz, hH, hpz, rfl, rfl, HI, HB⟩ := hrel
            by_cases h8 : pz + 8 ≤ s.size
            · have g8 : (pz : Int) + 8 ≤ (s.size : Int) := by omega
              have hw8 := Sums.w8_lt ((Sums.bl s).drop pz) (fun z hz => Sums.bl_byt s z (List.mem_of_mem_drop hz))
              have HI2 : Hid (Sums.tail64 (Sums.mixW8 H (Sums.w8 ((Sums.bl s).drop pz))) ((Sums.bl s).drop (pz + 8)) = Sums.tail64 H0 ((Sums.bl s).drop p)) := by
                show _ = _
                rw [← List.drop_drop, ← Sums.tail64_more _ _ (by rw [List.length_drop, Sums.bl_length]; omega)]
                exact HI.out
              have hm8 := Sums.mixW8_lt H (Sums.w8 ((Sums.bl s).drop pz))
              have hrd := Sums.round64_lt 0 (Sums.w8 ((Sums.bl s).drop pz))
              have hx := Sums.xor64_lt hH hrd
              have HM : Hid (Sums.mixW8 H (Sums.w8 ((Sums.bl s).drop pz)) = (Sums.rot64 (H ^^^ Sums.round64 0 (Sums.w8 ((Sums.bl s).drop pz))) 27 * 11400714785074694791 + 9650029242287828579) % 18446744073709551616) := by show _ = _; rw [Sums.mixW8]
              clear HI
              go_wp2_with fail
              refine (eight_any s pz _ hmx h8).mono ?_
              rintro e w1 ⟨rfl, n1, rfl⟩
              go_wp2_with fail
              refine (refRound0_any _ _ hw8).mono ?_
              rintro e w1 ⟨rfl, n2, rfl⟩
              go_wp2_with fail
              refine (wide_i _ (H ^^^ Sums.round64 0 (Sums.w8 ((Sums.bl s).drop pz))) 27 _ (u64_xor_nat _ _ hH hrd) hx (by omega) (by omega) 27 rfl).mono ?_
              rintro e w1 ⟨rfl, n3, rfl⟩
              go_wp2_with fail
              go_roundw
              case rel => exact ⟨_, pz + 8, hm8, h8, int_u64 (by rw [HM.out]; simp only [IntKind.wrap_u64]; omega), by go_num, HI2, HB.out.drewN' _⟩
              case measure => simp [intOf]; omega
            · have g8 : ¬ (pz : Int) + 8 ≤ (s.size : Int) := by omega
              have HI2 : Hid (Sums.four64 H ((Sums.bl s).drop pz) = Sums.tail64 H0 ((Sums.bl s).drop p)) := by
                show _ = _
                rw [← Sums.tail64_end _ _ (by rw [List.length_drop, Sums.bl_length]; omega)]
                exact HI.out
              clear HI
              by_cases h4 : pz + 4 ≤ s.size
              · have g4 : (pz : Int) + 4 ≤ (s.size : Int) := by omega
                have hw4 := Sums.w4_lt ((Sums.bl s).drop pz) (fun z hz => Sums.bl_byt s z (List.mem_of_mem_drop hz))
                obtain ⟨B4, HB4⟩ : ∃ B4, Hid (B4 = Sums.mixW4 H (Sums.w4 ((Sums.bl s).drop pz))) := ⟨_, Hid.mk' rfl⟩
                have HI3 : Hid (Sums.bytes64 B4 ((Sums.bl s).drop (pz + 4)) = Sums.tail64 H0 ((Sums.bl s).drop p)) := by
                  show _ = _
                  rw [HB4.out, ← HI2.out, Sums.four64, if_pos (by rw [List.length_drop, Sums.bl_length]; omega), List.drop_drop]
                have hm4 : B4 < 18446744073709551616 := by rw [HB4.out]; exact Sums.mixW4_lt _ _
                have hx0 : Sums.w4 ((Sums.bl s).drop pz) * 11400714785074694791 % 18446744073709551616 < 18446744073709551616 := Nat.mod_lt _ (by decide)
                have hx := Sums.xor64_lt hH hx0
                have HM : Hid (B4 = (Sums.rot64 (H ^^^ Sums.w4 ((Sums.bl s).drop pz) * 11400714785074694791 % 18446744073709551616) 23 * 14029467366897019727 + 1609587929392839161) % 18446744073709551616) := by
                  show _ = _
                  rw [HB4.out, Sums.mixW4]
                have HXW : Hid (bits .xor .u64 (H : Int) (IntKind.u64.wrap ((Sums.w4 ((Sums.bl s).drop pz) : Int) * 11400714785074694791)) = ((H ^^^ Sums.w4 ((Sums.bl s).drop pz) * 11400714785074694791 % 18446744073709551616 : Nat) : Int)) := by
                  show _ = _
                  rw [show IntKind.u64.wrap ((Sums.w4 ((Sums.bl s).drop pz) : Int) * 11400714785074694791) = ((Sums.w4 ((Sums.bl s).drop pz) * 11400714785074694791 % 18446744073709551616 : Nat) : Int) by rw [IntKind.wrap_u64]; omega, u64_xor_nat _ _ hH hx0]
                clear HI2
                go_wp2_with fail
                refine (refWord_any s pz _ hmx h4).mono ?_
                rintro e w1 ⟨rfl, n1, rfl⟩
                go_wp2_with fail
                refine (wide_i _ (H ^^^ Sums.w4 ((Sums.bl s).drop pz) * 11400714785074694791 % 18446744073709551616) 23 _ HXW.out hx (by omega) (by omega) 23 rfl).mono ?_
                rintro e w1 ⟨rfl, n2, rfl⟩
                have e5 : IntKind.u64.wrap (IntKind.u64.wrap ((Sums.rot64 (H ^^^ Sums.w4 ((Sums.bl s).drop pz) * 11400714785074694791 % 18446744073709551616) 23 : Nat) * 14029467366897019727 : Int) + 1609587929392839161) = (B4 : Int) := by rw [HM.out]; simp only [IntKind.wrap_u64]; omega
                have HB5 : Hid (Below w.heap.size w (wr.drewN (n1 + n2))) := HB.out.drewN' _
                have eP : (pz : Int) + 4 = ((pz + 4 : Nat) : Int) := by omega
                have HEP := Hid.mk' eP
                clear eP
                go_wp2_with fail
                try rw [e5]
                try rw [HEP.out]
                clear e5 HB4 HM HXW HB HEP
                generalize hpq : pz + 4 = pq at *
                clear hpq
                generalize wr.drewN (n1 + n2) = wz2 at *
                go_loopw [5, 6] (fun x y wr => ∃ G q : Nat, G < 18446744073709551616 ∧ q ≤ s.size ∧ x = .int .u64 (G : Int) ∧ y = .int .i64 (q : Int) ∧ Hid (Sums.bytes64 G ((Sums.bl s).drop q) = Sums.tail64 H0 ((Sums.bl s).drop p)) ∧ Hid (Below w.heap.size w wr)) (fun _ y _ => s.size - (intOf y).toNat)
                case atStart => exact ⟨B4, pq, hm4, h4, rfl, rfl, HI3, HB5⟩
                case round =>
                  clear HB5 HI3
                  obtain ⟨G, q, hG, hq2, rfl, rfl, HG, HB⟩ := hrel
                  by_cases hlt : q < s.size
                  · have g5 : (q : Int) < (s.size : Int) := by omega
                    have hby := UInt8.toNat_lt s[q]
                    have HG2 : Hid (Sums.bytes64 (Sums.mixW1 G s[q].toNat) ((Sums.bl s).drop (q + 1)) = Sums.tail64 H0 ((Sums.bl s).drop p)) := by
                      show _ = _
                      rw [← bytes64_cons, ← drop_at s q hlt]
                      exact HG.out
                    have hm1 := Sums.mixW1_lt G s[q].toNat
                    have hx0 : s[q].toNat * 2870177450012600261 % 18446744073709551616 < 18446744073709551616 := Nat.mod_lt _ (by decide)
                    have hx := Sums.xor64_lt hG hx0
                    have HM : Hid (Sums.mixW1 G s[q].toNat = Sums.rot64 (G ^^^ s[q].toNat * 2870177450012600261 % 18446744073709551616) 11 * 11400714785074694791 % 18446744073709551616) := by show _ = _; rw [Sums.mixW1]
                    have HX : Hid (bits .xor .u64 (G : Int) (IntKind.u64.wrap ((s[q].toNat : Int) * 2870177450012600261)) = ((G ^^^ s[q].toNat * 2870177450012600261 % 18446744073709551616 : Nat) : Int)) := by
                      show _ = _
                      rw [show IntKind.u64.wrap ((s[q].toNat : Int) * 2870177450012600261) = ((s[q].toNat * 2870177450012600261 % 18446744073709551616 : Nat) : Int) by rw [IntKind.wrap_u64]; omega, u64_xor_nat _ _ hG hx0]
                    clear HG
                    go_wp2_with fail
                    refine (wide_i _ (G ^^^ s[q].toNat * 2870177450012600261 % 18446744073709551616) 11 _ HX.out hx (by omega) (by omega) 11 rfl).mono ?_
                    rintro e w1 ⟨rfl, n1, rfl⟩
                    go_wp2_with fail
                    go_roundw
                    case rel => exact ⟨_, q + 1, hm1, hlt, int_u64 (by rw [HM.out]; simp only [IntKind.wrap_u64]; omega), by go_num, HG2, HB.out.drewN' _⟩
                    case measure => simp [intOf]; omega
                  · have g5 : ¬ (q : Int) < (s.size : Int) := by omega
                    have A1 := Hid.mk' (stirWA_bits G hG)
                    have A2 := Hid.mk' (stirWB_bits _ (Sums.stirWA_lt G))
                    have A3 := Hid.mk' (stirWC_bits _ (Sums.stirWB_lt (Sums.stirWA G)))
                    have HE : Hid (Sums.xx64 seed (Sums.bl s) = Sums.stirWB (Sums.stirWA G) ^^^ Sums.stirWB (Sums.stirWA G) / 4294967296) := by
                      show _ = _
                      have e1 : G = Sums.tail64 H0 ((Sums.bl s).drop p) := by
                        rw [← HG.out, List.drop_eq_nil_of_le (by rw [Sums.bl_length]; omega), Sums.bytes64, List.foldl_nil]
                      rw [HX2.out, ← e1, Sums.stir64]
                    have l1 := Sums.stirWA_lt G
                    have l2 := Sums.stirWB_lt (Sums.stirWA G)
                    generalize Sums.stirWB (Sums.stirWA G) = Z at *
                    generalize Sums.stirWA G = Y at *
                    clear HG
                    go_wp2_with fail
                    go_ret
                    rw [A1.out, A2.out, A3.out]
                    exact ⟨ret_u64 (by rw [HE.out]), HB.out⟩
              · have g4 : ¬ (pz : Int) + 4 ≤ (s.size : Int) := by omega
                have HI3 : Hid (Sums.bytes64 H ((Sums.bl s).drop pz) = Sums.tail64 H0 ((Sums.bl s).drop p)) := by
                  show _ = _
                  rw [← HI2.out, Sums.four64, if_neg (by rw [List.length_drop, Sums.bl_length]; omega)]
                clear HI2
                go_wp2_with fail
                go_loopw [5, 6] (fun x y wr => ∃ G q : Nat, G < 18446744073709551616 ∧ q ≤ s.size ∧ x = .int .u64 (G : Int) ∧ y = .int .i64 (q : Int) ∧ Hid (Sums.bytes64 G ((Sums.bl s).drop q) = Sums.tail64 H0 ((Sums.bl s).drop p)) ∧ Hid (Below w.heap.size w wr)) (fun _ y _ => s.size - (intOf y).toNat)
                case atStart => exact ⟨H, pz, hH, hpz, rfl, rfl, HI3, HB⟩
                case round =>
                  clear HB HI3
                  obtain ⟨G, q, hG, hq2, rfl, rfl, HG, HB⟩ := hrel
                  by_cases hlt : q < s.size
                  · have g5 : (q : Int) < (s.size : Int) := by omega
                    have hby := UInt8.toNat_lt s[q]
                    have HG2 : Hid (Sums.bytes64 (Sums.mixW1 G s[q].toNat) ((Sums.bl s).drop (q + 1)) = Sums.tail64 H0 ((Sums.bl s).drop p)) := by
                      show _ = _
                      rw [← bytes64_cons, ← drop_at s q hlt]
                      exact HG.out
                    have hm1 := Sums.mixW1_lt G s[q].toNat
                    have hx0 : s[q].toNat * 2870177450012600261 % 18446744073709551616 < 18446744073709551616 := Nat.mod_lt _ (by decide)
                    have hx := Sums.xor64_lt hG hx0
                    have HM : Hid (Sums.mixW1 G s[q].toNat = Sums.rot64 (G ^^^ s[q].toNat * 2870177450012600261 % 18446744073709551616) 11 * 11400714785074694791 % 18446744073709551616) := by show _ = _; rw [Sums.mixW1]
                    have HX : Hid (bits .xor .u64 (G : Int) (IntKind.u64.wrap ((s[q].toNat : Int) * 2870177450012600261)) = ((G ^^^ s[q].toNat * 2870177450012600261 % 18446744073709551616 : Nat) : Int)) := by
                      show _ = _
                      rw [show IntKind.u64.wrap ((s[q].toNat : Int) * 2870177450012600261) = ((s[q].toNat * 2870177450012600261 % 18446744073709551616 : Nat) : Int) by rw [IntKind.wrap_u64]; omega, u64_xor_nat _ _ hG hx0]
                    clear HG
                    go_wp2_with fail
                    refine (wide_i _ (G ^^^ s[q].toNat * 2870177450012600261 % 18446744073709551616) 11 _ HX.out hx (by omega) (by omega) 11 rfl).mono ?_
                    rintro e w1 ⟨rfl, n1, rfl⟩
                    go_wp2_with fail
                    go_roundw
                    case rel => exact ⟨_, q + 1, hm1, hlt, int_u64 (by rw [HM.out]; simp only [IntKind.wrap_u64]; omega), by go_num, HG2, HB.out.drewN' _⟩
                    case measure => simp [intOf]; omega
                  · have g5 : ¬ (q : Int) < (s.size : Int) := by omega
                    have A1 := Hid.mk' (stirWA_bits G hG)
                    have A2 := Hid.mk' (stirWB_bits _ (Sums.stirWA_lt G))
                    have A3 := Hid.mk' (stirWC_bits _ (Sums.stirWB_lt (Sums.stirWA G)))
                    have HE : Hid (Sums.xx64 seed (Sums.bl s) = Sums.stirWB (Sums.stirWA G) ^^^ Sums.stirWB (Sums.stirWA G) / 4294967296) := by
                      show _ = _
                      have e1 : G = Sums.tail64 H0 ((Sums.bl s).drop p) := by
                        rw [← HG.out, List.drop_eq_nil_of_le (by rw [Sums.bl_length]; omega), Sums.bytes64, List.foldl_nil]
                      rw [HX2.out, ← e1, Sums.stir64]
                    have l1 := Sums.stirWA_lt G
                    have l2 := Sums.stirWB_lt (Sums.stirWA G)
                    generalize Sums.stirWB (Sums.stirWA G) = Z at *
                    generalize Sums.stirWA G = Y at *
                    clear HG
                    go_wp2_with fail
                    go_ret
                    rw [A1.out, A2.out, A3.out]
                    exact ⟨ret_u64 (by rw [HE.out]), HB.out⟩
theorem refXX64_any (seed : Nat) (s : ByteArray) (w : World) (hq : seed < 18446744073709551616) (hm : s.size ≤ 140737488351232) :
    Calls Tryd.prog 17 #[.int .u64 (seed : Int), .string s] w fun e w' => e = .returned (.int .u64 (Sums.xx64 seed (Sums.bl s) : Nat)) ∧ Below w.heap.size w w' := by
  by_cases h : s.size < 32
  · exact refXX64_less seed s w hq h
  · exact refXX64_more seed s w hq h hm
end Go.Proofs.YtnbcmobdenjjfaaDoor
