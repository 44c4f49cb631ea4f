/-
  The walk of the law SwarCase: whatever it is given it returns true, and of what was there nothing turns. Conditions: texts of at most 2^46 bytes, the place is an int, the table of math/bits lies as its text lays it.
-/
import Derived.Test.YtjodfdfegbbogaaDoorCaseA
import Derived.Deep.RegionHeld3
import Derived.Deep.DrawnRows
namespace Go.Proofs.YtjodfdfegbbogaaDoor
open Go.RowKit
attribute [local go_sem ↓] Go.wp_at_zero Go.wp_at_succ
set_option linter.unusedVariables false
theorem idx_any (s : ByteArray) (i c : Nat) (hi : i < s.size) (hc : c = Swar.bt s i) (W : World) : (Instr.index 9 (.string s) (.int .i64 (i : Int))).run Tryd.prog W = .ok (.int .u8 (c : Int)) W := by
  rw [run_index_string W 9 _ .i64 (i : Int) Tryd.underlying9, dif_pos ⟨by omega, by omega⟩]
  simp only [Int.toNat_natCast]
  rw [hc, Swar.bt_in hi]
set_option maxRecDepth 100000 in
set_option maxHeartbeats 4000000 in
theorem swarCase_any (a b : ByteArray) (at' : Int) (w : World) (ha : a.size ≤ 1048576) (hb : b.size ≤ 1048576) (h0 : -9223372036854775808 ≤ at') (h1 : at' ≤ 9223372036854775807) (ht : Tab w) :
    Calls Tryd.prog 5 #[.string a, .string b, .int .i64 at'] w fun e w' => e = .returned (.bool true) ∧ Below w.heap.size w w' := by
  have HA := Hid.mk' ha
  have HB := Hid.mk' hb
  have HT := Hid.mk' ht
  have a1 : (a.size : Int) ≤ 1048576 := by omega
  have b1 : (b.size : Int) ≤ 1048576 := by omega
  obtain ⟨x, HX⟩ : ∃ x, Hid (x = Swar.foldL a) := ⟨_, Hid.mk' rfl⟩
  obtain ⟨y, HY⟩ : ∃ y, Hid (y = Swar.foldL b) := ⟨_, Hid.mk' rfl⟩
  have xs : x.size = a.size := by rw [HX.out, Swar.fold_size]
  have HYS : Hid (y.size = b.size) := by unfold Hid; rw [HY.out, Swar.fold_size]
  have HXX : Hid (Swar.foldL x = x) := by unfold Hid; rw [HX.out, Swar.fold_fold]
  have HAB : Hid (Swar.foldL (a ++ b) = x ++ y) := by unfold Hid; rw [HX.out, HY.out, Swar.fold_append]
  have HLD : Hid (Swar.ldL x at' = Swar.lowerL (Swar.ldL a at')) := by unfold Hid; rw [HX.out, Swar.ld_fold]
  clear ha hb ht
  go_enter Tryd.func5, Tryd.ntmps5
  go_wp2_with fail
  refine (fold_any a _ (by have := HA.out; omega)).mono ?_
  rintro e w1 ⟨rfl, hb1⟩
  rw [← HX.out]
  have HB1 := Hid.mk' hb1
  clear hb1
  go_wp2_with fail
  refine (fold_any b _ (by have := HB.out; omega)).mono ?_
  rintro e w2 ⟨rfl, hb2⟩
  rw [← HY.out]
  have HB2 : Hid (Below w.heap.size w w2) := HB1.out.trans (hb2.mono HB1.out.size)
  clear hb2 HB1
  go_wp2_with fail
  refine (fold_any x _ (by have := HA.out; omega)).mono ?_
  rintro e w3 ⟨rfl, hb3⟩
  rw [HXX.out]
  have HB3 : Hid (Below w.heap.size w w3) := HB2.out.trans (hb3.mono HB2.out.size)
  clear hb3 HB2
  go_wp2_with fail
  refine (fold_any (a ++ b) _ (by rw [ByteArray.size_append]; have := HA.out; have := HB.out; omega)).mono ?_
  rintro e w4 ⟨rfl, hb4⟩
  rw [HAB.out]
  have HB4 : Hid (Below w.heap.size w w4) := HB3.out.trans (hb4.mono HB3.out.size)
  clear hb4 HB3
  have ys : y.size = b.size := HYS.out
  go_wp2_with fail
  refine (load_any x at' _ (by have := HA.out; omega) h0 h1).mono ?_
  rintro e w5 ⟨rfl, n5, rfl⟩
  go_wp2_with fail
  refine (load_any a at' _ (by have := HA.out; omega) h0 h1).mono ?_
  rintro e w6 ⟨rfl, n6, rfl⟩
  go_wp2_with fail
  refine (lower_any _ _ (Swar.ldL_lt a at')).mono ?_
  rintro e w7 ⟨rfl, hw7⟩
  rw [HLD.out]
  generalize Swar.lowerL (Swar.ldL a at') = v at *
  have HB7 : Hid (Below w.heap.size w w7) := by unfold Hid; rw [hw7]; exact ⟨HB4.out.os, HB4.out.tape, HB4.out.output, HB4.out.size, HB4.out.block⟩
  clear hw7 HB4
  go_wp2_with fail
  go_loopw [9] (fun i' wr => ∃ i : Nat, i' = .int .i64 (i : Int) ∧ i ≤ a.size ∧ Below w.heap.size w wr) (fun i' _ => a.size - (intOf i').toNat)
  case atStart => exact ⟨0, rfl, by omega, HB7.out⟩
  case round =>
    obtain ⟨i, rfl, hi, hb⟩ := hrel
    have HBR := Hid.mk' hb
    clear hb HB7
    by_cases hlt : i < a.size
    · obtain ⟨c, hc⟩ : ∃ c, c = Swar.bt a i := ⟨_, rfl⟩
      have hc256 : c < 256 := by rw [hc, Swar.bt_in hlt]; exact UInt8.toNat_lt _
      have hd : Swar.small c = Swar.bt x i := by rw [hc, HX.out, Swar.bt_fold]
      have hia := idx_any a i c hlt hc
      have hix := idx_any x i (Swar.small c) (by omega) hd
      have i1 : (i : Int) < (a.size : Int) := by omega
      have i0 : (0 : Int) ≤ (i : Int) := by omega
      clear hc hd
      by_cases hcap : 65 ≤ c ∧ c ≤ 90
      · obtain ⟨d, hd⟩ : ∃ d, d = c + 32 := ⟨_, rfl⟩
        rw [show Swar.small c = d from (if_pos hcap).trans hd.symm] at hix
        have q1 : decide ((c : Int) < 65) = false := decide_eq_false (by omega)
        have q1' : ¬ (c : Int) < 65 := by omega
        have q2 : decide ((90 : Int) < (c : Int)) = false := decide_eq_false (by omega)
        have q2' : ¬ (90 : Int) < (c : Int) := by omega
        have q3 : ((c : Int) != (d : Int)) = true := by simp; omega
        have q3' : ¬ (c : Int) = (d : Int) := by omega
        have q3'' : ¬ c = d := by omega
        have q4 : IntKind.u8.wrap ((c : Int) + 32) = (d : Int) := by rw [IntKind.wrap_u8]; omega
        have q4' : (c : Int) + 32 = (d : Int) := by omega
        have q5 : decide ((65 : Int) ≤ (d : Int)) = true := decide_eq_true (by omega)
        have q5' : (65 : Int) ≤ (d : Int) := by omega
        have q6 : decide ((d : Int) ≤ (90 : Int)) = false := decide_eq_false (by omega)
        have q6' : ¬ (d : Int) ≤ (90 : Int) := by omega
        have hc2 : (c : Int) < 256 := by omega
        clear hd
        have HCP := Hid.mk' hcap
        clear hcap hc256
        go_wp2_with fail
        go_quiet (fail)
        go_wp2_with fail
        go_roundw
        case rel => exact ⟨i + 1, by go_num, by omega, HBR.out.drewN' nq⟩
        case measure => simp [intOf]; omega
      · rw [show Swar.small c = c from if_neg hcap] at hix
        by_cases h65 : c < 65
        · have q5 : decide ((65 : Int) ≤ (c : Int)) = false := decide_eq_false (by omega)
          have q6 : ¬ (65 : Int) ≤ (c : Int) := by omega
          have HCP := Hid.mk' hcap
          clear hcap h65 hc256
          go_wp2_with fail
          go_quiet (fail)
          go_wp2_with fail
          go_roundw
          case rel => exact ⟨i + 1, by go_num, by omega, HBR.out.drewN' nq⟩
          case measure => simp [intOf]; omega
        · have q5 : decide ((65 : Int) ≤ (c : Int)) = true := decide_eq_true (by omega)
          have q6 : decide ((c : Int) ≤ (90 : Int)) = false := decide_eq_false (by omega)
          have HCP := Hid.mk' hcap
          clear hcap h65 hc256
          go_wp2_with fail
          go_quiet (fail)
          go_wp2_with fail
          go_roundw
          case rel => exact ⟨i + 1, by go_num, by omega, HBR.out.drewN' nq⟩
          case measure => simp [intOf]; omega
    · have hlt' : ¬ (i : Int) < (a.size : Int) := by omega
      have HTR : Hid (Tab wr) := Tab.below HBR.out HT.out
      have HS1 : Hid (Swar.sameL a x = true) := by unfold Hid; rw [HX.out]; exact Swar.same_fold a
      have HS2 : Hid (Swar.sameL a b = decide (Swar.cmpL x y = 0)) := by unfold Hid; rw [HX.out, HY.out]; exact Swar.same_cmp a b
      have HS3 : Hid (Swar.sameL (a ++ ⟨#[107]⟩) (x ++ ⟨#[75]⟩) = true) := by unfold Hid; rw [HX.out]; exact Swar.same_k a
      have HS4 : Hid (Swar.sameL a (a ++ ⟨#[107]⟩) = false) := Swar.same_more a
      go_wp2_with fail
      refine (sameFold_any a x _ (by have := HA.out; omega) (by have := HA.out; omega)).mono ?_
      rintro e w8 ⟨rfl, n8, rfl⟩
      rw [HS1.out]
      go_wp2_with fail
      refine (sameFold_any a b _ (by have := HA.out; omega) (by have := HB.out; omega)).mono ?_
      rintro e w9 ⟨rfl, n9, rfl⟩
      rw [HS2.out]
      obtain ⟨k, HK⟩ : ∃ k, Hid (k = Swar.cmpL x y) := ⟨_, Hid.mk' rfl⟩
      rw [← HK.out]
      have hk := Swar.cmp_bounds x y
      rw [← HK.out] at hk
      have HYS2 : Hid (y.size ≤ 1048576) := by unfold Hid; rw [ys]; exact HB.out
      rcases hk with hk | hk | hk
      all_goals (
        rw [hk]
        go_wp2_with fail
        refine (compare_any x y _ (by have := HA.out; omega) (by have := HYS2.out; omega) (by exact HTR.out)).mono ?_
        rintro e wA ⟨rfl, nA, rfl⟩
        rw [← HK.out, hk]
        go_wp2_with fail
        refine (sameFold_any _ _ _ (by rw [ByteArray.size_append]; have := HA.out; show a.size + 1 ≤ _; omega) (by rw [ByteArray.size_append]; have := HA.out; show x.size + 1 ≤ _; omega)).mono ?_
        rintro e wB ⟨rfl, nB, rfl⟩
        rw [HS3.out]
        go_wp2_with fail
        refine (sameFold_any _ _ _ (by have := HA.out; omega) (by rw [ByteArray.size_append]; have := HA.out; show a.size + 1 ≤ _; omega)).mono ?_
        rintro e wC ⟨rfl, nC, rfl⟩
        rw [HS4.out]
        go_wp2_with fail
        go_ret
        exact ⟨rfl, HBR.out.os, HBR.out.tape, HBR.out.output, HBR.out.size, HBR.out.block⟩)
end Go.Proofs.YtjodfdfegbbogaaDoor
