/-
  The law MomentAhead is true. Conditions: ints, a text within reach; the tables lie as the programs' texts lay them.
-/
import Derived.Test.YthmpokndffbkdabDoorAh12
import Derived.Test.YthmpokndffbkdabDoorSx12
import Derived.Test.YthmpokndffbkdabDoorPk12
import Derived.Deep.DeepCutAuto
import Derived.Deep.CutBlock
namespace Go.Proofs.YthmpokndffbkdabDoor
open Go.RowKit
set_option linter.unusedVariables false
theorem sh_TT (y m d h mi s ms : Nat) : Mo.sh y m d h mi s ms = TT y m d ++ (84 :: (CC h mi s ++ (46 :: (dg 3 ms ++ [90])))) := by
  simp [Mo.sh, TT, CC, dg, Nat.div_div_eq_div_mul]
theorem sh_cut (y m d h mi s ms : Nat) : (Mo.sh y m d h mi s ms).take 10 = TT y m d ∧ ((Mo.sh y m d h mi s ms).take 19).drop 11 = CC h mi s ∧ (Mo.sh y m d h mi s ms).take 19 = TT y m d ++ (84 :: CC h mi s) ∧ ((Mo.sh y m d h mi s ms).take 10).drop 8 = dg 2 d ∧ (Mo.sh y m d h mi s ms).take 4 = dg 4 y := by
  simp [Mo.sh, TT, CC, dg, Nat.div_div_eq_div_mul]
theorem ah_tail (t rest : ByteArray) (v : Int) (hP : AhP (Sums.bl t) v) (ht : t.size ≤ 100) (hr : rest.size ≤ 140737488351232) :
    (∀ w, MnT w → Calls Tryd.prog 12 #[.string (t ++ ⟨#[32]⟩ ++ rest)] w fun e w' => e = .returned (.tuple #[.int .i64 v, .string rest, .bool true]) ∧ Below w.heap.size w w') ∧
    (∀ w, MnT w → Calls Tryd.prog 12 #[.string t] w fun e w' => e = .returned (.tuple #[.int .i64 v, .string ByteArray.empty, .bool true]) ∧ Below w.heap.size w w') ∧
    (∀ w, MnT w → Calls Tryd.prog 12 #[.string (t ++ ⟨#[120]⟩ ++ rest)] w fun e w' => e = .returned (.tuple #[.int .i64 0, .string ByteArray.empty, .bool false]) ∧ Below w.heap.size w w') := by
  have l1 : Sums.bl ⟨#[32]⟩ = [32] := rfl
  have l2 : Sums.bl ⟨#[120]⟩ = [120] := rfl
  have e1 : Sums.bl (t ++ ⟨#[32]⟩ ++ rest) = Sums.bl t ++ (32 :: Sums.bl rest) := by rw [Sums.bl_append, Sums.bl_append, l1, List.append_assoc]; rfl
  have e2 : Sums.bl (t ++ ⟨#[120]⟩ ++ rest) = Sums.bl t ++ (120 :: Sums.bl rest) := by rw [Sums.bl_append, Sums.bl_append, l2, List.append_assoc]; rfl
  have z1 : (t ++ ⟨#[32]⟩ ++ rest).size ≤ 140737488355328 := by
    rw [← Sums.bl_length, e1, List.length_append, List.length_cons, Sums.bl_length, Sums.bl_length]; omega
  have z2 : (t ++ ⟨#[120]⟩ ++ rest).size ≤ 140737488355328 := by
    rw [← Sums.bl_length, e2, List.length_append, List.length_cons, Sums.bl_length, Sums.bl_length]; omega
  refine ⟨fun w hm => ?_, fun w hm => ?_, fun w hm => ?_⟩
  · have := aheadT (t ++ ⟨#[32]⟩ ++ rest) w hm z1
    rw [e1, hP.good _ rfl, show restF 32 (32 :: Sums.bl rest) = Sums.bl rest by simp [restF], nums_bl] at this
    exact this
  · have := aheadT t w hm (by omega)
    have h0 := hP.good [] rfl
    rw [List.append_nil] at h0
    rw [h0] at this
    exact this
  · have := aheadT (t ++ ⟨#[120]⟩ ++ rest) w hm z2
    rw [e2, hP.bad] at this
    exact this
theorem mt0 (W : World) : (Instr.slice 9 (.string ⟨#[74, 97, 110, 70, 101, 98, 77, 97, 114, 65, 112, 114, 77, 97, 121, 74, 117, 110, 74, 117, 108, 65, 117, 103, 83, 101, 112, 79, 99, 116, 78, 111, 118, 68, 101, 99]⟩) (some (.int .i64 0)) (some (.int .i64 3)) none).run Tryd.prog W = .ok (.string ⟨#[74, 97, 110]⟩) W := by kernel_rfl
theorem mt1 (W : World) : (Instr.slice 9 (.string ⟨#[74, 97, 110, 70, 101, 98, 77, 97, 114, 65, 112, 114, 77, 97, 121, 74, 117, 110, 74, 117, 108, 65, 117, 103, 83, 101, 112, 79, 99, 116, 78, 111, 118, 68, 101, 99]⟩) (some (.int .i64 3)) (some (.int .i64 6)) none).run Tryd.prog W = .ok (.string ⟨#[70, 101, 98]⟩) W := by kernel_rfl
theorem mt2 (W : World) : (Instr.slice 9 (.string ⟨#[74, 97, 110, 70, 101, 98, 77, 97, 114, 65, 112, 114, 77, 97, 121, 74, 117, 110, 74, 117, 108, 65, 117, 103, 83, 101, 112, 79, 99, 116, 78, 111, 118, 68, 101, 99]⟩) (some (.int .i64 6)) (some (.int .i64 9)) none).run Tryd.prog W = .ok (.string ⟨#[77, 97, 114]⟩) W := by kernel_rfl
theorem mt3 (W : World) : (Instr.slice 9 (.string ⟨#[74, 97, 110, 70, 101, 98, 77, 97, 114, 65, 112, 114, 77, 97, 121, 74, 117, 110, 74, 117, 108, 65, 117, 103, 83, 101, 112, 79, 99, 116, 78, 111, 118, 68, 101, 99]⟩) (some (.int .i64 9)) (some (.int .i64 12)) none).run Tryd.prog W = .ok (.string ⟨#[65, 112, 114]⟩) W := by kernel_rfl
theorem mt4 (W : World) : (Instr.slice 9 (.string ⟨#[74, 97, 110, 70, 101, 98, 77, 97, 114, 65, 112, 114, 77, 97, 121, 74, 117, 110, 74, 117, 108, 65, 117, 103, 83, 101, 112, 79, 99, 116, 78, 111, 118, 68, 101, 99]⟩) (some (.int .i64 12)) (some (.int .i64 15)) none).run Tryd.prog W = .ok (.string ⟨#[77, 97, 121]⟩) W := by kernel_rfl
theorem mt5 (W : World) : (Instr.slice 9 (.string ⟨#[74, 97, 110, 70, 101, 98, 77, 97, 114, 65, 112, 114, 77, 97, 121, 74, 117, 110, 74, 117, 108, 65, 117, 103, 83, 101, 112, 79, 99, 116, 78, 111, 118, 68, 101, 99]⟩) (some (.int .i64 15)) (some (.int .i64 18)) none).run Tryd.prog W = .ok (.string ⟨#[74, 117, 110]⟩) W := by kernel_rfl
theorem mt6 (W : World) : (Instr.slice 9 (.string ⟨#[74, 97, 110, 70, 101, 98, 77, 97, 114, 65, 112, 114, 77, 97, 121, 74, 117, 110, 74, 117, 108, 65, 117, 103, 83, 101, 112, 79, 99, 116, 78, 111, 118, 68, 101, 99]⟩) (some (.int .i64 18)) (some (.int .i64 21)) none).run Tryd.prog W = .ok (.string ⟨#[74, 117, 108]⟩) W := by kernel_rfl
theorem mt7 (W : World) : (Instr.slice 9 (.string ⟨#[74, 97, 110, 70, 101, 98, 77, 97, 114, 65, 112, 114, 77, 97, 121, 74, 117, 110, 74, 117, 108, 65, 117, 103, 83, 101, 112, 79, 99, 116, 78, 111, 118, 68, 101, 99]⟩) (some (.int .i64 21)) (some (.int .i64 24)) none).run Tryd.prog W = .ok (.string ⟨#[65, 117, 103]⟩) W := by kernel_rfl
theorem mt8 (W : World) : (Instr.slice 9 (.string ⟨#[74, 97, 110, 70, 101, 98, 77, 97, 114, 65, 112, 114, 77, 97, 121, 74, 117, 110, 74, 117, 108, 65, 117, 103, 83, 101, 112, 79, 99, 116, 78, 111, 118, 68, 101, 99]⟩) (some (.int .i64 24)) (some (.int .i64 27)) none).run Tryd.prog W = .ok (.string ⟨#[83, 101, 112]⟩) W := by kernel_rfl
theorem mt9 (W : World) : (Instr.slice 9 (.string ⟨#[74, 97, 110, 70, 101, 98, 77, 97, 114, 65, 112, 114, 77, 97, 121, 74, 117, 110, 74, 117, 108, 65, 117, 103, 83, 101, 112, 79, 99, 116, 78, 111, 118, 68, 101, 99]⟩) (some (.int .i64 27)) (some (.int .i64 30)) none).run Tryd.prog W = .ok (.string ⟨#[79, 99, 116]⟩) W := by kernel_rfl
theorem mt10 (W : World) : (Instr.slice 9 (.string ⟨#[74, 97, 110, 70, 101, 98, 77, 97, 114, 65, 112, 114, 77, 97, 121, 74, 117, 110, 74, 117, 108, 65, 117, 103, 83, 101, 112, 79, 99, 116, 78, 111, 118, 68, 101, 99]⟩) (some (.int .i64 30)) (some (.int .i64 33)) none).run Tryd.prog W = .ok (.string ⟨#[78, 111, 118]⟩) W := by kernel_rfl
theorem mt11 (W : World) : (Instr.slice 9 (.string ⟨#[74, 97, 110, 70, 101, 98, 77, 97, 114, 65, 112, 114, 77, 97, 121, 74, 117, 110, 74, 117, 108, 65, 117, 103, 83, 101, 112, 79, 99, 116, 78, 111, 118, 68, 101, 99]⟩) (some (.int .i64 33)) (some (.int .i64 36)) none).run Tryd.prog W = .ok (.string ⟨#[68, 101, 99]⟩) W := by kernel_rfl
theorem mon_cut (m : Nat) (h0 : 1 ≤ m) (h : m ≤ 12) : ∃ q : ByteArray, Sums.bl q = monL (m - 1) ∧ q.size = 3 ∧ ∀ W, (Instr.slice 9 (.string ⟨#[74, 97, 110, 70, 101, 98, 77, 97, 114, 65, 112, 114, 77, 97, 121, 74, 117, 110, 74, 117, 108, 65, 117, 103, 83, 101, 112, 79, 99, 116, 78, 111, 118, 68, 101, 99]⟩) (some (.int .i64 (3 * (m : Int) - 3))) (some (.int .i64 (3 * (m : Int)))) none).run Tryd.prog W = .ok (.string q) W := by
  rcases (show m = 1 ∨ m = 2 ∨ m = 3 ∨ m = 4 ∨ m = 5 ∨ m = 6 ∨ m = 7 ∨ m = 8 ∨ m = 9 ∨ m = 10 ∨ m = 11 ∨ m = 12 by omega) with rfl | rfl | rfl | rfl | rfl | rfl | rfl | rfl | rfl | rfl | rfl | rfl
  · exact ⟨_, by rfl, rfl, fun W => mt0 W⟩
  · exact ⟨_, by rfl, rfl, fun W => mt1 W⟩
  · exact ⟨_, by rfl, rfl, fun W => mt2 W⟩
  · exact ⟨_, by rfl, rfl, fun W => mt3 W⟩
  · exact ⟨_, by rfl, rfl, fun W => mt4 W⟩
  · exact ⟨_, by rfl, rfl, fun W => mt5 W⟩
  · exact ⟨_, by rfl, rfl, fun W => mt6 W⟩
  · exact ⟨_, by rfl, rfl, fun W => mt7 W⟩
  · exact ⟨_, by rfl, rfl, fun W => mt8 W⟩
  · exact ⟨_, by rfl, rfl, fun W => mt9 W⟩
  · exact ⟨_, by rfl, rfl, fun W => mt10 W⟩
  · exact ⟨_, by rfl, rfl, fun W => mt11 W⟩
theorem Lw.drewN {w0 w : World} (h : Lw w0 w) (n : Nat) : Lw w0 (w.drewN n) := ⟨h.un.drewN n, h.pow, h.bel.drewN' n, h.pos⟩
theorem bl_one_sz (c : UInt8) : (⟨#[c]⟩ : ByteArray).size = 1 := rfl
set_option maxRecDepth 100000 in
set_option maxHeartbeats 16000000 in
theorem momentAhead_any (stamp form : Int) (rest : ByteArray) (w : World) (hs0 : -9223372036854775808 ≤ stamp) (hs1 : stamp ≤ 9223372036854775807) (hf0 : -9223372036854775808 ≤ form) (hf1 : form ≤ 9223372036854775807) (hrs : rest.size ≤ 140737488351232) (hu : UnT w) (hp : Pow w) (hm : MnT w) :
    Calls Tryd.prog 3 #[.int .i64 stamp, .int .i64 form, .string rest] w fun e w' => e = .returned (.bool true) ∧ Below w.heap.size w w' := by
  have HK := Hid.mk' (known_any w hu hp)
  have P1 := Hid.mk' (fun w => pick_any stamp 253402300800000 w hs0 hs1 (by decide) (by decide))
  have P2 := Hid.mk' (fun w => pick_any form 6 w hf0 hf1 (by decide) (by decide))
  have HM := Hid.mk' hm
  have hlt := hm.lt
  have HRS := Hid.mk' hrs
  have hrI : (rest.size : Int) ≤ 140737488351232 := by omega
  clear hu hp hm hs0 hs1 hf0 hf1
  go_enter Tryd.func3, Tryd.ntmps3
  go_wp2_with fail
  refine HK.out.mono ?_
  rintro e w1 ⟨rfl, hl⟩
  have H1 := Hid.mk' hl
  clear hl HK
  go_wp2_with fail
  refine (P1.out _).mono ?_
  rintro e w2 ⟨⟨n, hn, rfl⟩, hw⟩
  have hw2 := hw.symm
  subst hw2
  clear hw P1
  go_wp2_with fail
  refine (showT n _ (by omega)).mono ?_
  rintro e w3 ⟨⟨s, S1, rfl⟩, hb⟩
  have H3 := Hid.mk' (H1.out.next hb)
  have HS := Hid.mk' S1
  clear hb H1 S1
  go_wp2_with fail
  refine (date_any n _ (by omega)).mono ?_
  rintro e w4 ⟨⟨y, m, d, hday, rfl⟩, hb⟩
  have H4 := Hid.mk' (H3.out.next hb)
  clear hb H3
  unfold dateV
  obtain ⟨hh, ehh⟩ : ∃ q, n % 86400000 / 3600000 = q := ⟨_, rfl⟩
  obtain ⟨mi, emi⟩ : ∃ q, n % 86400000 % 3600000 / 60000 = q := ⟨_, rfl⟩
  obtain ⟨ss, ess⟩ : ∃ q, n % 86400000 % 60000 / 1000 = q := ⟨_, rfl⟩
  obtain ⟨ms, ems⟩ : ∃ q, n % 86400000 % 1000 = q := ⟨_, rfl⟩
  rw [ehh, emi, ess, ems]
  have hbl : Sums.bl s = Mo.sh y m d hh mi ss ms := by
    obtain ⟨y', m', d', B, eb⟩ := HS.out.ex
    obtain ⟨rfl, rfl, rfl⟩ := hday.same B
    rw [eb, ehh, emi, ess, ems]
  have HV : Hid (n / 86400000 * 86400000 + hh * 3600000 + mi * 60000 + ss * 1000 + ms = n ∧ n / 86400000 * 86400000 + hh * 3600000 + mi * 60000 + ss * 1000 + 0 = n - n % 1000 ∧ hh < 24 ∧ mi < 60 ∧ ss < 60 ∧ ms < 1000) := Hid.mk' (by omega)
  have hsz := HS.out.size
  have hszI : (s.size : Int) = 24 := by omega
  have HBL := Hid.mk' hbl
  have HDAY := Hid.mk' hday
  have mb1 : 1 ≤ m := hday.m0
  have mb2 : m ≤ 12 := hday.m1
  have mi1 : ¬ (m : Int) < 1 := by omega
  have mi2 : ¬ (12 : Int) < (m : Int) := by omega
  have mi3 : decide ((m : Int) < 1) = false := by simp; omega
  have mi4 : decide ((12 : Int) < (m : Int)) = false := by simp; omega
  obtain ⟨q, hq1, hq2, hq3⟩ := mon_cut m mb1 mb2
  have HQ1 := Hid.mk' hq1
  have hq2I : (q.size : Int) = 3 := by omega
  clear ehh emi ess ems hbl hday HS hq1
  have L5 := Hid.mk' (H4.out.next ((Below.refl _ w4).alloc (Nat.le_refl _) (.cells #[.int .i64 (y : Int), .int .i64 (m : Int), .int .i64 (d : Int), .int .i64 (hh : Int), .int .i64 (mi : Int), .int .i64 (ss : Int), .int .i64 (ms : Int)] 28)))
  have c1 : (w4.alloc (.cells #[.int .i64 (y : Int), .int .i64 (m : Int), .int .i64 (d : Int), .int .i64 (hh : Int), .int .i64 (mi : Int), .int .i64 (ss : Int), .int .i64 (ms : Int)] 28)).cell? ⟨w4.heap.size, 1, none⟩ = some (.int .i64 (m : Int)) := box_cell w4 #[.int .i64 (y : Int), .int .i64 (m : Int), .int .i64 (d : Int), .int .i64 (hh : Int), .int .i64 (mi : Int), .int .i64 (ss : Int), .int .i64 (ms : Int)] 28 0 1 _ rfl
  go_wp2_with fail
  generalize (w4.alloc _) = w5 at *
  generalize w4.heap.size = D at *
  clear H4
  refine (P2.out _).mono ?_
  rintro e w6 ⟨⟨f, hf, rfl⟩, hw⟩
  have hw2 := hw.symm
  subst hw2
  clear hw P2
  go_upto_block 0 with fail
  go_cut [13, 14] (fun lv vv wc => ∃ (t : ByteArray) (v : Nat), lv = .string t ∧ vv = .int .i64 (v : Int) ∧ t.size ≤ 100 ∧ v ≤ 253402300799999 ∧ Hid (AhP (Sums.bl t) (v : Int)) ∧ Hid (Lw w wc))
  case first =>
    obtain ⟨v1, v2, a4, a5, a6, a7⟩ := HV.out
    obtain ⟨k, hk⟩ : ∃ k, n % 1000 = k := ⟨_, rfl⟩
    obtain ⟨r, hr⟩ : ∃ r, n - k = r := ⟨_, rfl⟩
    have hkI : (n : Int) % 1000 = (k : Int) := by omega
    have hrI2 : (n : Int) - (k : Int) = (r : Int) := by omega
    have hrb : r ≤ 253402300799999 := by omega
    rw [hk, hr] at v2
    have F0 := Hid.mk' (form0 HDAY.out a4 a5 a6 a7 n v1)
    have F1 := Hid.mk' (form1 HDAY.out a4 a5 a6 r v2)
    have F2 := Hid.mk' (form2 HDAY.out a4 a5 a6 r v2)
    have F3 := Hid.mk' (form3 HDAY.out a4 a5 a6 r v2)
    obtain ⟨s1, s2, s3, s4, s5⟩ := sh_cut y m d hh mi ss ms
    have SC := Hid.mk' (And.intro s1 (And.intro s2 (And.intro s3 (And.intro s4 s5))))
    have HST := Hid.mk' (sh_TT y m d hh mi ss ms)
    have x10 : (s.extract 0 10).size = 10 := by rw [← Sums.bl_length, Sums.bl_take, List.length_take, Sums.bl_length, hsz]; rfl
    have x19 : (s.extract 0 19).size = 19 := by rw [← Sums.bl_length, Sums.bl_take, List.length_take, Sums.bl_length, hsz]; rfl
    have x4 : (s.extract 0 4).size = 4 := by rw [← Sums.bl_length, Sums.bl_take, List.length_take, Sums.bl_length, hsz]; rfl
    have x8 : (s.extract 11 19).size = 8 := by rw [← Sums.bl_length, Sums.bl_extract, List.length_drop, List.length_take, Sums.bl_length, hsz]; rfl
    have x2 : (s.extract 8 10).size = 2 := by rw [← Sums.bl_length, Sums.bl_extract, List.length_drop, List.length_take, Sums.bl_length, hsz]; rfl
    have X10 := Hid.mk' (show Sums.bl (s.extract 0 10) = TT y m d by rw [Sums.bl_take, HBL.out]; exact s1)
    have X19 := Hid.mk' (show Sums.bl (s.extract 0 19) = TT y m d ++ (84 :: CC hh mi ss) by rw [Sums.bl_take, HBL.out]; exact s3)
    have X4 := Hid.mk' (show Sums.bl (s.extract 0 4) = dg 4 y by rw [Sums.bl_take, HBL.out]; exact s5)
    have X8 := Hid.mk' (show Sums.bl (s.extract 11 19) = CC hh mi ss by rw [Sums.bl_extract, HBL.out]; exact s2)
    have X2 := Hid.mk' (show Sums.bl (s.extract 8 10) = dg 2 d by rw [Sums.bl_extract, HBL.out]; exact s4)
    obtain ⟨g, hg⟩ : ∃ g, n / 1000 % 9000000000 + 1000000000 = g := ⟨_, rfl⟩
    obtain ⟨j, hj⟩ : ∃ j, n % 9000000000000 + 1000000000000 = j := ⟨_, rfl⟩
    have hgI : (n : Int) / 1000 % 9000000000 + 1000000000 = (g : Int) := by omega
    have hjI : (n : Int) % 9000000000000 + 1000000000000 = (j : Int) := by omega
    have gb : 1000000000 ≤ g ∧ g < 10000000000 := by omega
    have jb : 1000000000000 ≤ j ∧ j < 10000000000000 := by omega
    have gbI : (g : Int) < 10000000000 := by omega
    have F4 := Hid.mk' (form4 g gb.2)
    have F5 := Hid.mk' (form5 j jb.2)
    have D4 := Hid.mk' (fun w => decimal_any g w (by omega) (by omega))
    have D5 := Hid.mk' (fun w => decimal_any j w (by omega) (by omega))
    have E4 := Hid.mk' (dec_dg 9 g (by omega) (by omega))
    have E5 := Hid.mk' (dec_dg 12 j (by omega) (by omega))
    have GJ := Hid.mk' (And.intro gb jb)
    have HN := Hid.mk' hn
    have hnb : (n : Int) ≤ 253402300799999 := by omega
    clear s1 s2 s3 s4 s5 v1 v2 a4 a5 a6 a7 hk hr hg hj gb jb HV HDAY
    rcases (show f = 0 ∨ f = 1 ∨ f = 2 ∨ f = 3 ∨ f = 4 ∨ f = 5 by omega) with rfl | rfl | rfl | rfl | rfl | rfl
    · clear hf
      go_wp2_with fail
      go_meet
      refine ⟨s, n, rfl, rfl, by omega, by have := HN.out; omega, Hid.mk' ?_, L5⟩
      rw [HBL.out, HST.out]; exact F0.out
    · clear hf
      have HLD : Hid (∀ i, Lw w (w5.drewN i)) := fun i => L5.out.drewN i
      go_wp2_with fail
      go_quiet (fail)
      have L6 := Hid.mk' (HLD.out nq)
      generalize w5.drewN nq = w6 at *
      go_wp2_with fail
      go_meet
      refine ⟨_, r, rfl, by first | rfl | exact int_eq (by omega), ?_, hrb, Hid.mk' ?_, L6⟩
      · rw [ByteArray.size_append, ByteArray.size_append, x10, x8]; decide
      · rw [Sums.bl_append, Sums.bl_append, X10.out, X8.out, List.append_assoc]
        exact F1.out
    · clear hf
      go_wp2_with fail
      go_meet
      refine ⟨_, r, rfl, by first | rfl | exact int_eq (by omega), ?_, hrb, Hid.mk' ?_, L5⟩
      · rw [ByteArray.size_append, x19]; decide
      · rw [Sums.bl_append, X19.out]
        have e := F2.out
        rw [show TT y m d ++ (84 :: (CC hh mi ss ++ [43, 48, 48, 58, 48, 48])) = (TT y m d ++ (84 :: CC hh mi ss)) ++ [43, 48, 48, 58, 48, 48] by simp] at e
        exact e
    · clear hf
      have HLD : Hid (∀ i, Lw w (w5.drewN i)) := fun i => L5.out.drewN i
      go_wp2_with fail
      go_quiet (fail)
      have L6 := Hid.mk' (HLD.out nq)
      generalize w5.drewN nq = w6 at *
      go_wp2_with fail
      go_meet
      refine ⟨_, r, rfl, by first | rfl | exact int_eq (by omega), ?_, hrb, Hid.mk' ?_, L6⟩
      · simp only [ByteArray.size_append, x2, x4, x8, hq2]; decide
      · simp only [Sums.bl_append, X2.out, X4.out, X8.out, HQ1.out]
        have e := F3.out
        have l1 : Sums.bl ⟨#[91]⟩ = [91] := rfl
        have l2 : Sums.bl ⟨#[47]⟩ = [47] := rfl
        have l3 : Sums.bl ⟨#[58]⟩ = [58] := rfl
        have l4 : Sums.bl ⟨#[32, 45, 48, 48, 48, 48, 93]⟩ = [32, 45, 48, 48, 48, 48, 93] := rfl
        rw [l1, l2, l3, l4]
        simpa using e
    · clear hf
      go_wp2_with fail
      refine (D4.out _).mono ?_
      rintro e w7 ⟨⟨t, ht, rfl⟩, hb⟩
      have L7 := Hid.mk' (L5.out.next hb)
      have HT := Hid.mk' ht
      clear hb L5 ht c1
      go_wp2_with fail
      go_meet
      refine ⟨t, 1000 * g, rfl, by first | rfl | exact int_eq (by omega), ?_, by have := GJ.out; omega, Hid.mk' ?_, L7⟩
      · rw [← Sums.bl_length, HT.out, E4.out, dg_len]; decide
      · rw [HT.out, E4.out]; exact F4.out
    · clear hf
      go_wp2_with fail
      refine (D5.out _).mono ?_
      rintro e w7 ⟨⟨t, ht, rfl⟩, hb⟩
      have L7 := Hid.mk' (L5.out.next hb)
      have HT := Hid.mk' ht
      clear hb L5 ht c1
      go_wp2_with fail
      go_meet
      refine ⟨t, j, rfl, rfl, ?_, by have := GJ.out; omega, Hid.mk' ?_, L7⟩
      · rw [← Sums.bl_length, HT.out, E5.out, dg_len]; decide
      · rw [HT.out, E5.out]; exact F5.out
  case rest =>
    rename World => w6
    obtain ⟨t, v, rfl, rfl, ht, hv, hP, L6⟩ := hcut
    obtain ⟨T1, T2, T3⟩ := ah_tail t rest v hP.out ht HRS.out
    have A1 := Hid.mk' T1
    have A2 := Hid.mk' T2
    have A3 := Hid.mk' T3
    have tI : (t.size : Int) ≤ 100 := by omega
    have o1 : (t ++ ⟨#[32]⟩ : ByteArray).size = t.size + 1 := by rw [ByteArray.size_append]; rfl
    have o2 : (t ++ ⟨#[120]⟩ : ByteArray).size = t.size + 1 := by rw [ByteArray.size_append]; rfl
    clear T1 T2 T3 hP c1 HBL HV HDAY HQ1 hq3
    go_wp2_with fail
    refine (A1.out _ (HM.out.below L6.out.bel hlt)).mono ?_
    rintro e w7 ⟨rfl, hb⟩
    have L7 := Hid.mk' (L6.out.next hb)
    clear hb L6 A1
    go_wp2_with fail
    refine (A2.out _ (HM.out.below L7.out.bel hlt)).mono ?_
    rintro e w8 ⟨rfl, hb⟩
    have L8 := Hid.mk' (L7.out.next hb)
    clear hb L7 A2
    go_wp2_with fail
    refine (A3.out _ (HM.out.below L8.out.bel hlt)).mono ?_
    rintro e w9 ⟨rfl, hb⟩
    have L9 := Hid.mk' (L8.out.next hb)
    clear hb L8 A3
    go_wp2_with fail
    go_ret
    exact ⟨rfl, L9.out.bel⟩
end Go.Proofs.YthmpokndffbkdabDoor
