/-
  fields.Show and Is; the chapter's examples. Conditions: as each says.
-/
import Derived.Test.YtkplbggefiemdaaGreatDoorFmT
import Derived.Laws.StructEq
namespace Go.Proofs.YtkplbggefiemdaaGreatDoor
open Go.RowKit
set_option linter.unusedVariables false
set_option linter.unusedSimpArgs false
def trR (c : Nat) (l : List Nat) : List Nat := (l.reverse.dropWhile (· == c)).reverse
/-- thousandths behind the dot, with the dot -/
def shP (m : Nat) : List Nat := if trR 48 ((dec (1000 + m % 1000)).drop 1) = [] then [] else 46 :: trR 48 ((dec (1000 + m % 1000)).drop 1)
def shU (m : Nat) : List Nat := dec (m / 1000) ++ shP m
/-- what Show writes -/
def shF (n : Int) : List Nat := if n < -999999999999 then [] else if 999999999999 < n then [] else if n < 0 then 45 :: shU n.natAbs else shU n.natAbs
theorem tr_drop (c : UInt8) : ∀ l : List UInt8, (l.dropWhile (· == c)).map UInt8.toNat = (l.map UInt8.toNat).dropWhile (· == c.toNat)
  | [] => rfl
  | x :: l => by
    rw [List.map_cons, List.dropWhile_cons, List.dropWhile_cons]
    have e : (x == c) = (x.toNat == c.toNat) := by
      rw [Bool.eq_iff_iff]
      simp only [beq_iff_eq]
      exact ⟨fun h => by rw [h], fun h => UInt8.toNat_inj.1 h⟩
    rw [e]
    split
    · exact tr_drop c l
    · rfl
theorem tr_len (c : Nat) (l : List Nat) : (trR c l).length ≤ l.length := by
  unfold trR
  rw [List.length_reverse]
  exact Nat.le_trans (List.Sublist.length_le (List.dropWhile_sublist _)) (by rw [List.length_reverse]; exact Nat.le_refl _)
theorem trimNought (s : ByteArray) (w : World) (hs : s.size ≤ 9223372036854775807) : Calls Tryz.prog 47 #[.string s, .string ⟨#[48]⟩] w fun e w' => (∃ t, Sums.bl t = trR 48 (Sums.bl s) ∧ e = .returned (.string t)) ∧ w' = w := by
  refine Calls.mono (Any.strings_TrimRight_one YtkplbggefiemdaaGreatDoor.lays162 s 48 (by decide) w hs) ?_
  rintro e w' ⟨rfl, hw⟩
  refine ⟨⟨_, ?_, rfl⟩, hw⟩
  show List.map UInt8.toNat ((Lib.trimRightB s.data.toList 48).toArray).toList = _
  rw [List.toList_toArray]
  unfold Lib.trimRightB trR Sums.bl
  rw [List.map_reverse, tr_drop, List.map_reverse]
  rfl
set_option maxRecDepth 100000 in
set_option maxHeartbeats 8000000 in
theorem show_fl (n : Int) (w : World) (h0 : -9223372036854775808 ≤ n) (h1 : n ≤ 9223372036854775807) (hp : Pow w) : Calls Tryz.prog 21 #[.int .i64 n] w fun e w' => (∃ R, Sums.bl R = shF n ∧ e = .returned (.string R)) ∧ Below w.heap.size w w' := by
  unfold shF
  by_cases ha : n < -999999999999
  · rw [if_pos ha]
    have t1 : decide (n < -999999999999) = true := decide_eq_true ha
    clear hp
    go_enter Tryz.func21, Tryz.ntmps21
    go_wp2_with fail
    go_ret
    exact ⟨⟨_, rfl, rfl⟩, Below.refl _ _⟩
  · rw [if_neg ha]
    have t1 : decide (n < -999999999999) = false := decide_eq_false ha
    by_cases hb : 999999999999 < n
    · rw [if_pos hb]
      have t2 : decide (999999999999 < n) = true := decide_eq_true hb
      clear hp
      go_enter Tryz.func21, Tryz.ntmps21
      go_wp2_with fail
      go_ret
      exact ⟨⟨_, rfl, rfl⟩, Below.refl _ _⟩
    · rw [if_neg hb]
      have t2 : decide (999999999999 < n) = false := decide_eq_false hb
      have HP := Hid.mk' hp
      clear hp
      by_cases hc : n < 0
      · rw [if_pos hc]
        have t3 : decide (n < 0) = true := decide_eq_true hc
        obtain ⟨m, hm⟩ : ∃ m, n.natAbs = m := ⟨_, rfl⟩
        rw [hm]
        have hn : n = -(m : Int) := by omega
        have hmb : m ≤ 999999999999 := by omega
        have hm0 : 0 < m := by omega
        subst hn
        clear hm h0 h1 ha hb hc t1 t2 t3
        have t1 : decide (-(m : Int) < -999999999999) = false := decide_eq_false (by omega)
        have t2 : decide (999999999999 < -(m : Int)) = false := decide_eq_false (by omega)
        have t3 : decide (-(m : Int) < 0) = true := decide_eq_true (by omega)
        have t4 : - -(m : Int) = (m : Int) := by omega
        have t5 : IntKind.i64.wrap (m : Int) = (m : Int) := by rw [IntKind.wrap_i64]; omega
        obtain ⟨u, hu⟩ : ∃ u, 1000 + m % 1000 = u := ⟨_, rfl⟩
        have huI : (1000 : Int) + ((m : Int) % 1000) = (u : Int) := by omega
        obtain ⟨x, hx⟩ : ∃ x, m / 1000 = x := ⟨_, rfl⟩
        have hxI : ((m : Int) / 1000) = (x : Int) := by omega
        have hub : u ≤ 1999 ∧ 1 ≤ u := by omega
        have hxb : x ≤ 999999999 := by omega
        have HU := Hid.mk' (fun X => itoa_any u X (by omega))
        have HX := Hid.mk' (fun X => itoa_any x X (by omega))
        have HR : Hid (shU m = dec x ++ (if trR 48 ((dec u).drop 1) = [] then [] else 46 :: trR 48 ((dec u).drop 1))) := Hid.mk' (by unfold shU shP; rw [hu, hx])
        have hwu : IntKind.i64.wrap (u : Int) = (u : Int) := by rw [IntKind.wrap_i64]; omega
        have hm1 : (m : Int).tmod 1000 = (m : Int) % 1000 := Int.tmod_eq_emod_of_nonneg (by omega)
        have hm2 : (m : Int).tdiv 1000 = (m : Int) / 1000 := Int.tdiv_eq_ediv_of_nonneg (by omega)
        clear hu hx
        go_enter Tryz.func21, Tryz.ntmps21
        go_wp2_with fail
        refine (HU.out _ HP.out).mono ?_
        rintro e w1 ⟨⟨T, hT, rfl⟩, hb1⟩
        have HB1 := Hid.mk' hb1
        have hTs : T.size = (dec u).length := by rw [← hT, Sums.bl_length]
        have hT1 : 1 ≤ T.size := by
          obtain ⟨a, r, h, _⟩ := dec_head (u + 1) u (by omega) hub.2
          rw [hTs, h]
          simp
        have hT2 : T.size ≤ 15 := by rw [hTs]; exact dec_short u (by omega)
        have hT1I : (1 : Int) ≤ (T.size : Int) := by omega
        have hsl : ∀ W, (Instr.slice 9 (.string T) (some (.int .i64 1)) none none).run Tryz.prog W = .ok (.string (T.extract 1 T.size)) W := fun W => sl_on T 1 W hT1
        have hbE : Sums.bl (T.extract 1 T.size) = (dec u).drop 1 := by rw [Sums.bl_drop, hT]
        generalize T.extract 1 T.size = T1 at hsl hbE
        have hT1s : T1.size ≤ 15 := by rw [← Sums.bl_length, hbE, List.length_drop]; omega
        have HT1 := Hid.mk' hbE
        have HTR := Hid.mk' (fun X => trimNought T1 X (by omega))
        rw [hbE] at HTR
        clear hb1 hT hbE
        go_wp2_with fail
        refine (HTR.out _).mono ?_
        rintro e w2 ⟨⟨P, hP, rfl⟩, hw2⟩
        have hw3 := hw2.symm
        subst hw3
        have hPs : P.size ≤ 15 := by
          have h2 := tr_len 48 ((dec u).drop 1)
          rw [← hP, Sums.bl_length, List.length_drop] at h2
          omega
        have HPP := Hid.mk' hP
        have HPW : Hid (Pow w1) := Hid.mk' (HP.out.below HB1.out HP.out.size)
        clear hw2 HTR hP
        by_cases hz : P.size = 0
        · have hPe : P = ByteArray.empty := Sums.bl_inj ((List.eq_nil_of_length_eq_zero (by rw [Sums.bl_length]; exact hz)).trans rfl)
          subst hPe
          have HE : Hid (trR 48 ((dec u).drop 1) = []) := Hid.mk' HPP.out.symm
          clear hz HPP hPs
          go_wp2_with fail
          refine (HX.out _ HPW.out).mono ?_
          rintro e w3 ⟨⟨T3, hT3, rfl⟩, hb3⟩
          have hT3s : T3.size ≤ 15 := by rw [← Sums.bl_length, hT3]; exact dec_short x (by omega)
          have HT3 := Hid.mk' hT3
          have HB3 : Hid (Below w.heap.size w w3) := Hid.mk' (HB1.out.trans ⟨hb3.os, hb3.tape, hb3.output, hb3.size, fun j hj => hb3.block j (by have := HB1.out.size; omega)⟩)
          clear hT3 hb3
          go_wp2_with fail
          go_ret
          refine ⟨⟨_, ?_, rfl⟩, HB3.out⟩
          rw [HR.out, if_pos HE.out]
          simp only [Sums.bl_append, HT3.out, List.append_nil]
          rfl
        · have hti : P.toList.isEmpty = false := by
            rw [ByteArray.toList_eq]
            cases hd : P.data.toList with
            | nil =>
              have : P.size = 0 := by
                show P.data.size = 0
                rw [← Array.length_toList, hd]
                rfl
              omega
            | cons a b => rfl
          have htn : ¬ P.toList = [] := fun e => by rw [e] at hti; cases hti
          have HE : Hid (¬ trR 48 ((dec u).drop 1) = []) := Hid.mk' (fun e => hz (by rw [← Sums.bl_length, HPP.out, e]; rfl))
          clear hz
          go_wp2_with fail
          refine (HX.out _ HPW.out).mono ?_
          rintro e w3 ⟨⟨T3, hT3, rfl⟩, hb3⟩
          have hT3s : T3.size ≤ 15 := by rw [← Sums.bl_length, hT3]; exact dec_short x (by omega)
          have HT3 := Hid.mk' hT3
          have HB3 : Hid (Below w.heap.size w w3) := Hid.mk' (HB1.out.trans ⟨hb3.os, hb3.tape, hb3.output, hb3.size, fun j hj => hb3.block j (by have := HB1.out.size; omega)⟩)
          clear hT3 hb3
          go_wp2_with fail
          go_ret
          refine ⟨⟨_, ?_, rfl⟩, HB3.out⟩
          rw [HR.out, if_neg HE.out]
          simp only [Sums.bl_append, HT3.out, HPP.out]
          rfl
      · rw [if_neg hc]
        have t3 : decide (n < 0) = false := decide_eq_false hc
        obtain ⟨m, hm⟩ : ∃ m, n.natAbs = m := ⟨_, rfl⟩
        rw [hm]
        have hn : n = (m : Int) := by omega
        have hmb : m ≤ 999999999999 := by omega
        subst hn
        clear hm h0 h1 ha hb hc t1 t2 t3
        have t1 : decide ((m : Int) < -999999999999) = false := decide_eq_false (by omega)
        have t2 : decide (999999999999 < (m : Int)) = false := decide_eq_false (by omega)
        have t3 : decide ((m : Int) < 0) = false := decide_eq_false (by omega)
        obtain ⟨u, hu⟩ : ∃ u, 1000 + m % 1000 = u := ⟨_, rfl⟩
        have huI : (1000 : Int) + ((m : Int) % 1000) = (u : Int) := by omega
        obtain ⟨x, hx⟩ : ∃ x, m / 1000 = x := ⟨_, rfl⟩
        have hxI : ((m : Int) / 1000) = (x : Int) := by omega
        have hub : u ≤ 1999 ∧ 1 ≤ u := by omega
        have hxb : x ≤ 999999999 := by omega
        have HU := Hid.mk' (fun X => itoa_any u X (by omega))
        have HX := Hid.mk' (fun X => itoa_any x X (by omega))
        have HR : Hid (shU m = dec x ++ (if trR 48 ((dec u).drop 1) = [] then [] else 46 :: trR 48 ((dec u).drop 1))) := Hid.mk' (by unfold shU shP; rw [hu, hx])
        have hwu : IntKind.i64.wrap (u : Int) = (u : Int) := by rw [IntKind.wrap_i64]; omega
        have hm1 : (m : Int).tmod 1000 = (m : Int) % 1000 := Int.tmod_eq_emod_of_nonneg (by omega)
        have hm2 : (m : Int).tdiv 1000 = (m : Int) / 1000 := Int.tdiv_eq_ediv_of_nonneg (by omega)
        clear hu hx
        go_enter Tryz.func21, Tryz.ntmps21
        go_wp2_with fail
        refine (HU.out _ HP.out).mono ?_
        rintro e w1 ⟨⟨T, hT, rfl⟩, hb1⟩
        have HB1 := Hid.mk' hb1
        have hTs : T.size = (dec u).length := by rw [← hT, Sums.bl_length]
        have hT1 : 1 ≤ T.size := by
          obtain ⟨a, r, h, _⟩ := dec_head (u + 1) u (by omega) hub.2
          rw [hTs, h]
          simp
        have hT2 : T.size ≤ 15 := by rw [hTs]; exact dec_short u (by omega)
        have hT1I : (1 : Int) ≤ (T.size : Int) := by omega
        have hsl : ∀ W, (Instr.slice 9 (.string T) (some (.int .i64 1)) none none).run Tryz.prog W = .ok (.string (T.extract 1 T.size)) W := fun W => sl_on T 1 W hT1
        have hbE : Sums.bl (T.extract 1 T.size) = (dec u).drop 1 := by rw [Sums.bl_drop, hT]
        generalize T.extract 1 T.size = T1 at hsl hbE
        have hT1s : T1.size ≤ 15 := by rw [← Sums.bl_length, hbE, List.length_drop]; omega
        have HT1 := Hid.mk' hbE
        have HTR := Hid.mk' (fun X => trimNought T1 X (by omega))
        rw [hbE] at HTR
        clear hb1 hT hbE
        go_wp2_with fail
        refine (HTR.out _).mono ?_
        rintro e w2 ⟨⟨P, hP, rfl⟩, hw2⟩
        have hw3 := hw2.symm
        subst hw3
        have hPs : P.size ≤ 15 := by
          have h2 := tr_len 48 ((dec u).drop 1)
          rw [← hP, Sums.bl_length, List.length_drop] at h2
          omega
        have HPP := Hid.mk' hP
        have HPW : Hid (Pow w1) := Hid.mk' (HP.out.below HB1.out HP.out.size)
        clear hw2 HTR hP
        by_cases hz : P.size = 0
        · have hPe : P = ByteArray.empty := Sums.bl_inj ((List.eq_nil_of_length_eq_zero (by rw [Sums.bl_length]; exact hz)).trans rfl)
          subst hPe
          have HE : Hid (trR 48 ((dec u).drop 1) = []) := Hid.mk' HPP.out.symm
          clear hz HPP hPs
          go_wp2_with fail
          refine (HX.out _ HPW.out).mono ?_
          rintro e w3 ⟨⟨T3, hT3, rfl⟩, hb3⟩
          have hT3s : T3.size ≤ 15 := by rw [← Sums.bl_length, hT3]; exact dec_short x (by omega)
          have HT3 := Hid.mk' hT3
          have HB3 : Hid (Below w.heap.size w w3) := Hid.mk' (HB1.out.trans ⟨hb3.os, hb3.tape, hb3.output, hb3.size, fun j hj => hb3.block j (by have := HB1.out.size; omega)⟩)
          clear hT3 hb3
          go_wp2_with fail
          go_ret
          refine ⟨⟨_, ?_, rfl⟩, HB3.out⟩
          rw [HR.out, if_pos HE.out]
          simp only [Sums.bl_append, HT3.out, List.append_nil]
          rfl
        · have hti : P.toList.isEmpty = false := by
            rw [ByteArray.toList_eq]
            cases hd : P.data.toList with
            | nil =>
              have : P.size = 0 := by
                show P.data.size = 0
                rw [← Array.length_toList, hd]
                rfl
              omega
            | cons a b => rfl
          have htn : ¬ P.toList = [] := fun e => by rw [e] at hti; cases hti
          have HE : Hid (¬ trR 48 ((dec u).drop 1) = []) := Hid.mk' (fun e => hz (by rw [← Sums.bl_length, HPP.out, e]; rfl))
          clear hz
          go_wp2_with fail
          refine (HX.out _ HPW.out).mono ?_
          rintro e w3 ⟨⟨T3, hT3, rfl⟩, hb3⟩
          have hT3s : T3.size ≤ 15 := by rw [← Sums.bl_length, hT3]; exact dec_short x (by omega)
          have HT3 := Hid.mk' hT3
          have HB3 : Hid (Below w.heap.size w w3) := Hid.mk' (HB1.out.trans ⟨hb3.os, hb3.tape, hb3.output, hb3.size, fun j hj => hb3.block j (by have := HB1.out.size; omega)⟩)
          clear hT3 hb3
          go_wp2_with fail
          go_ret
          refine ⟨⟨_, ?_, rfl⟩, HB3.out⟩
          rw [HR.out, if_neg HE.out]
          simp only [Sums.bl_append, HT3.out, HPP.out]
          rfl
end Go.Proofs.YtkplbggefiemdaaGreatDoor

namespace Go.Proofs.YtkplbggefiemdaaGreatDoor
open Go.RowKit
set_option linter.unusedVariables false
set_option linter.unusedSimpArgs false
/-- how an op is told by what compare tells -/
def isC (op : Nat) (c : Int) : Bool := if op = 1 then decide (c = 0) else if op = 2 then !decide (c = 0) else if op = 3 then decide (c < 0) else if op = 4 then decide (c ≤ 0) else if op = 5 then decide (0 < c) else decide (0 ≤ c)
theorem cm_three (s t : List Nat) : cmF s t = -1 ∨ cmF s t = 0 ∨ cmF s t = 1 := by
  unfold cmF cmI cmS
  split
  · split
    · exact .inl rfl
    · split
      · exact .inr (.inr rfl)
      · exact .inr (.inl rfl)
  · split
    · exact .inl rfl
    · split
      · exact .inr (.inr rfl)
      · exact .inr (.inl rfl)
set_option maxRecDepth 100000 in
set_option maxHeartbeats 8000000 in
theorem is_1 (S T : ByteArray) (w : World) (hS : S.size ≤ 281474976710656) (hT : T.size ≤ 281474976710656) : Calls Tryz.prog 22 #[.string S, .int .i64 1, .string T] w fun e w' => e = .returned (.bool (isC 1 (cmF (Sums.bl S) (Sums.bl T)))) ∧ Below w.heap.size w w' := by
  have HC := Hid.mk' (compare_fl S T w hS hT)
  have h3 := cm_three (Sums.bl S) (Sums.bl T)
  generalize cmF (Sums.bl S) (Sums.bl T) = c at HC h3 ⊢
  clear hS hT
  rcases h3 with rfl | rfl | rfl
  · go_enter Tryz.func22, Tryz.ntmps22
    go_wp2_with fail
    refine HC.out.mono ?_
    rintro e w1 ⟨rfl, hb⟩
    have HB := Hid.mk' hb
    clear hb
    go_wp2_with fail
    go_ret
    exact ⟨rfl, HB.out⟩
  · go_enter Tryz.func22, Tryz.ntmps22
    go_wp2_with fail
    refine HC.out.mono ?_
    rintro e w1 ⟨rfl, hb⟩
    have HB := Hid.mk' hb
    clear hb
    go_wp2_with fail
    go_ret
    exact ⟨rfl, HB.out⟩
  · go_enter Tryz.func22, Tryz.ntmps22
    go_wp2_with fail
    refine HC.out.mono ?_
    rintro e w1 ⟨rfl, hb⟩
    have HB := Hid.mk' hb
    clear hb
    go_wp2_with fail
    go_ret
    exact ⟨rfl, HB.out⟩
set_option maxRecDepth 100000 in
set_option maxHeartbeats 8000000 in
theorem is_2 (S T : ByteArray) (w : World) (hS : S.size ≤ 281474976710656) (hT : T.size ≤ 281474976710656) : Calls Tryz.prog 22 #[.string S, .int .i64 2, .string T] w fun e w' => e = .returned (.bool (isC 2 (cmF (Sums.bl S) (Sums.bl T)))) ∧ Below w.heap.size w w' := by
  have HC := Hid.mk' (compare_fl S T w hS hT)
  have h3 := cm_three (Sums.bl S) (Sums.bl T)
  generalize cmF (Sums.bl S) (Sums.bl T) = c at HC h3 ⊢
  clear hS hT
  rcases h3 with rfl | rfl | rfl
  · go_enter Tryz.func22, Tryz.ntmps22
    go_wp2_with fail
    refine HC.out.mono ?_
    rintro e w1 ⟨rfl, hb⟩
    have HB := Hid.mk' hb
    clear hb
    go_wp2_with fail
    go_ret
    exact ⟨rfl, HB.out⟩
  · go_enter Tryz.func22, Tryz.ntmps22
    go_wp2_with fail
    refine HC.out.mono ?_
    rintro e w1 ⟨rfl, hb⟩
    have HB := Hid.mk' hb
    clear hb
    go_wp2_with fail
    go_ret
    exact ⟨rfl, HB.out⟩
  · go_enter Tryz.func22, Tryz.ntmps22
    go_wp2_with fail
    refine HC.out.mono ?_
    rintro e w1 ⟨rfl, hb⟩
    have HB := Hid.mk' hb
    clear hb
    go_wp2_with fail
    go_ret
    exact ⟨rfl, HB.out⟩
set_option maxRecDepth 100000 in
set_option maxHeartbeats 8000000 in
theorem is_3 (S T : ByteArray) (w : World) (hS : S.size ≤ 281474976710656) (hT : T.size ≤ 281474976710656) : Calls Tryz.prog 22 #[.string S, .int .i64 3, .string T] w fun e w' => e = .returned (.bool (isC 3 (cmF (Sums.bl S) (Sums.bl T)))) ∧ Below w.heap.size w w' := by
  have HC := Hid.mk' (compare_fl S T w hS hT)
  have h3 := cm_three (Sums.bl S) (Sums.bl T)
  generalize cmF (Sums.bl S) (Sums.bl T) = c at HC h3 ⊢
  clear hS hT
  rcases h3 with rfl | rfl | rfl
  · go_enter Tryz.func22, Tryz.ntmps22
    go_wp2_with fail
    refine HC.out.mono ?_
    rintro e w1 ⟨rfl, hb⟩
    have HB := Hid.mk' hb
    clear hb
    go_wp2_with fail
    go_ret
    exact ⟨rfl, HB.out⟩
  · go_enter Tryz.func22, Tryz.ntmps22
    go_wp2_with fail
    refine HC.out.mono ?_
    rintro e w1 ⟨rfl, hb⟩
    have HB := Hid.mk' hb
    clear hb
    go_wp2_with fail
    go_ret
    exact ⟨rfl, HB.out⟩
  · go_enter Tryz.func22, Tryz.ntmps22
    go_wp2_with fail
    refine HC.out.mono ?_
    rintro e w1 ⟨rfl, hb⟩
    have HB := Hid.mk' hb
    clear hb
    go_wp2_with fail
    go_ret
    exact ⟨rfl, HB.out⟩
set_option maxRecDepth 100000 in
set_option maxHeartbeats 8000000 in
theorem is_4 (S T : ByteArray) (w : World) (hS : S.size ≤ 281474976710656) (hT : T.size ≤ 281474976710656) : Calls Tryz.prog 22 #[.string S, .int .i64 4, .string T] w fun e w' => e = .returned (.bool (isC 4 (cmF (Sums.bl S) (Sums.bl T)))) ∧ Below w.heap.size w w' := by
  have HC := Hid.mk' (compare_fl S T w hS hT)
  have h3 := cm_three (Sums.bl S) (Sums.bl T)
  generalize cmF (Sums.bl S) (Sums.bl T) = c at HC h3 ⊢
  clear hS hT
  rcases h3 with rfl | rfl | rfl
  · go_enter Tryz.func22, Tryz.ntmps22
    go_wp2_with fail
    refine HC.out.mono ?_
    rintro e w1 ⟨rfl, hb⟩
    have HB := Hid.mk' hb
    clear hb
    go_wp2_with fail
    go_ret
    exact ⟨rfl, HB.out⟩
  · go_enter Tryz.func22, Tryz.ntmps22
    go_wp2_with fail
    refine HC.out.mono ?_
    rintro e w1 ⟨rfl, hb⟩
    have HB := Hid.mk' hb
    clear hb
    go_wp2_with fail
    go_ret
    exact ⟨rfl, HB.out⟩
  · go_enter Tryz.func22, Tryz.ntmps22
    go_wp2_with fail
    refine HC.out.mono ?_
    rintro e w1 ⟨rfl, hb⟩
    have HB := Hid.mk' hb
    clear hb
    go_wp2_with fail
    go_ret
    exact ⟨rfl, HB.out⟩
set_option maxRecDepth 100000 in
set_option maxHeartbeats 8000000 in
theorem is_5 (S T : ByteArray) (w : World) (hS : S.size ≤ 281474976710656) (hT : T.size ≤ 281474976710656) : Calls Tryz.prog 22 #[.string S, .int .i64 5, .string T] w fun e w' => e = .returned (.bool (isC 5 (cmF (Sums.bl S) (Sums.bl T)))) ∧ Below w.heap.size w w' := by
  have HC := Hid.mk' (compare_fl S T w hS hT)
  have h3 := cm_three (Sums.bl S) (Sums.bl T)
  generalize cmF (Sums.bl S) (Sums.bl T) = c at HC h3 ⊢
  clear hS hT
  rcases h3 with rfl | rfl | rfl
  · go_enter Tryz.func22, Tryz.ntmps22
    go_wp2_with fail
    refine HC.out.mono ?_
    rintro e w1 ⟨rfl, hb⟩
    have HB := Hid.mk' hb
    clear hb
    go_wp2_with fail
    go_ret
    exact ⟨rfl, HB.out⟩
  · go_enter Tryz.func22, Tryz.ntmps22
    go_wp2_with fail
    refine HC.out.mono ?_
    rintro e w1 ⟨rfl, hb⟩
    have HB := Hid.mk' hb
    clear hb
    go_wp2_with fail
    go_ret
    exact ⟨rfl, HB.out⟩
  · go_enter Tryz.func22, Tryz.ntmps22
    go_wp2_with fail
    refine HC.out.mono ?_
    rintro e w1 ⟨rfl, hb⟩
    have HB := Hid.mk' hb
    clear hb
    go_wp2_with fail
    go_ret
    exact ⟨rfl, HB.out⟩
set_option maxRecDepth 100000 in
set_option maxHeartbeats 8000000 in
theorem is_6 (S T : ByteArray) (w : World) (hS : S.size ≤ 281474976710656) (hT : T.size ≤ 281474976710656) : Calls Tryz.prog 22 #[.string S, .int .i64 6, .string T] w fun e w' => e = .returned (.bool (isC 6 (cmF (Sums.bl S) (Sums.bl T)))) ∧ Below w.heap.size w w' := by
  have HC := Hid.mk' (compare_fl S T w hS hT)
  have h3 := cm_three (Sums.bl S) (Sums.bl T)
  generalize cmF (Sums.bl S) (Sums.bl T) = c at HC h3 ⊢
  clear hS hT
  rcases h3 with rfl | rfl | rfl
  · go_enter Tryz.func22, Tryz.ntmps22
    go_wp2_with fail
    refine HC.out.mono ?_
    rintro e w1 ⟨rfl, hb⟩
    have HB := Hid.mk' hb
    clear hb
    go_wp2_with fail
    go_ret
    exact ⟨rfl, HB.out⟩
  · go_enter Tryz.func22, Tryz.ntmps22
    go_wp2_with fail
    refine HC.out.mono ?_
    rintro e w1 ⟨rfl, hb⟩
    have HB := Hid.mk' hb
    clear hb
    go_wp2_with fail
    go_ret
    exact ⟨rfl, HB.out⟩
  · go_enter Tryz.func22, Tryz.ntmps22
    go_wp2_with fail
    refine HC.out.mono ?_
    rintro e w1 ⟨rfl, hb⟩
    have HB := Hid.mk' hb
    clear hb
    go_wp2_with fail
    go_ret
    exact ⟨rfl, HB.out⟩
set_option maxRecDepth 100000 in
set_option maxHeartbeats 8000000 in
theorem is_other (S T : ByteArray) (op : Int) (w : World) (h : op < 1 ∨ 7 < op) (h0 : -9223372036854775808 ≤ op) (h1 : op ≤ 9223372036854775807) : Calls Tryz.prog 22 #[.string S, .int .i64 op, .string T] w fun e w' => e = .returned (.bool false) ∧ w' = w := by
  have e1 : (op == 1) = false := beq_eq_false_iff_ne.2 (by omega)
  have n1 : ¬ op = 1 := by omega
  have e2 : (op == 2) = false := beq_eq_false_iff_ne.2 (by omega)
  have n2 : ¬ op = 2 := by omega
  have e3 : (op == 3) = false := beq_eq_false_iff_ne.2 (by omega)
  have n3 : ¬ op = 3 := by omega
  have e4 : (op == 4) = false := beq_eq_false_iff_ne.2 (by omega)
  have n4 : ¬ op = 4 := by omega
  have e5 : (op == 5) = false := beq_eq_false_iff_ne.2 (by omega)
  have n5 : ¬ op = 5 := by omega
  have e6 : (op == 6) = false := beq_eq_false_iff_ne.2 (by omega)
  have n6 : ¬ op = 6 := by omega
  have e7 : (op == 7) = false := beq_eq_false_iff_ne.2 (by omega)
  have n7 : ¬ op = 7 := by omega
  clear h h0 h1
  go_enter Tryz.func22, Tryz.ntmps22
  go_wp2_with fail
  go_ret
  exact ⟨rfl, rfl⟩
end Go.Proofs.YtkplbggefiemdaaGreatDoor

namespace Go.Proofs.YtkplbggefiemdaaGreatDoor
open Go.RowKit
set_option linter.unusedVariables false
set_option linter.unusedSimpArgs false
theorem neq_pair (a b c d : ByteArray) (w : World) : (binOp .neq 29 (.agg #[.string a, .string b]) (.agg #[.string c, .string d])).run Tryz.prog w = .ok (.bool (!(a.toList == c.toList && b.toList == d.toList))) w := by
  have hi := Tryz.underlying9
  have hu := Tryz.underlying29
  have hst : Tryz.prog.underlying 29 = some (.struct (Tryz.prog.fieldsOf 29)) := by kernel_rfl
  obtain ⟨i, q1, q2, q3, q4⟩ := info_parts (show (Tryz.prog.info? 9).map (fun i => (i.zero, i.size, i.bytes)) = some (some (.string ⟨#[]⟩), 1, 16) by kernel_rfl)
  rw [run_neq_struct, run_equalIn_struct w 9999 29 _ _ hst (by kernel_rfl)]
  have hfo := TypeDesc.struct.inj (Option.some.inj (hst.symm.trans hu))
  rw [hfo]
  simp [Op.eqFields, part, run_underlying hi, typeInfo, sizeOf, q1, q2, q3, go_sem, run_equalIn_string _ 9998 9 _ _ hi]
  by_cases e0 : a.toList = c.toList <;> by_cases e1 : b.toList = d.toList <;> simp [e0, e1]
/-- a list of pairs in memory -/
def PrAt (X : World) (v : Value) (L : List (List Nat × List Nat)) : Prop := ∃ p c, v = .slice p L.length c ∧ ∀ i x, L[i]? = some x → ∃ g off, p = some ⟨g, off, none⟩ ∧ g < X.heap.size ∧ X.cell? ⟨g, off + i * 2, none⟩ = some (.string (nums x.1)) ∧ X.cell? ⟨g, off + i * 2 + 1, none⟩ = some (.string (nums x.2))
def OkB (L : List (List Nat × List Nat)) : Prop := ∀ x ∈ L, (∀ z ∈ x.1, z < 256) ∧ ∀ z ∈ x.2, z < 256
theorem PrAt.below {X Y : World} {v : Value} {L : List (List Nat × List Nat)} (h : PrAt X v L) (hb : Below X.heap.size X Y) : PrAt Y v L := by
  obtain ⟨p, c, h1, h2⟩ := h
  refine ⟨p, c, h1, fun i x hx => ?_⟩
  obtain ⟨g, off, q1, q2, q3, q4⟩ := h2 i x hx
  exact ⟨g, off, q1, Nat.lt_of_lt_of_le q2 hb.size, (hb.cell (p := ⟨g, off + i * 2, none⟩) q2).trans q3, (hb.cell (p := ⟨g, off + i * 2 + 1, none⟩) q2).trans q4⟩
theorem prV_len : ∀ l : List (List Nat × List Nat), (prV l).length = l.length * 2
  | [] => rfl
  | x :: l => by
    have h := prV_len l
    have e : prV (x :: l) = [.string (nums x.1), .string (nums x.2)] ++ prV l := rfl
    rw [e, List.length_append, h, List.length_cons]
    simp
    omega
theorem prV_get : ∀ (l : List (List Nat × List Nat)) (i : Nat) (x : List Nat × List Nat), l[i]? = some x → (prV l)[i * 2]? = some (.string (nums x.1)) ∧ (prV l)[i * 2 + 1]? = some (.string (nums x.2))
  | [], i, x, h => by simp at h
  | y :: l, 0, x, h => by
    simp at h
    subst h
    exact ⟨rfl, rfl⟩
  | y :: l, i + 1, x, h => by
    have h2 := prV_get l i x (by simpa using h)
    have e : prV (y :: l) = .string (nums y.1) :: .string (nums y.2) :: prV l := rfl
    rw [e, show (i + 1) * 2 = i * 2 + 1 + 1 by omega]
    simpa using h2
theorem own_pr {w : World} {B : Nat} {v : Value} {L : List (List Nat × List Nat)} (h : w.ownsRow B 29 2 v L.length (prV L)) : PrAt w v L := by
  rcases h.2 with ⟨hv, h0⟩ | ⟨g, cap, cur, hv, h1, h2, h3, h4, h5, h6⟩
  · have hL : L = [] := List.eq_nil_of_length_eq_zero h0
    subst hL
    exact ⟨none, 0, hv, fun i x hx => by simp at hx⟩
  · refine ⟨some ⟨g, 0, none⟩, cap, hv, fun i x hx => ⟨g, 0, rfl, (Array.getElem?_eq_some_iff.1 h2).1, ?_, ?_⟩⟩
    · have hi := (List.getElem?_eq_some_iff.1 hx).1
      have hg := (prV_get L i x hx).1
      rw [← h6, List.getElem?_take, if_pos (by omega)] at hg
      rw [Nat.zero_add]
      simp only [World.cell?, h2]
      simpa using hg
    · have hi := (List.getElem?_eq_some_iff.1 hx).1
      have hg := (prV_get L i x hx).2
      rw [← h6, List.getElem?_take, if_pos (by omega)] at hg
      rw [Nat.zero_add]
      simp only [World.cell?, h2]
      simpa using hg
set_option maxRecDepth 100000 in
set_option maxHeartbeats 8000000 in
theorem same_fl (a b : Value) (L M : List (List Nat × List Nat)) (w : World) (ha : PrAt w a L) (hb : PrAt w b M) (hl : L.length ≤ 1099511627776) (hm : M.length ≤ 1099511627776) (hL : OkB L) (hM : OkB M) : Calls Tryz.prog 9 #[a, b] w fun e w' => e = .returned (.bool (decide (L = M))) ∧ ∃ n, w' = w.drewN n := by
  obtain ⟨pa, ca, rfl, h1⟩ := ha
  obtain ⟨pb, cb, rfl, h2⟩ := hb
  by_cases hlen : L.length = M.length
  · obtain ⟨m, hm0⟩ : ∃ m, L.length = m := ⟨_, rfl⟩
    have hm2 : M.length = m := by omega
    rw [hm0, hm2]
    have hmI : (m : Int) ≤ 1099511627776 := by omega
    have hbm : m ≤ 1099511627776 := by omega
    have HA := Hid.mk' h1
    have HB := Hid.mk' h2
    have HV := Hid.mk' (And.intro hL hM)
    have HLN := Hid.mk' (And.intro hm0 hm2)
    obtain ⟨r, hr⟩ : ∃ r, decide (L = M) = r := ⟨_, rfl⟩
    rw [hr]
    have HR := Hid.mk' hr
    clear h1 h2 hL hM hlen hl hm hm0 hm2 hr
    go_enter Tryz.func9, Tryz.ntmps9
    go_wp2_with fail
    go_loopw [5] (fun iv wr => ∃ (i : Nat), iv = .int .i64 (i : Int) ∧ i ≤ m ∧ Hid (L.take i = M.take i) ∧ Hid (∃ n, wr = w.drewN n)) (fun iv _ => m - (intOf iv).toNat)
    case atStart => exact ⟨0, by simp, by omega, rfl, 0, rfl⟩
    case round =>
      obtain ⟨i, rfl, hi, HT, HW⟩ := hrel
      rename World => wr
      by_cases hlt : i < m
      · have hiI : (i : Int) < (m : Int) := by omega
        obtain ⟨x, hx⟩ : ∃ x, L[i]? = some x := ⟨_, List.getElem?_eq_getElem (by have := HLN.out.1; omega)⟩
        obtain ⟨y, hy⟩ : ∃ y, M[i]? = some y := ⟨_, List.getElem?_eq_getElem (by have := HLN.out.2; omega)⟩
        obtain ⟨g, o, hpa, _, e1, e2⟩ := HA.out i x hx
        obtain ⟨g', o', hpb, _, f1, f2⟩ := HB.out i y hy
        subst hpa
        subst hpb
        have k1 : wr.cell? ⟨g, o + i * 2, none⟩ = some (.string (nums x.1)) := by obtain ⟨n, hn⟩ := HW.out; rw [hn]; exact e1
        have k2 : wr.cell? ⟨g, o + i * 2 + 1, none⟩ = some (.string (nums x.2)) := by obtain ⟨n, hn⟩ := HW.out; rw [hn]; exact e2
        have k3 : wr.cell? ⟨g', o' + i * 2, none⟩ = some (.string (nums y.1)) := by obtain ⟨n, hn⟩ := HW.out; rw [hn]; exact f1
        have k4 : wr.cell? ⟨g', o' + i * 2 + 1, none⟩ = some (.string (nums y.2)) := by obtain ⟨n, hn⟩ := HW.out; rw [hn]; exact f2
        obtain ⟨z, hz⟩ : ∃ z, decide (x = y) = z := ⟨_, rfl⟩
        have hnq : ∀ W, (binOp .neq 29 (.agg #[.string (nums x.1), .string (nums x.2)]) (.agg #[.string (nums y.1), .string (nums y.2)])).run Tryz.prog W = .ok (.bool (!z)) W := fun W => by
          rw [neq_pair, ← hz]
          have v1 := HV.out.1 x (List.mem_of_getElem? hx)
          have v2 := HV.out.2 y (List.mem_of_getElem? hy)
          have hto : ∀ a b : List Nat, (∀ z ∈ a, z < 256) → (∀ z ∈ b, z < 256) → ((nums a).toList == (nums b).toList) = decide (a = b) := fun a b ha hb => by
            rw [Bool.eq_iff_iff]
            simp only [beq_iff_eq, decide_eq_true_eq]
            constructor
            · intro e
              rw [ByteArray.toList_eq, ByteArray.toList_eq] at e
              exact nums_inj ha hb (ByteArray.ext (Array.toList_inj.1 e))
            · intro e; rw [e]
          rw [hto _ _ v1.1 v2.1, hto _ _ v1.2 v2.2]
          obtain ⟨x1, x2⟩ := x
          obtain ⟨y1, y2⟩ := y
          congr 3
          rw [Bool.eq_iff_iff]
          simp
        have HTK : Hid (z = true → L.take (i + 1) = M.take (i + 1)) := Hid.mk' (fun e => by
          rw [e] at hz
          have hxy : x = y := of_decide_eq_true hz
          rw [List.take_add_one, List.take_add_one, HT.out, hx, hy, hxy])
        have HNE : Hid (z = false → r = false) := Hid.mk' (fun e => by
          rw [e] at hz
          rw [← HR.out]
          refine decide_eq_false fun hh => of_decide_eq_false hz ?_
          rw [hh] at hx
          exact Option.some.inj (hx.symm.trans hy))
        generalize nums x.1 = xa at k1 hnq
        generalize nums x.2 = xb at k2 hnq
        generalize nums y.1 = ya at k3 hnq
        generalize nums y.2 = yb at k4 hnq
        clear hx hy e1 e2 f1 f2 hz HT
        go_wp2_with fail
        go_region
        cases z
        · have hr := HNE.out rfl
          subst hr
          simp only [Bool.not_false]
          go_wp2_with fail
          go_ret
          exact ⟨rfl, by obtain ⟨n, hn⟩ := HW.out; exact ⟨n + 1, by rw [hn]; rfl⟩⟩
        · have HT2 := Hid.mk' (HTK.out rfl)
          simp only [Bool.not_true]
          go_wp2_with fail
          go_roundw
          case rel => exact ⟨i + 1, by simp, by omega, HT2, by obtain ⟨n, hn⟩ := HW.out; exact ⟨n + 1, by rw [hn]; rfl⟩⟩
          case measure => simp [intOf]; omega
      · obtain rfl : i = m := by omega
        have hr : true = r := by
          rw [← HR.out]
          have h := HT.out
          rw [List.take_of_length_le (by have := HLN.out.1; omega), List.take_of_length_le (by have := HLN.out.2; omega)] at h
          exact (decide_eq_true h).symm
        subst hr
        clear HT
        go_wp2_with fail
        go_ret
        exact ⟨rfl, HW.out⟩
  · have hd : decide (L = M) = false := decide_eq_false (fun e => hlen (by rw [e]))
    rw [hd]
    have e1 : ((L.length : Int) != (M.length : Int)) = true := by simp; omega
    have e2 : (L.length != M.length) = true := by simp; omega
    generalize L.length = l1 at hlen e1 e2 ⊢
    generalize M.length = l2 at hlen e1 e2 ⊢
    clear h1 h2 hL hM hl hm hd
    go_enter Tryz.func9, Tryz.ntmps9
    go_wp2_with fail
    go_ret
    exact ⟨rfl, 0, rfl⟩
end Go.Proofs.YtkplbggefiemdaaGreatDoor

namespace Go.Proofs.YtkplbggefiemdaaGreatDoor
open Go.RowKit
set_option linter.unusedVariables false
set_option linter.unusedSimpArgs false
def sA : ByteArray := ⟨#[120, 61, 49, 32, 109, 115, 103, 61, 34, 97, 32, 92, 34, 98, 92, 34, 32, 99, 34, 44, 32, 111, 107, 61]⟩
def sB : ByteArray := ⟨#[123, 34, 97, 34, 58, 123, 34, 98, 34, 58, 91, 49, 44, 34, 120, 34, 93, 125, 125]⟩
def sC : ByteArray := ⟨#[71, 69, 84, 32, 47, 97, 63, 120, 61, 49, 32, 115, 116, 97, 116, 117, 115, 61, 50, 48, 48]⟩
def sD : ByteArray := ⟨#[97, 32, 61, 32, 49]⟩
def lA : List (List Nat × List Nat) := [([120], [49]), ([109, 115, 103], [97, 32, 34, 98, 34, 32, 99]), ([111, 107], [])]
def lB : List (List Nat × List Nat) := [([97, 46, 98, 91, 48, 93], [49]), ([97, 46, 98, 91, 49, 93], [120])]
def lC : List (List Nat × List Nat) := [([120], [49]), ([115, 116, 97, 116, 117, 115], [50, 48, 48])]
def vB : Vl := .mk 7 ByteArray.empty [⟨#[97]⟩] [.mk 7 ByteArray.empty [⟨#[98]⟩] [.mk 6 ByteArray.empty [] [.mk 4 ⟨#[49]⟩ [] [], .mk 5 ⟨#[120]⟩ [] []]]]
theorem wkA : wkL (Sums.bl sA) = lA := by decide +kernel
theorem wkC : wkL (Sums.bl sC) = lC := by decide +kernel
theorem wkD : wkL (Sums.bl sD) = [] := by decide +kernel
theorem whlB : whlP sB (pqS sB) = .ok vB 19 := by rfl
theorem okB : okV 40 vB = true := by decide +kernel
theorem acB : (accV vB (0, 0)).1 ≤ 65536 ∧ (accV vB (0, 0)).2 ≤ 65536 := by decide +kernel
theorem flB : flV vB [] = lB := by
  have h : flV vB [] = [(pthL [97, 46, 98] 0, [49]), (pthL [97, 46, 98] 1, [120])] := by rfl
  rw [h]
  unfold pthL
  rw [dec_small 0 (by decide), dec_small 1 (by decide)]
  rfl
theorem plB : plT sB := by unfold plT; decide +kernel
theorem parseB (X : World) (h : RwT X) : Calls Tryz.prog 18 #[.string sB] X ((Rv.ok vB 19).PostF X) := by
  rw [← whlB]
  exact parse_any (pqS sB) sB X h (by decide) (fun a t b hh => pqS_lt (by decide) a t b hh) (fun g d a X hg hr ht => quoted_pl sB plB (by decide) g d a X hg hr ht)
theorem lineA : LineP sA lA := ⟨by decide, .inl ⟨by decide +kernel, wkA.symm⟩⟩
theorem lineB : LineP sB lB := ⟨by decide, .inr ⟨vB, 19, by decide +kernel, okB, acB.1, acB.2, parseB, flB.symm⟩⟩
theorem lineC : LineP sC lC := ⟨by decide, .inl ⟨by decide +kernel, wkC.symm⟩⟩
theorem lineD : LineP sD [] := ⟨by decide, .inl ⟨by decide +kernel, wkD.symm⟩⟩
theorem okA : OkB lA := by unfold OkB; decide +kernel
theorem okBB : OkB lB := by unfold OkB; decide +kernel
theorem okCC : OkB lC := by unfold OkB; decide +kernel
theorem show70 : shF (-70) = [45, 48, 46, 48, 55] := by
  have h1 : dec 1070 = [49, 48, 55, 48] := by
    rw [dec_step 1070 (by decide), dec_step (1070 / 10) (by decide), dec_step (1070 / 10 / 10) (by decide), dec_small (1070 / 10 / 10 / 10) (by decide)]; rfl
  have h0 : dec 0 = [48] := dec_small 0 (by decide)
  have e : shF (-70) = 45 :: shU 70 := rfl
  rw [e]
  have e2 : shU 70 = dec 0 ++ (if trR 48 ((dec 1070).drop 1) = [] then [] else 46 :: trR 48 ((dec 1070).drop 1)) := rfl
  rw [e2, h0, h1]
  rfl
theorem build_three (w : World) (a b c d e f : ByteArray) : (Instr.buildSlice 23 3 #[(0, .agg #[.string a, .string b]), (1, .agg #[.string c, .string d]), (2, .agg #[.string e, .string f])]).run Tryz.prog w = .ok (.slice (some ⟨w.heap.size, 0, none⟩) 3 3) (w.alloc (.cells #[.string a, .string b, .string c, .string d, .string e, .string f] 29)) := by
  obtain ⟨i0, hi, hz0, hz1, _⟩ := info_parts infoP2
  refine run_buildSlice w 23 29 3 _ #[.string a, .string b, .string c, .string d, .string e, .string f] i0 (.agg #[.string ⟨#[]⟩, .string ⟨#[]⟩]) Tryz.underlying23 hi hz0 (by rw [hz1]; decide) (by rw [hz1]; decide) ?_
  rw [hz1]
  kernel_rfl
theorem build_pair2 (w : World) (a b c d : ByteArray) : (Instr.buildSlice 23 2 #[(0, .agg #[.string a, .string b]), (1, .agg #[.string c, .string d])]).run Tryz.prog w = .ok (.slice (some ⟨w.heap.size, 0, none⟩) 2 2) (w.alloc (.cells #[.string a, .string b, .string c, .string d] 29)) := by
  obtain ⟨i0, hi, hz0, hz1, _⟩ := info_parts infoP2
  refine run_buildSlice w 23 29 2 _ #[.string a, .string b, .string c, .string d] i0 (.agg #[.string ⟨#[]⟩, .string ⟨#[]⟩]) Tryz.underlying23 hi hz0 (by rw [hz1]; decide) (by rw [hz1]; decide) ?_
  rw [hz1]
  kernel_rfl
theorem bel_up {w a b : World} (h : Below w.heap.size w a) (k : Below a.heap.size a b) : Below w.heap.size w b := h.trans ⟨k.os, k.tape, k.output, k.size, fun j hj => k.block j (by have := h.size; omega)⟩
/-- a row of pairs just laid -/
theorem new_pr (w : World) (L : List (List Nat × List Nat)) (cs : Array Value) (hcs : cs = (prV L).toArray) : PrAt (w.alloc (.cells cs 29)) (.slice (some ⟨w.heap.size, 0, none⟩) L.length L.length) L := by
  subst hcs
  have hn := heap_alloc_new w (.cells (prV L).toArray 29)
  refine ⟨_, _, rfl, fun i x hx => ⟨w.heap.size, 0, rfl, by simp, ?_, ?_⟩⟩
  · have := (prV_get L i x hx).1
    rw [Nat.zero_add]
    simp only [World.cell?, hn]
    simpa using this
  · have := (prV_get L i x hx).2
    rw [Nat.zero_add]
    simp only [World.cell?, hn]
    simpa using this
end Go.Proofs.YtkplbggefiemdaaGreatDoor

namespace Go.Proofs.YtkplbggefiemdaaGreatDoor
open Go.RowKit
set_option linter.unusedVariables false
set_option linter.unusedSimpArgs false
set_option maxRecDepth 100000 in
set_option maxHeartbeats 16000000 in
theorem examples_any (w : World) (hw : RwT w) (hp : Pow w) (hut : UtT w) : Calls Tryz.prog 6 #[] w fun e w' => e = .returned (.bool true) ∧ Below w.heap.size w w' := by
  have HW : Hid (∀ X, Below w.heap.size w X → RwT X ∧ Pow X ∧ UtT X) := Hid.mk' (fun X hX => ⟨hw.below hX hw.lt, hp.below hX hp.size, hut.below hX (Nat.le_refl _)⟩)
  have HA : Hid (∀ X, Below w.heap.size w X → Calls Tryz.prog 7 #[.string ⟨#[120, 61, 49, 32, 109, 115, 103, 61, 34, 97, 32, 92, 34, 98, 92, 34, 32, 99, 34, 44, 32, 111, 107, 61]⟩] X fun e w' => ∃ v, e = .returned v ∧ w'.ownsRow (X.heap.size + 1) 29 2 v lA.length (prV lA) ∧ Below X.heap.size X w') := Hid.mk' (fun X hX => all_fl sA lA X lineA (by decide) (by decide) (HW.out X hX).1 (HW.out X hX).2.1 (HW.out X hX).2.2)
  have HB : Hid (∀ X, Below w.heap.size w X → Calls Tryz.prog 7 #[.string ⟨#[123, 34, 97, 34, 58, 123, 34, 98, 34, 58, 91, 49, 44, 34, 120, 34, 93, 125, 125]⟩] X fun e w' => ∃ v, e = .returned v ∧ w'.ownsRow (X.heap.size + 1) 29 2 v lB.length (prV lB) ∧ Below X.heap.size X w') := Hid.mk' (fun X hX => all_fl sB lB X lineB (by decide) (by decide) (HW.out X hX).1 (HW.out X hX).2.1 (HW.out X hX).2.2)
  have HC : Hid (∀ X, Below w.heap.size w X → Calls Tryz.prog 10 #[.string ⟨#[71, 69, 84, 32, 47, 97, 63, 120, 61, 49, 32, 115, 116, 97, 116, 117, 115, 61, 50, 48, 48]⟩, .string ⟨#[115, 116, 97, 116, 117, 115]⟩] X fun e w' => e = .returned (.tuple #[.string ⟨#[50, 48, 48]⟩, .bool true]) ∧ Below X.heap.size X w') := Hid.mk' (fun X hX => by
    have h := get_fl sC ⟨#[115, 116, 97, 116, 117, 115]⟩ lC X lineC (by decide) (fun x hx => (okCC x hx).1) (HW.out X hX).1 (HW.out X hX).2.1 (HW.out X hX).2.2
    have e1 : nums (gtF lC (Sums.bl ⟨#[115, 116, 97, 116, 117, 115]⟩)).1 = ⟨#[50, 48, 48]⟩ := by decide +kernel
    have e2 : (gtF lC (Sums.bl ⟨#[115, 116, 97, 116, 117, 115]⟩)).2 = true := by decide +kernel
    rw [e1, e2] at h
    exact h)
  have HD : Hid (∀ X, Below w.heap.size w X → Calls Tryz.prog 10 #[.string ⟨#[97, 32, 61, 32, 49]⟩, .string ⟨#[97]⟩] X fun e w' => e = .returned (.tuple #[.string ⟨#[]⟩, .bool false]) ∧ Below X.heap.size X w') := Hid.mk' (fun X hX => get_fl sD ⟨#[97]⟩ [] X lineD (fun x hx => by cases hx) (fun x hx => by cases hx) (HW.out X hX).1 (HW.out X hX).2.1 (HW.out X hX).2.2)
  have HN1 : Hid (∀ X, Calls Tryz.prog 20 #[.string ⟨#[49, 46, 53, 48, 48]⟩] X fun e w' => e = .returned (.tuple #[.int .i64 1500, .bool true]) ∧ Below X.heap.size X w') := Hid.mk' (fun X => by
    have h := number_fl ⟨#[49, 46, 53, 48, 48]⟩ X (by decide)
    have e1 : nbF (Sums.bl ⟨#[49, 46, 53, 48, 48]⟩) = (1500, true) := by decide +kernel
    rw [e1] at h
    exact h)
  have HN2 : Hid (∀ X, Calls Tryz.prog 20 #[.string ⟨#[49, 46]⟩] X fun e w' => e = .returned (.tuple #[.int .i64 0, .bool false]) ∧ Below X.heap.size X w') := Hid.mk' (fun X => by
    have h := number_fl ⟨#[49, 46]⟩ X (by decide)
    have e1 : nbF (Sums.bl ⟨#[49, 46]⟩) = (0, false) := by decide +kernel
    rw [e1] at h
    exact h)
  have HS : Hid (∀ X, Below w.heap.size w X → Calls Tryz.prog 21 #[.int .i64 (-70)] X fun e w' => e = .returned (.string ⟨#[45, 48, 46, 48, 55]⟩) ∧ Below X.heap.size X w') := Hid.mk' (fun X hX => by
    refine (show_fl (-70) X (by decide) (by decide) (HW.out X hX).2.1).mono ?_
    rintro e w' ⟨⟨R, hR, rfl⟩, hb⟩
    rw [show70] at hR
    have : R = ⟨#[45, 48, 46, 48, 55]⟩ := Sums.bl_inj (hR.trans (by decide +kernel))
    rw [this]
    exact ⟨rfl, hb⟩)
  have HI1 : Hid (∀ X, Calls Tryz.prog 22 #[.string ⟨#[49, 48]⟩, .int .i64 3, .string ⟨#[57, 120]⟩] X fun e w' => e = .returned (.bool true) ∧ Below X.heap.size X w') := Hid.mk' (fun X => by
    have h := is_3 ⟨#[49, 48]⟩ ⟨#[57, 120]⟩ X (by decide) (by decide)
    have e1 : isC 3 (cmF (Sums.bl ⟨#[49, 48]⟩) (Sums.bl ⟨#[57, 120]⟩)) = true := by decide +kernel
    rw [e1] at h
    exact h)
  have HI2 : Hid (∀ X, Calls Tryz.prog 22 #[.string ⟨#[49, 48]⟩, .int .i64 3, .string ⟨#[57]⟩] X fun e w' => e = .returned (.bool false) ∧ Below X.heap.size X w') := Hid.mk' (fun X => by
    have h := is_3 ⟨#[49, 48]⟩ ⟨#[57]⟩ X (by decide) (by decide)
    have e1 : isC 3 (cmF (Sums.bl ⟨#[49, 48]⟩) (Sums.bl ⟨#[57]⟩)) = false := by decide +kernel
    rw [e1] at h
    exact h)
  have HL1 : Hid (∀ X, Calls Tryz.prog 23 #[.string ⟨#[57]⟩, .string ⟨#[97]⟩] X fun e w' => e = .returned (.bool true) ∧ Below X.heap.size X w') := Hid.mk' (fun X => by
    have h := less_fl ⟨#[57]⟩ ⟨#[97]⟩ X (by decide) (by decide)
    have e1 : leF (Sums.bl ⟨#[57]⟩) (Sums.bl ⟨#[97]⟩) = true := by decide +kernel
    rw [e1] at h
    exact h)
  have HL2 : Hid (∀ X, Calls Tryz.prog 23 #[.string ⟨#[49, 46, 48]⟩, .string ⟨#[49]⟩] X fun e w' => e = .returned (.bool false) ∧ Below X.heap.size X w') := Hid.mk' (fun X => by
    have h := less_fl ⟨#[49, 46, 48]⟩ ⟨#[49]⟩ X (by decide) (by decide)
    have e1 : leF (Sums.bl ⟨#[49, 46, 48]⟩) (Sums.bl ⟨#[49]⟩) = false := by decide +kernel
    rw [e1] at h
    exact h)
  have HM1 : Hid (∀ X, Calls Tryz.prog 17 #[.string ⟨#[97, 46, 98, 91, 48, 93]⟩] X fun e w' => e = .returned (.bool true) ∧ Below X.heap.size X w') := Hid.mk' (fun X => by
    have h := fname_any ⟨#[97, 46, 98, 91, 48, 93]⟩ X (by decide)
    have e1 : nameF (Sums.bl ⟨#[97, 46, 98, 91, 48, 93]⟩) = true := by decide +kernel
    rw [e1] at h
    exact h)
  have HM2 : Hid (∀ X, Calls Tryz.prog 17 #[.string ⟨#[57, 97]⟩] X fun e w' => e = .returned (.bool false) ∧ Below X.heap.size X w') := Hid.mk' (fun X => by
    have h := fname_any ⟨#[57, 97]⟩ X (by decide)
    have e1 : nameF (Sums.bl ⟨#[57, 97]⟩) = false := by decide +kernel
    rw [e1] at h
    exact h)
  have HB0 : Hid (Below w.heap.size w w) := Hid.mk' (Below.refl _ _)
  clear hw hp hut
  go_enter Tryz.func6, Tryz.ntmps6
  go_wp2_with fail
  refine (HA.out _ HB0.out).mono ?_
  rintro e w1 ⟨va, rfl, ho, hb⟩
  have HB1 := Hid.mk' (bel_up HB0.out hb)
  have HPA := Hid.mk' (own_pr ho)
  clear ho hb HA HB0
  go_wp2_with fail
  refine (HB.out _ HB1.out).mono ?_
  rintro e w2 ⟨vb, rfl, ho, hb⟩
  have HB2 := Hid.mk' (bel_up HB1.out hb)
  have HPA2 := Hid.mk' (HPA.out.below hb)
  have HPB := Hid.mk' (own_pr ho)
  clear ho hb HB HB1 HPA
  go_wp2_with fail
  refine (HC.out _ HB2.out).mono ?_
  rintro e w3 ⟨rfl, hb⟩
  have HB3 := Hid.mk' (bel_up HB2.out hb)
  have HPA3 := Hid.mk' (HPA2.out.below hb)
  have HPB3 := Hid.mk' (HPB.out.below hb)
  clear hb HC HB2 HPA2 HPB
  go_wp2_with fail
  refine (HD.out _ HB3.out).mono ?_
  rintro e w4 ⟨rfl, hb⟩
  have HB4 := Hid.mk' (bel_up HB3.out hb)
  have HPA4 := Hid.mk' (HPA3.out.below hb)
  have HPB4 := Hid.mk' (HPB3.out.below hb)
  clear hb HD HB3 HPA3 HPB3
  go_wp2_with fail
  refine (HN1.out _).mono ?_
  rintro e w5 ⟨rfl, hb⟩
  have HB5 := Hid.mk' (bel_up HB4.out hb)
  have HPA5 := Hid.mk' (HPA4.out.below hb)
  have HPB5 := Hid.mk' (HPB4.out.below hb)
  clear hb HN1 HB4 HPA4 HPB4
  go_wp2_with fail
  refine (HN2.out _).mono ?_
  rintro e w6 ⟨rfl, hb⟩
  have HB6 := Hid.mk' (bel_up HB5.out hb)
  have HPA6 := Hid.mk' (HPA5.out.below hb)
  have HPB6 := Hid.mk' (HPB5.out.below hb)
  have hb3 := build_three w6 ⟨#[120]⟩ ⟨#[49]⟩ ⟨#[109, 115, 103]⟩ ⟨#[97, 32, 34, 98, 34, 32, 99]⟩ ⟨#[111, 107]⟩ ⟨#[]⟩
  have HAL : Hid (∀ o, Below w6.heap.size w6 (w6.alloc o)) := Hid.mk' (fun o => (Below.refl _ w6).alloc (Nat.le_refl _) o)
  have HNA := Hid.mk' (new_pr w6 lA #[.string ⟨#[120]⟩, .string ⟨#[49]⟩, .string ⟨#[109, 115, 103]⟩, .string ⟨#[97, 32, 34, 98, 34, 32, 99]⟩, .string ⟨#[111, 107]⟩, .string ⟨#[]⟩] (by kernel_rfl))
  clear hb HN2 HB5 HPA5 HPB5
  go_wp2_with fail
  refine (same_fl va _ lA lA _ (HPA6.out.below (HAL.out _)) HNA.out (by decide) (by decide) okA okA).mono ?_
  rintro e w7 ⟨rfl, n7, hw7⟩
  have hb7 := bel_up (HAL.out _) (show Below _ _ w7 by rw [hw7]; exact (Below.refl _ _).drewN' n7)
  have HB7 := Hid.mk' (bel_up HB6.out hb7)
  have HPB7 := Hid.mk' (HPB6.out.below hb7)
  rw [show decide (lA = lA) = true from decide_eq_true rfl]
  have hb2 := build_pair2 w7 ⟨#[97, 46, 98, 91, 48, 93]⟩ ⟨#[49]⟩ ⟨#[97, 46, 98, 91, 49, 93]⟩ ⟨#[120]⟩
  have HAL7 : Hid (∀ o, Below w7.heap.size w7 (w7.alloc o)) := Hid.mk' (fun o => (Below.refl _ w7).alloc (Nat.le_refl _) o)
  have HNB := Hid.mk' (new_pr w7 lB #[.string ⟨#[97, 46, 98, 91, 48, 93]⟩, .string ⟨#[49]⟩, .string ⟨#[97, 46, 98, 91, 49, 93]⟩, .string ⟨#[120]⟩] (by kernel_rfl))
  clear hb7 hw7 HB6 HPA6 HPB6 HAL HNA hb3
  go_wp2_with fail
  refine (same_fl vb _ lB lB _ (HPB7.out.below (HAL7.out _)) HNB.out (by decide) (by decide) okBB okBB).mono ?_
  rintro e w8 ⟨rfl, n8, hw8⟩
  have hb8 := bel_up (HAL7.out _) (show Below _ _ w8 by rw [hw8]; exact (Below.refl _ _).drewN' n8)
  have HB8 := Hid.mk' (bel_up HB7.out hb8)
  rw [show decide (lB = lB) = true from decide_eq_true rfl]
  clear hb8 hw8 HB7 HPB7 HAL7 HNB hb2
  go_wp2_with fail
  refine (HS.out _ HB8.out).mono ?_
  rintro e w9 ⟨rfl, hb⟩
  have HB9 := Hid.mk' (bel_up HB8.out hb)
  clear hb HS HB8 HW
  go_wp2_with fail
  refine (HI1.out _).mono ?_
  rintro e wb0 ⟨rfl, hb⟩
  have HC0 := Hid.mk' (bel_up HB9.out hb)
  clear hb HI1 HB9
  go_wp2_with fail
  refine (HI2.out _).mono ?_
  rintro e wb1 ⟨rfl, hb⟩
  have HC1 := Hid.mk' (bel_up HC0.out hb)
  clear hb HI2 HC0
  go_wp2_with fail
  refine (HL1.out _).mono ?_
  rintro e wb2 ⟨rfl, hb⟩
  have HC2 := Hid.mk' (bel_up HC1.out hb)
  clear hb HL1 HC1
  go_wp2_with fail
  refine (HL2.out _).mono ?_
  rintro e wb3 ⟨rfl, hb⟩
  have HC3 := Hid.mk' (bel_up HC2.out hb)
  clear hb HL2 HC2
  go_wp2_with fail
  refine (HM1.out _).mono ?_
  rintro e wb4 ⟨rfl, hb⟩
  have HC4 := Hid.mk' (bel_up HC3.out hb)
  clear hb HM1 HC3
  go_wp2_with fail
  refine (HM2.out _).mono ?_
  rintro e wb5 ⟨rfl, hb⟩
  have HC5 := Hid.mk' (bel_up HC4.out hb)
  clear hb HM2 HC4
  go_wp2_with fail
  go_ret
  exact ⟨rfl, HC5.out⟩
end Go.Proofs.YtkplbggefiemdaaGreatDoor
