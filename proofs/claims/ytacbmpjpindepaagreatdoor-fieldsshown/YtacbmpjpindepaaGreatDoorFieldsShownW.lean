/-
  The law FieldsShown. Conditions: numbers and a text as a row lets them be; the tables lie as the program lays them.
-/
import Derived.Test.YtacbmpjpindepaaGreatDoorShwA
import Derived.Test.YtacbmpjpindepaaGreatDoorPk14
namespace Go.Proofs.YtacbmpjpindepaaGreatDoor
open Go.RowKit
set_option linter.unusedVariables false
set_option linter.unusedSimpArgs false
theorem tl_len (a b c : Nat) : (tlP a b c).length ≤ 4 := by
  unfold tlP
  split
  · simp
  · split
    · simp
    · split <;> simp
theorem sh_len (n : Int) : (shF n).length ≤ 25 := by
  unfold shF
  split
  · simp
  · split
    · simp
    · have h : (shU n.natAbs).length ≤ 19 := by
        unfold shU
        rw [shP_is, List.length_append]
        have h1 := tl_len (n.natAbs % 1000 / 100) (n.natAbs % 1000 / 10 % 10) (n.natAbs % 1000 % 10)
        have h2 := dec_short (n.natAbs / 1000) (by omega)
        omega
      split
      · rw [List.length_cons]; omega
      · omega
theorem neq_self (r : Bool) (W : World) : (binOp .neq 4 (.bool r) (.bool r)).run Tryz.prog W = .ok (.bool false) W := by cases r <;> kernel_rfl
set_option maxRecDepth 100000 in
set_option maxHeartbeats 16000000 in
theorem fieldsShown_any (raw other : Int) (S : ByteArray) (w : World) (r0 : -9223372036854775808 ≤ raw) (r1 : raw ≤ 9223372036854775807) (o0 : -9223372036854775808 ≤ other) (o1 : other ≤ 9223372036854775807) (hS : S.size ≤ 140737488351232) (hw : RwT w) (hp : Pow w) :
    Calls Tryz.prog 8 #[.int .i64 raw, .int .i64 other, .string S] w fun e w' => e = .returned (.bool true) ∧ Below w.heap.size w w' := by
  have HEX := Hid.mk' (examples_any w hw hp)
  have HPW : Hid (∀ X, Below w.heap.size w X → Pow X) := Hid.mk' (fun X hX => hp.below hX hp.size)
  have HP1 : Hid (∀ X, Calls Tryz.prog 15 #[.int .i64 raw, .int .i64 1000000000000] X fun e w' => (∃ z : Nat, z < 1000000000000 ∧ e = .returned (.int .i64 (z : Int))) ∧ w' = X) := Hid.mk' (fun X => pick14 raw 1000000000000 X r0 r1 (by decide) (by decide))
  have HP2 : Hid (∀ X, Calls Tryz.prog 15 #[.int .i64 other, .int .i64 1000000000000] X fun e w' => (∃ z : Nat, z < 1000000000000 ∧ e = .returned (.int .i64 (z : Int))) ∧ w' = X) := Hid.mk' (fun X => pick14 other 1000000000000 X o0 o1 (by decide) (by decide))
  have HP3 : Hid (∀ X, Calls Tryz.prog 15 #[.int .i64 raw, .int .i64 1152921504606846976] X fun e w' => (∃ z : Nat, z < 1152921504606846976 ∧ e = .returned (.int .i64 (z : Int))) ∧ w' = X) := Hid.mk' (fun X => pick14 raw 1152921504606846976 X r0 r1 (by decide) (by decide))
  have HSH : Hid (∀ (n : Int) (X : World), -9223372036854775808 ≤ n → n ≤ 9223372036854775807 → Below w.heap.size w X → Calls Tryz.prog 19 #[.int .i64 n] X fun e w' => (∃ R, Sums.bl R = shF n ∧ e = .returned (.string R)) ∧ Below X.heap.size X w') := Hid.mk' (fun n X h1 h2 h3 => show_fl n X h1 h2 (HPW.out X h3))
  have HNB : Hid (∀ (n : Int) (R : ByteArray) (X : World), -999999999999 ≤ n → n ≤ 999999999999 → Sums.bl R = shF n → Calls Tryz.prog 17 #[.string R] X fun e w' => e = .returned (.tuple #[.int .i64 n, .bool true]) ∧ Below X.heap.size X w') := Hid.mk' (fun n R X h1 h2 h3 => by
    have h := number_fl R X (by rw [← Sums.bl_length, h3]; have := sh_len n; omega)
    rw [h3, nb_sh n h1 h2] at h
    exact h)
  have HNS := Hid.mk' (fun X => number_fl S X (by omega))
  have HSL : Hid (∀ y : Int, nbF (Sums.bl S) = (y, true) → -999999999999 ≤ y ∧ y ≤ 999999999999 ∧ (shF y).length ≤ S.size) := Hid.mk' (fun y h => by have := sh_short _ y h; rw [Sums.bl_length] at this; exact this)
  have HSZ : Hid ((nbF (Sums.bl S)).2 = false → (nbF (Sums.bl S)).1 = 0) := Hid.mk' (nb_zero _)
  have hSI : (S.size : Int) ≤ 140737488351232 := by omega
  clear hw hp o0 o1 hS
  go_enter Tryz.func8, Tryz.ntmps8
  go_wp2_with fail
  refine HEX.out.mono ?_
  rintro e w1 ⟨rfl, hb1⟩
  have HB1 := Hid.mk' hb1
  clear hb1 HEX
  go_wp2_with fail
  refine (HP1.out w1).mono ?_
  rintro e w2 ⟨⟨z, hz, rfl⟩, hw2⟩
  have hw3 := hw2.symm
  subst hw3
  clear hw2 HP1
  by_cases hneg : raw < 0
  · have t1 : decide (raw < 0) = true := decide_eq_true hneg
    have hwz : IntKind.i64.wrap (-(z : Int)) = -(z : Int) := by rw [IntKind.wrap_i64]; omega
    have hN1 : -999999999999 ≤ -(z : Int) := by omega
    have hN2 : -(z : Int) ≤ 999999999999 := by omega
    go_wp2_with fail
    obtain ⟨N, hN⟩ : ∃ N, -(z : Int) = N := ⟨_, rfl⟩
    rw [hN] at hN1 hN2 hwz ⊢
    clear hN hz hwz hneg t1
    refine (HP2.out w1).mono ?_
    rintro e w2 ⟨⟨m, hm, rfl⟩, hw2⟩
    have hw3 := hw2.symm
    subst hw3
    clear hw2 HP2
    have hmI : (m : Int) ≤ 999999999999 := by omega
    go_wp2_with fail
    refine (HSH.out N w1 (by omega) (by omega) HB1.out).mono ?_
    rintro e w2 ⟨⟨R, hR, rfl⟩, hb⟩
    have HB2 := Hid.mk' (bel_up HB1.out hb)
    have HR := Hid.mk' hR
    clear hb hR HB1
    go_wp2_with fail
    refine (HSH.out (m : Int) w2 (by omega) (by omega) HB2.out).mono ?_
    rintro e w3 ⟨⟨R2, hR2, rfl⟩, hb⟩
    have HB3 := Hid.mk' (bel_up HB2.out hb)
    have HR2 := Hid.mk' hR2
    clear hb hR2 HB2
    go_wp2_with fail
    refine (HNB.out N R w3 hN1 hN2 HR.out).mono ?_
    rintro e w4 ⟨rfl, hb⟩
    have HB4 := Hid.mk' (bel_up HB3.out hb)
    clear hb HB3
    obtain ⟨r, hr⟩ : ∃ r, decide (N = (m : Int)) = r := ⟨_, rfl⟩
    have q1 : (N == (m : Int)) = r := by rw [← hr, Bool.eq_iff_iff]; simp
    have q2 : decide (R.toList = R2.toList) = r := by
      rw [← hr, decide_eq_decide]
      constructor
      · intro e
        rw [ByteArray.toList_eq, ByteArray.toList_eq] at e
        have e2 : R = R2 := ByteArray.ext (Array.toList_inj.1 e)
        have e3 := HR.out
        rw [e2, HR2.out] at e3
        exact (sh_inj (m : Int) N (by omega) hmI hN1 hN2 e3).symm
      · intro e
        have e2 : R = R2 := Sums.bl_inj (by rw [HR.out, HR2.out, e])
        rw [e2]
    have q3 : (R.toList == R2.toList) = r := by rw [← q2, Bool.eq_iff_iff]; simp
    have q4 := neq_self r
    clear hr
    go_wp2_with fail
    refine (HP3.out w4).mono ?_
    rintro e w5 ⟨⟨z3, hz3, rfl⟩, hw2⟩
    have hw3 := hw2.symm
    subst hw3
    clear hw2
    have hw5 : IntKind.i64.wrap (1000000000000 + (z3 : Int)) = 1000000000000 + (z3 : Int) := by rw [IntKind.wrap_i64]; omega
    go_wp2_with fail
    refine (HSH.out (1000000000000 + (z3 : Int)) w4 (by omega) (by omega) HB4.out).mono ?_
    rintro e w6 ⟨⟨R3, hR3, rfl⟩, hb⟩
    have HB6 := Hid.mk' (bel_up HB4.out hb)
    have e3 : R3 = ⟨#[]⟩ := Sums.bl_inj (by rw [hR3]; unfold shF; rw [if_neg (by omega), if_pos (by omega)]; rfl)
    subst e3
    clear hb hR3 HB4 hw5 hz3 q1 q2 q3 q4
    go_wp2_with fail
    refine (HP3.out w6).mono ?_
    rintro e w5 ⟨⟨z4, hz4, rfl⟩, hw2⟩
    have hw3 := hw2.symm
    subst hw3
    clear hw2
    have hw5 : IntKind.i64.wrap (-1000000000000 - (z4 : Int)) = -1000000000000 - (z4 : Int) := by rw [IntKind.wrap_i64]; omega
    go_wp2_with fail
    refine (HSH.out (-1000000000000 - (z4 : Int)) w6 (by omega) (by omega) HB6.out).mono ?_
    rintro e w7 ⟨⟨R4, hR4, rfl⟩, hb⟩
    have HB7 := Hid.mk' (bel_up HB6.out hb)
    have e4 : R4 = ⟨#[]⟩ := Sums.bl_inj (by rw [hR4]; unfold shF; rw [if_pos (by omega)]; rfl)
    subst e4
    clear hb hR4 HB6 hw5 hz4 HP3
    go_wp2_with fail
    refine (HNS.out w7).mono ?_
    rintro e w8 ⟨rfl, hb⟩
    have HB8 := Hid.mk' (bel_up HB7.out hb)
    clear hb HB7 HNS
    have hsl := HSL.out
    have hsz := HSZ.out
    obtain ⟨y, hy⟩ : ∃ y, nbF (Sums.bl S) = y := ⟨_, rfl⟩
    rw [hy] at hsl hsz ⊢
    obtain ⟨y1, y2⟩ := y
    clear hy HSL HSZ
    cases y2
    · have hy1 : y1 = 0 := hsz rfl
      subst hy1
      clear hsl hsz
      dsimp only
      go_wp2_with fail
      go_ret
      exact ⟨rfl, HB8.out⟩
    · obtain ⟨k1, k2, k3⟩ := hsl y1 rfl
      have HK3 := Hid.mk' k3
      clear hsl hsz k3
      dsimp only
      go_wp2_with fail
      refine (HSH.out y1 w8 (by omega) (by omega) HB8.out).mono ?_
      rintro e w9 ⟨⟨T, hT, rfl⟩, hb⟩
      have HB9 := Hid.mk' (bel_up HB8.out hb)
      have HT := Hid.mk' hT
      have hTs : T.size ≤ S.size := by rw [← Sums.bl_length, hT]; exact HK3.out
      have hTI : (T.size : Int) ≤ (S.size : Int) := by omega
      clear hb hT HB8
      go_wp2_with fail
      refine (HNB.out y1 T w9 k1 k2 HT.out).mono ?_
      rintro e wa ⟨rfl, hb⟩
      have HBa := Hid.mk' (bel_up HB9.out hb)
      clear hb HB9
      have d1 : decide ((T.size : Int) ≤ (S.size : Int)) = true := decide_eq_true hTI
      have d2 : decide (T.size ≤ S.size) = true := decide_eq_true hTs
      have d3 : decide (y1 ≤ 999999999999) = true := decide_eq_true k2
      have d4 : decide (-999999999999 ≤ y1) = true := decide_eq_true k1
      go_wp2_with fail
      go_ret
      exact ⟨rfl, HBa.out⟩
  · have t1 : decide (raw < 0) = false := decide_eq_false hneg
    have hN1 : -999999999999 ≤ (z : Int) := by omega
    have hN2 : (z : Int) ≤ 999999999999 := by omega
    go_wp2_with fail
    obtain ⟨N, hN⟩ : ∃ N, (z : Int) = N := ⟨_, rfl⟩
    rw [hN] at hN1 hN2 ⊢
    clear hN hz hneg t1
    refine (HP2.out w1).mono ?_
    rintro e w2 ⟨⟨m, hm, rfl⟩, hw2⟩
    have hw3 := hw2.symm
    subst hw3
    clear hw2 HP2
    have hmI : (m : Int) ≤ 999999999999 := by omega
    go_wp2_with fail
    refine (HSH.out N w1 (by omega) (by omega) HB1.out).mono ?_
    rintro e w2 ⟨⟨R, hR, rfl⟩, hb⟩
    have HB2 := Hid.mk' (bel_up HB1.out hb)
    have HR := Hid.mk' hR
    clear hb hR HB1
    go_wp2_with fail
    refine (HSH.out (m : Int) w2 (by omega) (by omega) HB2.out).mono ?_
    rintro e w3 ⟨⟨R2, hR2, rfl⟩, hb⟩
    have HB3 := Hid.mk' (bel_up HB2.out hb)
    have HR2 := Hid.mk' hR2
    clear hb hR2 HB2
    go_wp2_with fail
    refine (HNB.out N R w3 hN1 hN2 HR.out).mono ?_
    rintro e w4 ⟨rfl, hb⟩
    have HB4 := Hid.mk' (bel_up HB3.out hb)
    clear hb HB3
    obtain ⟨r, hr⟩ : ∃ r, decide (N = (m : Int)) = r := ⟨_, rfl⟩
    have q1 : (N == (m : Int)) = r := by rw [← hr, Bool.eq_iff_iff]; simp
    have q2 : decide (R.toList = R2.toList) = r := by
      rw [← hr, decide_eq_decide]
      constructor
      · intro e
        rw [ByteArray.toList_eq, ByteArray.toList_eq] at e
        have e2 : R = R2 := ByteArray.ext (Array.toList_inj.1 e)
        have e3 := HR.out
        rw [e2, HR2.out] at e3
        exact (sh_inj (m : Int) N (by omega) hmI hN1 hN2 e3).symm
      · intro e
        have e2 : R = R2 := Sums.bl_inj (by rw [HR.out, HR2.out, e])
        rw [e2]
    have q3 : (R.toList == R2.toList) = r := by rw [← q2, Bool.eq_iff_iff]; simp
    have q4 := neq_self r
    clear hr
    go_wp2_with fail
    refine (HP3.out w4).mono ?_
    rintro e w5 ⟨⟨z3, hz3, rfl⟩, hw2⟩
    have hw3 := hw2.symm
    subst hw3
    clear hw2
    have hw5 : IntKind.i64.wrap (1000000000000 + (z3 : Int)) = 1000000000000 + (z3 : Int) := by rw [IntKind.wrap_i64]; omega
    go_wp2_with fail
    refine (HSH.out (1000000000000 + (z3 : Int)) w4 (by omega) (by omega) HB4.out).mono ?_
    rintro e w6 ⟨⟨R3, hR3, rfl⟩, hb⟩
    have HB6 := Hid.mk' (bel_up HB4.out hb)
    have e3 : R3 = ⟨#[]⟩ := Sums.bl_inj (by rw [hR3]; unfold shF; rw [if_neg (by omega), if_pos (by omega)]; rfl)
    subst e3
    clear hb hR3 HB4 hw5 hz3 q1 q2 q3 q4
    go_wp2_with fail
    refine (HP3.out w6).mono ?_
    rintro e w5 ⟨⟨z4, hz4, rfl⟩, hw2⟩
    have hw3 := hw2.symm
    subst hw3
    clear hw2
    have hw5 : IntKind.i64.wrap (-1000000000000 - (z4 : Int)) = -1000000000000 - (z4 : Int) := by rw [IntKind.wrap_i64]; omega
    go_wp2_with fail
    refine (HSH.out (-1000000000000 - (z4 : Int)) w6 (by omega) (by omega) HB6.out).mono ?_
    rintro e w7 ⟨⟨R4, hR4, rfl⟩, hb⟩
    have HB7 := Hid.mk' (bel_up HB6.out hb)
    have e4 : R4 = ⟨#[]⟩ := Sums.bl_inj (by rw [hR4]; unfold shF; rw [if_pos (by omega)]; rfl)
    subst e4
    clear hb hR4 HB6 hw5 hz4 HP3
    go_wp2_with fail
    refine (HNS.out w7).mono ?_
    rintro e w8 ⟨rfl, hb⟩
    have HB8 := Hid.mk' (bel_up HB7.out hb)
    clear hb HB7 HNS
    have hsl := HSL.out
    have hsz := HSZ.out
    obtain ⟨y, hy⟩ : ∃ y, nbF (Sums.bl S) = y := ⟨_, rfl⟩
    rw [hy] at hsl hsz ⊢
    obtain ⟨y1, y2⟩ := y
    clear hy HSL HSZ
    cases y2
    · have hy1 : y1 = 0 := hsz rfl
      subst hy1
      clear hsl hsz
      dsimp only
      go_wp2_with fail
      go_ret
      exact ⟨rfl, HB8.out⟩
    · obtain ⟨k1, k2, k3⟩ := hsl y1 rfl
      have HK3 := Hid.mk' k3
      clear hsl hsz k3
      dsimp only
      go_wp2_with fail
      refine (HSH.out y1 w8 (by omega) (by omega) HB8.out).mono ?_
      rintro e w9 ⟨⟨T, hT, rfl⟩, hb⟩
      have HB9 := Hid.mk' (bel_up HB8.out hb)
      have HT := Hid.mk' hT
      have hTs : T.size ≤ S.size := by rw [← Sums.bl_length, hT]; exact HK3.out
      have hTI : (T.size : Int) ≤ (S.size : Int) := by omega
      clear hb hT HB8
      go_wp2_with fail
      refine (HNB.out y1 T w9 k1 k2 HT.out).mono ?_
      rintro e wa ⟨rfl, hb⟩
      have HBa := Hid.mk' (bel_up HB9.out hb)
      clear hb HB9
      have d1 : decide ((T.size : Int) ≤ (S.size : Int)) = true := decide_eq_true hTI
      have d2 : decide (T.size ≤ S.size) = true := decide_eq_true hTs
      have d3 : decide (y1 ≤ 999999999999) = true := decide_eq_true k2
      have d4 : decide (-999999999999 ≤ y1) = true := decide_eq_true k1
      go_wp2_with fail
      go_ret
      exact ⟨rfl, HBa.out⟩
end Go.Proofs.YtacbmpjpindepaaGreatDoor
