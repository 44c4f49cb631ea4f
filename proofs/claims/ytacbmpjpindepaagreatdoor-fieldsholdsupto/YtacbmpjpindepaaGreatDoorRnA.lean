/-
  The document's own digit, letter, part, Name, digits. Conditions: as each says.
-/
import Derived.Test.YtacbmpjpindepaaGreatDoorFmV
namespace Go.Proofs.YtacbmpjpindepaaGreatDoor
open Go.RowKit
set_option linter.unusedVariables false
set_option linter.unusedSimpArgs false
theorem rDigit_any (b : Nat) (w : World) : Calls Tryz.prog 56 #[.int .u8 (b : Int)] w fun e w' => e = .returned (.bool (digB b)) ∧ w' = w := by
  unfold digB
  rcases (show b < 48 ∨ (48 ≤ b ∧ b ≤ 57) ∨ 58 ≤ b by omega) with h | h | h
  · have t0 : decide ((48 : Int) ≤ (b : Int)) = false := decide_eq_false (by omega)
    have n0 : decide (48 ≤ b) = false := decide_eq_false (by omega)
    have t1 : decide ((b : Int) ≤ 57) = true := decide_eq_true (by omega)
    have n1 : decide (b ≤ 57) = true := decide_eq_true (by omega)
    have e : decide (48 ≤ b ∧ b ≤ 57) = false := decide_eq_false (by omega)
    rw [e]
    clear h e
    go_enter Tryz.func56, Tryz.ntmps56
    go_wp2_with fail
    go_ret
    exact ⟨rfl, rfl⟩
  · have t0 : decide ((48 : Int) ≤ (b : Int)) = true := decide_eq_true (by omega)
    have n0 : decide (48 ≤ b) = true := decide_eq_true (by omega)
    have t1 : decide ((b : Int) ≤ 57) = true := decide_eq_true (by omega)
    have n1 : decide (b ≤ 57) = true := decide_eq_true (by omega)
    have e : decide (48 ≤ b ∧ b ≤ 57) = true := decide_eq_true (by omega)
    rw [e]
    clear h e
    go_enter Tryz.func56, Tryz.ntmps56
    go_wp2_with fail
    go_ret
    exact ⟨rfl, rfl⟩
  · have t0 : decide ((48 : Int) ≤ (b : Int)) = true := decide_eq_true (by omega)
    have n0 : decide (48 ≤ b) = true := decide_eq_true (by omega)
    have t1 : decide ((b : Int) ≤ 57) = false := decide_eq_false (by omega)
    have n1 : decide (b ≤ 57) = false := decide_eq_false (by omega)
    have e : decide (48 ≤ b ∧ b ≤ 57) = false := decide_eq_false (by omega)
    rw [e]
    clear h e
    go_enter Tryz.func56, Tryz.ntmps56
    go_wp2_with fail
    go_ret
    exact ⟨rfl, rfl⟩
set_option maxRecDepth 100000 in
set_option maxHeartbeats 4000000 in
theorem rLetter_any (b : Nat) (w : World) : Calls Tryz.prog 44 #[.int .u8 (b : Int)] w fun e w' => e = .returned (.bool (letB b || decide (b = 95))) ∧ w' = w := by
  unfold letB
  rcases (show b < 65 ∨ (65 ≤ b ∧ b ≤ 90) ∨ ((91 ≤ b ∧ b ≤ 96) ∧ b ≠ 95) ∨ b = 95 ∨ (97 ≤ b ∧ b ≤ 122) ∨ 123 ≤ b by omega) with h | h | h | h | h | h
  · have t0 : decide ((65 : Int) ≤ (b : Int)) = false := decide_eq_false (by omega)
    have n0 : decide (65 ≤ b) = false := decide_eq_false (by omega)
    have t1 : decide ((b : Int) ≤ 90) = true := decide_eq_true (by omega)
    have n1 : decide (b ≤ 90) = true := decide_eq_true (by omega)
    have t2 : decide ((97 : Int) ≤ (b : Int)) = false := decide_eq_false (by omega)
    have n2 : decide (97 ≤ b) = false := decide_eq_false (by omega)
    have t3 : decide ((b : Int) ≤ 122) = true := decide_eq_true (by omega)
    have n3 : decide (b ≤ 122) = true := decide_eq_true (by omega)
    have t4 : ((b : Int) == 95) = false := by exact beq_eq_false_iff_ne.2 (by omega)
    have n4 : decide (b = 95) = false := decide_eq_false (by omega)
    rw [n0, n1, n2, n3, n4]
    clear h
    go_enter Tryz.func44, Tryz.ntmps44
    go_wp2_with fail
    go_ret
    exact ⟨rfl, rfl⟩
  · have t0 : decide ((65 : Int) ≤ (b : Int)) = true := decide_eq_true (by omega)
    have n0 : decide (65 ≤ b) = true := decide_eq_true (by omega)
    have t1 : decide ((b : Int) ≤ 90) = true := decide_eq_true (by omega)
    have n1 : decide (b ≤ 90) = true := decide_eq_true (by omega)
    have t2 : decide ((97 : Int) ≤ (b : Int)) = false := decide_eq_false (by omega)
    have n2 : decide (97 ≤ b) = false := decide_eq_false (by omega)
    have t3 : decide ((b : Int) ≤ 122) = true := decide_eq_true (by omega)
    have n3 : decide (b ≤ 122) = true := decide_eq_true (by omega)
    have t4 : ((b : Int) == 95) = false := by exact beq_eq_false_iff_ne.2 (by omega)
    have n4 : decide (b = 95) = false := decide_eq_false (by omega)
    rw [n0, n1, n2, n3, n4]
    clear h
    go_enter Tryz.func44, Tryz.ntmps44
    go_wp2_with fail
    go_ret
    exact ⟨rfl, rfl⟩
  · have t0 : decide ((65 : Int) ≤ (b : Int)) = true := decide_eq_true (by omega)
    have n0 : decide (65 ≤ b) = true := decide_eq_true (by omega)
    have t1 : decide ((b : Int) ≤ 90) = false := decide_eq_false (by omega)
    have n1 : decide (b ≤ 90) = false := decide_eq_false (by omega)
    have t2 : decide ((97 : Int) ≤ (b : Int)) = false := decide_eq_false (by omega)
    have n2 : decide (97 ≤ b) = false := decide_eq_false (by omega)
    have t3 : decide ((b : Int) ≤ 122) = true := decide_eq_true (by omega)
    have n3 : decide (b ≤ 122) = true := decide_eq_true (by omega)
    have t4 : ((b : Int) == 95) = false := by exact beq_eq_false_iff_ne.2 (by omega)
    have n4 : decide (b = 95) = false := decide_eq_false (by omega)
    rw [n0, n1, n2, n3, n4]
    clear h
    go_enter Tryz.func44, Tryz.ntmps44
    go_wp2_with fail
    go_ret
    exact ⟨rfl, rfl⟩
  · have t0 : decide ((65 : Int) ≤ (b : Int)) = true := decide_eq_true (by omega)
    have n0 : decide (65 ≤ b) = true := decide_eq_true (by omega)
    have t1 : decide ((b : Int) ≤ 90) = false := decide_eq_false (by omega)
    have n1 : decide (b ≤ 90) = false := decide_eq_false (by omega)
    have t2 : decide ((97 : Int) ≤ (b : Int)) = false := decide_eq_false (by omega)
    have n2 : decide (97 ≤ b) = false := decide_eq_false (by omega)
    have t3 : decide ((b : Int) ≤ 122) = true := decide_eq_true (by omega)
    have n3 : decide (b ≤ 122) = true := decide_eq_true (by omega)
    have t4 : ((b : Int) == 95) = true := by rw [h]; rfl
    have n4 : decide (b = 95) = true := decide_eq_true (by omega)
    rw [n0, n1, n2, n3, n4]
    subst h
    go_enter Tryz.func44, Tryz.ntmps44
    go_wp2_with fail
    go_ret
    exact ⟨rfl, rfl⟩
  · have t0 : decide ((65 : Int) ≤ (b : Int)) = true := decide_eq_true (by omega)
    have n0 : decide (65 ≤ b) = true := decide_eq_true (by omega)
    have t1 : decide ((b : Int) ≤ 90) = false := decide_eq_false (by omega)
    have n1 : decide (b ≤ 90) = false := decide_eq_false (by omega)
    have t2 : decide ((97 : Int) ≤ (b : Int)) = true := decide_eq_true (by omega)
    have n2 : decide (97 ≤ b) = true := decide_eq_true (by omega)
    have t3 : decide ((b : Int) ≤ 122) = true := decide_eq_true (by omega)
    have n3 : decide (b ≤ 122) = true := decide_eq_true (by omega)
    have t4 : ((b : Int) == 95) = false := by exact beq_eq_false_iff_ne.2 (by omega)
    have n4 : decide (b = 95) = false := decide_eq_false (by omega)
    rw [n0, n1, n2, n3, n4]
    clear h
    go_enter Tryz.func44, Tryz.ntmps44
    go_wp2_with fail
    go_ret
    exact ⟨rfl, rfl⟩
  · have t0 : decide ((65 : Int) ≤ (b : Int)) = true := decide_eq_true (by omega)
    have n0 : decide (65 ≤ b) = true := decide_eq_true (by omega)
    have t1 : decide ((b : Int) ≤ 90) = false := decide_eq_false (by omega)
    have n1 : decide (b ≤ 90) = false := decide_eq_false (by omega)
    have t2 : decide ((97 : Int) ≤ (b : Int)) = true := decide_eq_true (by omega)
    have n2 : decide (97 ≤ b) = true := decide_eq_true (by omega)
    have t3 : decide ((b : Int) ≤ 122) = false := decide_eq_false (by omega)
    have n3 : decide (b ≤ 122) = false := decide_eq_false (by omega)
    have t4 : ((b : Int) == 95) = false := by exact beq_eq_false_iff_ne.2 (by omega)
    have n4 : decide (b = 95) = false := decide_eq_false (by omega)
    rw [n0, n1, n2, n3, n4]
    clear h
    go_enter Tryz.func44, Tryz.ntmps44
    go_wp2_with fail
    go_ret
    exact ⟨rfl, rfl⟩
theorem part_is (x : Nat) : ((((((letB x || decide (x = 95)) || digB x) || decide (x = 46)) || decide (x = 45)) || decide (x = 91)) || decide (x = 93)) = nmB x := by
  unfold nmB inL nmL
  simp only [ixF]
  generalize letB x = p
  generalize digB x = q
  by_cases h1 : (95 : Nat) = x
  · subst h1; simp
  · by_cases h2 : (46 : Nat) = x
    · subst h2; simp
    · by_cases h3 : (45 : Nat) = x
      · subst h3; simp
      · by_cases h4 : (91 : Nat) = x
        · subst h4; simp
        · by_cases h5 : (93 : Nat) = x
          · subst h5; simp
          · have a1 : ¬ x = 95 := fun e => h1 e.symm
            have a2 : ¬ x = 46 := fun e => h2 e.symm
            have a3 : ¬ x = 45 := fun e => h3 e.symm
            have a4 : ¬ x = 91 := fun e => h4 e.symm
            have a5 : ¬ x = 93 := fun e => h5 e.symm
            simp [h1, h2, h3, h4, h5, a1, a2, a3, a4, a5]
set_option maxRecDepth 100000 in
set_option maxHeartbeats 8000000 in
theorem rPart_any (b : Nat) (w : World) : Calls Tryz.prog 31 #[.int .u8 (b : Int)] w fun e w' => e = .returned (.bool (nmB b)) ∧ w' = w := by
  rw [← part_is]
  have HL := Hid.mk' (fun X => rLetter_any b X)
  have HD := Hid.mk' (fun X => rDigit_any b X)
  generalize (letB b || decide (b = 95)) = p at HL ⊢
  generalize digB b = q at HD ⊢
  cases p
  · cases q
    · rcases (show b = 46 ∨ b = 45 ∨ b = 91 ∨ b = 93 ∨ (b ≠ 46 ∧ b ≠ 45 ∧ b ≠ 91 ∧ b ≠ 93) by omega) with rfl | rfl | rfl | rfl | h
      · go_enter Tryz.func31, Tryz.ntmps31
        go_wp2_with fail
        refine (HL.out w).mono ?_
        rintro e w1 ⟨rfl, hw⟩
        have hw2 := hw.symm
        subst hw2
        clear hw
        go_wp2_with fail
        refine (HD.out w).mono ?_
        rintro e w1 ⟨rfl, hw⟩
        have hw2 := hw.symm
        subst hw2
        clear hw
        go_wp2_with fail
        go_ret
        exact ⟨rfl, rfl⟩
      · go_enter Tryz.func31, Tryz.ntmps31
        go_wp2_with fail
        refine (HL.out w).mono ?_
        rintro e w1 ⟨rfl, hw⟩
        have hw2 := hw.symm
        subst hw2
        clear hw
        go_wp2_with fail
        refine (HD.out w).mono ?_
        rintro e w1 ⟨rfl, hw⟩
        have hw2 := hw.symm
        subst hw2
        clear hw
        go_wp2_with fail
        go_ret
        exact ⟨rfl, rfl⟩
      · go_enter Tryz.func31, Tryz.ntmps31
        go_wp2_with fail
        refine (HL.out w).mono ?_
        rintro e w1 ⟨rfl, hw⟩
        have hw2 := hw.symm
        subst hw2
        clear hw
        go_wp2_with fail
        refine (HD.out w).mono ?_
        rintro e w1 ⟨rfl, hw⟩
        have hw2 := hw.symm
        subst hw2
        clear hw
        go_wp2_with fail
        go_ret
        exact ⟨rfl, rfl⟩
      · go_enter Tryz.func31, Tryz.ntmps31
        go_wp2_with fail
        refine (HL.out w).mono ?_
        rintro e w1 ⟨rfl, hw⟩
        have hw2 := hw.symm
        subst hw2
        clear hw
        go_wp2_with fail
        refine (HD.out w).mono ?_
        rintro e w1 ⟨rfl, hw⟩
        have hw2 := hw.symm
        subst hw2
        clear hw
        go_wp2_with fail
        go_ret
        exact ⟨rfl, rfl⟩
      · obtain ⟨h1, h2, h3, h4⟩ := h
        have e1 : ((b : Int) == 46) = false := beq_eq_false_iff_ne.2 (by omega)
        have e2 : ((b : Int) == 45) = false := beq_eq_false_iff_ne.2 (by omega)
        have e3 : ((b : Int) == 91) = false := beq_eq_false_iff_ne.2 (by omega)
        have e4 : ((b : Int) == 93) = false := beq_eq_false_iff_ne.2 (by omega)
        rw [decide_eq_false h1, decide_eq_false h2, decide_eq_false h3, decide_eq_false h4]
        clear h1 h2 h3 h4
        go_enter Tryz.func31, Tryz.ntmps31
        go_wp2_with fail
        refine (HL.out w).mono ?_
        rintro e w1 ⟨rfl, hw⟩
        have hw2 := hw.symm
        subst hw2
        clear hw
        go_wp2_with fail
        refine (HD.out w).mono ?_
        rintro e w1 ⟨rfl, hw⟩
        have hw2 := hw.symm
        subst hw2
        clear hw
        go_wp2_with fail
        go_ret
        exact ⟨rfl, rfl⟩
    · have e : ((((((false || true)) || decide (b = 46)) || decide (b = 45)) || decide (b = 91)) || decide (b = 93)) = true := by simp
      rw [e]
      clear e
      go_enter Tryz.func31, Tryz.ntmps31
      go_wp2_with fail
      refine (HL.out w).mono ?_
      rintro e w1 ⟨rfl, hw⟩
      have hw2 := hw.symm
      subst hw2
      clear hw
      go_wp2_with fail
      refine (HD.out w).mono ?_
      rintro e w1 ⟨rfl, hw⟩
      have hw2 := hw.symm
      subst hw2
      clear hw
      go_wp2_with fail
      go_ret
      exact ⟨rfl, rfl⟩
  · have e : ((((((true || q)) || decide (b = 46)) || decide (b = 45)) || decide (b = 91)) || decide (b = 93)) = true := by simp
    rw [e]
    clear e
    go_enter Tryz.func31, Tryz.ntmps31
    go_wp2_with fail
    refine (HL.out w).mono ?_
    rintro e w1 ⟨rfl, hw⟩
    have hw2 := hw.symm
    subst hw2
    clear hw
    go_wp2_with fail
    refine (HD.out w).mono ?_
    rintro e w1 ⟨rfl, hw⟩
    have hw2 := hw.symm
    subst hw2
    clear hw
    go_wp2_with fail
    go_ret
    exact ⟨rfl, rfl⟩
set_option maxRecDepth 100000 in
set_option maxHeartbeats 8000000 in
theorem rName_any (S : ByteArray) (w : World) (hS : S.size ≤ 281474976710656) : Calls Tryz.prog 22 #[.string S] w fun e w' => e = .returned (.bool (nameF (Sums.bl S))) ∧ w' = w := by
  have hSI : (S.size : Int) ≤ 281474976710656 := by omega
  obtain ⟨N, hN⟩ : ∃ N, rwS nmB (Sums.bl S) = N := ⟨_, rfl⟩
  have HF : Hid (nameF (Sums.bl S) = (decide (0 < S.size) && (decide (S.size ≤ 64) && (hdB (Sums.bl S) && decide (N = S.size))))) := Hid.mk' (by unfold nameF; rw [hN, Sums.bl_length])
  have HN := Hid.mk' hN
  obtain ⟨r, hr⟩ : ∃ r, nameF (Sums.bl S) = r := ⟨_, rfl⟩
  rw [hr] at HF ⊢
  clear hS hN hr
  go_enter Tryz.func22, Tryz.ntmps22
  go_wp2_with fail
  go_loopw [3] (fun iv wr => ∃ i : Nat, iv = .int .i64 (i : Int) ∧ i ≤ S.size ∧ Hid (i + rwS nmB ((Sums.bl S).drop i) = N) ∧ Hid (wr = w)) (fun iv _ => S.size - (intOf iv).toNat)
  case atStart => exact ⟨0, by simp, by omega, Hid.mk' (by rw [Nat.zero_add]; exact HN.out), rfl⟩
  case round =>
    obtain ⟨i, rfl, hi, HI, HW⟩ := hrel
    rename World => wr
    clear HN
    by_cases hlt : i < S.size
    · have hiI : (i : Int) < (S.size : Int) := by omega
      obtain ⟨c, rest, hd⟩ : ∃ c rest, (Sums.bl S).drop i = c :: rest := by
        cases hd : (Sums.bl S).drop i with
        | nil => have := ob_nil S i (by omega) hd; omega
        | cons c rest => exact ⟨c, rest, rfl⟩
      have hidx := ob_idx S i c rest hd
      obtain ⟨_, _, hd1⟩ := ob_facts S i c rest hd
      have HP := Hid.mk' (rPart_any c wr)
      have hI := HI.out
      rw [hd, rwS] at hI
      obtain ⟨z, hz⟩ : ∃ z, nmB c = z := ⟨_, rfl⟩
      rw [hz] at HP hI
      clear hd HI hz
      go_wp2_with fail
      refine HP.out.mono ?_
      rintro e w1 ⟨rfl, hw⟩
      have hw2 := hw.symm
      subst hw2
      clear hw HP
      cases z
      · have hN : i = N := by simpa using hI
        have hrf : r = false := by
          rw [HF.out, decide_eq_false (show ¬ N = S.size by omega)]
          simp
        subst hrf
        clear hI HF
        simp only [Bool.not_false]
        go_wp2_with fail
        go_ret
        exact ⟨rfl, HW.out⟩
      · have HI2 : Hid (i + 1 + rwS nmB ((Sums.bl S).drop (i + 1)) = N) := Hid.mk' (by rw [hd1]; simp at hI; omega)
        clear hI
        simp only [Bool.not_true]
        go_wp2_with fail
        go_roundw
        case rel => exact ⟨i + 1, by simp, by omega, HI2, HW⟩
        case measure => simp [intOf]; omega
    · obtain rfl : i = S.size := by omega
      have hI := HI.out
      rw [List.drop_eq_nil_of_le (by rw [Sums.bl_length]; omega), rwS, Nat.add_zero] at hI
      have hF := HF.out
      rw [decide_eq_true hI.symm, Bool.and_true] at hF
      clear HI HF hI
      by_cases h0 : S.size = 0
      · have d1 : decide ((1 : Int) ≤ (S.size : Int)) = false := decide_eq_false (by omega)
        have d2 : decide (1 ≤ S.size) = false := decide_eq_false (by omega)
        rw [decide_eq_false (show ¬ 0 < S.size by omega), Bool.false_and] at hF
        subst hF
        clear h0
        go_wp2_with fail
        go_ret
        exact ⟨rfl, HW.out⟩
      · have d1 : decide ((1 : Int) ≤ (S.size : Int)) = true := decide_eq_true (by omega)
        have d2 : decide (1 ≤ S.size) = true := decide_eq_true (by omega)
        rw [decide_eq_true (show 0 < S.size by omega), Bool.true_and] at hF
        by_cases h64 : S.size ≤ 64
        · have d3 : decide ((S.size : Int) ≤ 64) = true := decide_eq_true (by omega)
          have d4 : decide (S.size ≤ 64) = true := decide_eq_true h64
          rw [d4, Bool.true_and] at hF
          obtain ⟨c, rest, hd⟩ : ∃ c rest, Sums.bl S = c :: rest := by
            cases hd : Sums.bl S with
            | nil => have := Sums.bl_length S; rw [hd] at this; simp at this; omega
            | cons c rest => exact ⟨c, rest, rfl⟩
          have hidx : ∀ W, (Instr.index 9 (.string S) (.int .i64 0)).run Tryz.prog W = .ok (.int .u8 (c : Int)) W := fun W => ob_idx S 0 c rest hd W
          have HL := Hid.mk' (rLetter_any c wr)
          rw [hd] at hF
          have hF2 : r = (letB c || decide (c = 95)) := hF
          rw [← hF2] at HL
          have h1I : (1 : Int) ≤ (S.size : Int) := by omega
          clear hF hF2 hd h0 h64
          go_wp2_with fail
          refine HL.out.mono ?_
          rintro e w1 ⟨rfl, hw⟩
          have hw2 := hw.symm
          subst hw2
          clear hw HL
          go_wp2_with fail
          go_ret
          exact ⟨rfl, HW.out⟩
        · have d3 : decide ((S.size : Int) ≤ 64) = false := decide_eq_false (by omega)
          have d4 : decide (S.size ≤ 64) = false := decide_eq_false h64
          rw [d4, Bool.false_and] at hF
          subst hF
          clear h0 h64
          go_wp2_with fail
          go_ret
          exact ⟨rfl, HW.out⟩
set_option maxRecDepth 100000 in
set_option maxHeartbeats 8000000 in
theorem rDigits_any (S : ByteArray) (a : Nat) (w : World) (hS : S.size ≤ 281474976710656) (ha : a ≤ S.size + 1) : Calls Tryz.prog 37 #[.string S, .int .i64 (a : Int)] w fun e w' => e = .returned (.int .i64 ((rwS digB ((Sums.bl S).drop a) : Nat) : Int)) ∧ w' = w := by
  have hSI : (S.size : Int) ≤ 281474976710656 := by omega
  obtain ⟨N, hN⟩ : ∃ N, rwS digB ((Sums.bl S).drop a) = N := ⟨_, rfl⟩
  rw [hN]
  have HN := Hid.mk' hN
  clear hS hN
  go_enter Tryz.func37, Tryz.ntmps37
  go_wp2_with fail
  go_loopw [5] (fun iv wr => ∃ i : Nat, iv = .int .i64 (i : Int) ∧ a + i ≤ S.size + 1 ∧ Hid (i + rwS digB ((Sums.bl S).drop (a + i)) = N) ∧ Hid (wr = w)) (fun iv _ => S.size + 1 - (intOf iv).toNat)
  case atStart => exact ⟨0, by simp, by omega, Hid.mk' (by rw [Nat.zero_add]; exact HN.out), rfl⟩
  case round =>
    obtain ⟨i, rfl, hi, HI, HW⟩ := hrel
    rename World => wr
    clear HN
    by_cases hlt : a + i < S.size
    · have hiI : (a : Int) + (i : Int) < (S.size : Int) := by omega
      have d1 : decide ((a : Int) + (i : Int) < (S.size : Int)) = true := decide_eq_true hiI
      obtain ⟨c, rest, hd⟩ : ∃ c rest, (Sums.bl S).drop (a + i) = c :: rest := by
        cases hd : (Sums.bl S).drop (a + i) with
        | nil => have := ob_nil S (a + i) (by omega) hd; omega
        | cons c rest => exact ⟨c, rest, rfl⟩
      have hidx := ob_idx S (a + i) c rest hd
      have hc1 : ((a + i : Nat) : Int) = (a : Int) + (i : Int) := by omega
      rw [hc1] at hidx
      obtain ⟨_, _, hd1⟩ := ob_facts S (a + i) c rest hd
      have HP := Hid.mk' (rDigit_any c wr)
      have hI := HI.out
      rw [hd, rwS] at hI
      obtain ⟨z, hz⟩ : ∃ z, digB c = z := ⟨_, rfl⟩
      rw [hz] at HP hI
      clear hd HI hz hc1
      go_wp2_with fail
      refine HP.out.mono ?_
      rintro e w1 ⟨rfl, hw⟩
      have hw2 := hw.symm
      subst hw2
      clear hw HP
      cases z
      · have hN : i = N := by simpa using hI
        subst hN
        clear hI
        go_wp2_with fail
        go_ret
        exact ⟨rfl, HW.out⟩
      · have HI2 : Hid (i + 1 + rwS digB ((Sums.bl S).drop (a + (i + 1))) = N) := Hid.mk' (by rw [← Nat.add_assoc, hd1]; simp at hI; omega)
        clear hI
        go_wp2_with fail
        go_roundw
        case rel => exact ⟨i + 1, by simp, by omega, HI2, HW⟩
        case measure => simp [intOf]; omega
    · have d1 : decide ((a : Int) + (i : Int) < (S.size : Int)) = false := decide_eq_false (by omega)
      have d2 : ¬ (a : Int) + (i : Int) < (S.size : Int) := by omega
      have hI := HI.out
      rw [List.drop_eq_nil_of_le (by rw [Sums.bl_length]; omega), rwS, Nat.add_zero] at hI
      subst hI
      clear HI
      go_wp2_with fail
      go_ret
      exact ⟨rfl, HW.out⟩
end Go.Proofs.YtacbmpjpindepaaGreatDoor
