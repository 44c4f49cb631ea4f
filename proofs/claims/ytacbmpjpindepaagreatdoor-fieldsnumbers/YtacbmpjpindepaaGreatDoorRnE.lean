/-
  The document's own Show: any number. Conditions: an int.
-/
import Derived.Test.YtacbmpjpindepaaGreatDoorRnD
namespace Go.Proofs.YtacbmpjpindepaaGreatDoor
open Go.RowKit
set_option linter.unusedVariables false
set_option linter.unusedSimpArgs false
/-- the digits of a rest of thousandths, without the noughts behind -/
def rs3 (n : Nat) : List Nat := (tlP (n / 100) (n / 10 % 10) (n % 10)).drop 1
theorem rs3_zero : rs3 0 = [] := rfl
theorem rs3_len (n : Nat) : (rs3 n).length ≤ 3 := by
  unfold rs3 tlP
  split
  · simp
  · split
    · simp
    · split <;> simp
theorem rs3_step (n : Nat) (h0 : 0 < n) (h : n < 1000) : rs3 n = dec (n / 100) ++ rs3 (n % 100 * 10) := by
  have e1 : n % 100 * 10 / 100 = n / 10 % 10 := by omega
  have e2 : n % 100 * 10 / 10 % 10 = n % 10 := by omega
  have e3 : n % 100 * 10 % 10 = 0 := by omega
  rw [dec_small (n / 100) (by omega)]
  unfold rs3
  rw [e1, e2, e3]
  obtain ⟨a, ha⟩ : ∃ a, n / 100 = a := ⟨_, rfl⟩
  obtain ⟨b, hb⟩ : ∃ b, n / 10 % 10 = b := ⟨_, rfl⟩
  obtain ⟨c, hc⟩ : ∃ c, n % 10 = c := ⟨_, rfl⟩
  have hn : a = 0 → b = 0 → c = 0 → False := by omega
  rw [ha, hb, hc]
  clear e1 e2 e3 ha hb hc
  unfold tlP
  by_cases h1 : c = 0
  · subst h1
    by_cases h2 : b = 0
    · subst h2
      have h3 : a ≠ 0 := fun h => hn h rfl rfl
      simp [h3]
    · simp [h2]
  · simp [h1]
theorem shP_rs (m r : Nat) (h : m % 1000 = r) (h0 : 0 < r) : shP m = 46 :: rs3 r := by
  rw [shP_is, h]
  unfold rs3
  have hr : r < 1000 := by omega
  obtain ⟨a, ha⟩ : ∃ a, r / 100 = a := ⟨_, rfl⟩
  obtain ⟨b, hb⟩ : ∃ b, r / 10 % 10 = b := ⟨_, rfl⟩
  obtain ⟨c, hc⟩ : ∃ c, r % 10 = c := ⟨_, rfl⟩
  have hn : a = 0 → b = 0 → c = 0 → False := by omega
  rw [ha, hb, hc]
  clear ha hb hc
  unfold tlP
  by_cases h1 : c = 0
  · subst h1
    by_cases h2 : b = 0
    · subst h2
      have h3 : a ≠ 0 := fun h => hn h rfl rfl
      simp [h3]
    · simp [h2]
  · simp [h1]
theorem shP_nil (m : Nat) (h : m % 1000 = 0) : shP m = [] := by
  rw [shP_is, h]
  rfl
theorem bl_46 (B : ByteArray) : Sums.bl (B ++ ⟨#[46]⟩) = Sums.bl B ++ [46] := by
  rw [Sums.bl_append]
  rfl
theorem bl_45 (B : ByteArray) : Sums.bl ((⟨#[45]⟩ : ByteArray) ++ B) = 45 :: Sums.bl B := by
  rw [Sums.bl_append]
  rfl
theorem bl_none (B : ByteArray) : (⟨#[]⟩ : ByteArray) ++ B = B := by
  apply Sums.bl_inj
  rw [Sums.bl_append]
  rfl
set_option maxRecDepth 100000 in
set_option maxHeartbeats 8000000 in
theorem rShow_pos (m : Nat) (w : World) (hmb : m ≤ 999999999999) : Calls Tryz.prog 20 #[.int .i64 ((m : Int))] w fun e w' => (∃ R, Sums.bl R = shU m ∧ e = .returned (.string R)) ∧ Below w.heap.size w w' := by
  have t1 : decide (((m : Int)) < -999999999999) = false := decide_eq_false (by omega)
  have t2 : decide (999999999999 < ((m : Int))) = false := decide_eq_false (by omega)
  have t3 : decide (((m : Int)) < 0) = false := decide_eq_false (by omega)
  have t4 : - -(m : Int) = (m : Int) := by omega
  have t5 : IntKind.i64.wrap (m : Int) = (m : Int) := by rw [IntKind.wrap_i64]; omega
  obtain ⟨u, hu⟩ : ∃ u, m % 1000 = u := ⟨_, rfl⟩
  have huI : ((m : Int) % 1000) = (u : Int) := by omega
  obtain ⟨x, hx⟩ : ∃ x, m / 1000 = x := ⟨_, rfl⟩
  have hxI : ((m : Int) / 1000) = (x : Int) := by omega
  have hub : u < 1000 := by omega
  have hxb : x ≤ 999999999 := by omega
  have HX := Hid.mk' (rDecimal_any (x + 1) x (by omega) (by omega))
  have hm1 : (m : Int).tmod 1000 = (m : Int) % 1000 := Int.tmod_eq_emod_of_nonneg (by omega)
  have hm2 : (m : Int).tdiv 1000 = (m : Int) / 1000 := Int.tdiv_eq_ediv_of_nonneg (by omega)
  have hwx : IntKind.i64.wrap (x : Int) = (x : Int) := by rw [IntKind.wrap_i64]; omega
  have hS : Sums.bl (nums (dec x)) = dec x := bl_nums _ (dec_byt x)
  have hSs : (nums (dec x)).size ≤ 15 := by rw [nums_size]; exact dec_short x (by omega)
  have hSU : shU m = dec x ++ shP m := by unfold shU; rw [hx]
  rw [hSU, ← hS]
  clear hSU hS
  generalize nums (dec x) = T at HX hSs ⊢
  by_cases hz : u = 0
  · rw [shP_nil m (by omega), List.append_nil]
    subst hz
    clear hu hx
    have z1 : ((0 : Nat) : Int) = 0 := rfl
    rw [z1] at huI
    go_enter Tryz.func20, Tryz.ntmps20
    go_wp2_with fail
    refine (HX.out _).mono ?_
    rintro e w1 ⟨rfl, hb1⟩
    have HB := Hid.mk' hb1
    clear hb1 HX
    go_wp2_with fail
    go_ret
    exact ⟨⟨_, by simp [bl_none], rfl⟩, HB.out⟩
  · have hu0 : 0 < u := by omega
    rw [shP_rs m u hu hu0]
    have z1 : ((u : Int) == 0) = false := beq_eq_false_iff_ne.2 (by omega)
    have z2 : (u == 0) = false := beq_eq_false_iff_ne.2 (by omega)
    have z3 : ¬ u = 0 := by omega
    have HF : Hid (∀ B : ByteArray, B = T ++ ⟨#[46]⟩ → Sums.bl B ++ rs3 u = (Sums.bl T ++ 46 :: rs3 u)) := Hid.mk' (fun B hB => by
      rw [hB, bl_46]
      simp)
    obtain ⟨F, hF⟩ : ∃ F, (Sums.bl T ++ 46 :: rs3 u) = F := ⟨_, rfl⟩
    have hFl : F.length ≤ 30 := by
      have := rs3_len u
      have h2 := Sums.bl_length T
      rw [← hF]
      simp
      omega
    rw [hF] at HF ⊢
    clear hF hu hx hz
    go_enter Tryz.func20, Tryz.ntmps20
    go_wp2_with fail
    refine (HX.out _).mono ?_
    rintro e w1 ⟨rfl, hb1⟩
    have HB1 := Hid.mk' hb1
    clear hb1 HX
    go_wp2_with fail
    go_loopw [0, 3] (fun nv sv wr => ∃ (n : Nat) (B : ByteArray), nv = .int .i64 (n : Int) ∧ sv = .string B ∧ n < 1000 ∧ Hid (Sums.bl B ++ rs3 n = F) ∧ Hid (Below w.heap.size w wr)) (fun nv _ _ => (rs3 (intOf nv).toNat).length)
    case atStart => exact ⟨u, _, rfl, rfl, hub, Hid.mk' (HF.out _ (by simp [bl_none])), HB1⟩
    case round =>
      obtain ⟨n, B, rfl, rfl, hn, HN, HB⟩ := hrel
      rename World => wr
      clear HB1 HF t1 t2 t3 t4 t5 huI hxI hm1 hm2 hwx
      have hBs : B.size ≤ 30 := by
        have h := congrArg List.length HN.out
        rw [List.length_append, Sums.bl_length] at h
        omega
      by_cases h0 : n = 0
      · subst h0
        have hF := HN.out
        rw [rs3_zero, List.append_nil] at hF
        have HF := Hid.mk' hF
        clear HN hF
        go_wp2_with fail
        go_ret
        exact ⟨⟨_, HF.out, rfl⟩, HB.out⟩
      · have n1 : decide (0 < (n : Int)) = true := decide_eq_true (by omega)
        have n2 : decide (0 < n) = true := decide_eq_true (by omega)
        have n3 : 0 < n := by omega
        have n4 : (0 : Int) < (n : Int) := by omega
        have hst := rs3_step n n3 hn
        obtain ⟨d, hd⟩ : ∃ d, n / 100 = d := ⟨_, rfl⟩
        have hdI : (n : Int) / 100 = (d : Int) := by omega
        obtain ⟨q, hq⟩ : ∃ q, n % 100 = q := ⟨_, rfl⟩
        have hqI : (n : Int) % 100 = (q : Int) := by omega
        have hq1 : q < 100 := by omega
        have k1 : (n : Int).tmod 100 = (n : Int) % 100 := Int.tmod_eq_emod_of_nonneg (by omega)
        have k2 : (n : Int).tdiv 100 = (n : Int) / 100 := Int.tdiv_eq_ediv_of_nonneg (by omega)
        have k3 : IntKind.i64.wrap (d : Int) = (d : Int) := by rw [IntKind.wrap_i64]; omega
        have k4 : IntKind.i64.wrap (q : Int) = (q : Int) := by rw [IntKind.wrap_i64]; omega
        have k5 : IntKind.i64.wrap ((q : Int) * 10) = (q : Int) * 10 := by rw [IntKind.wrap_i64]; omega
        have HD := Hid.mk' (rDecimal_any (d + 1) d (by omega) (by omega))
        rw [hd, hq] at hst
        have hds : (nums (dec d)).size ≤ 15 := by rw [nums_size]; exact dec_short d (by omega)
        have hMs : (rs3 (q * 10)).length < (rs3 n).length := by
          rw [hst, List.length_append, dec_small d (by omega)]
          simp
        have HN2 : Hid (Sums.bl (B ++ nums (dec d)) ++ rs3 (q * 10) = F) := Hid.mk' (by
          rw [Sums.bl_append, bl_nums _ (dec_byt d), List.append_assoc, ← hst]
          exact HN.out)
        clear hst hd hq h0 HN
        generalize nums (dec d) = D at HD HN2 hds
        go_wp2_with fail
        refine (HD.out _).mono ?_
        rintro e w3 ⟨rfl, hb3⟩
        have HB2 := Hid.mk' (bel_up HB.out hb3)
        clear hb3 HB HD
        go_wp2_with fail
        go_roundw
        case rel => exact ⟨q * 10, B ++ D, by go_num, rfl, by omega, HN2, HB2⟩
        case measure =>
          have e9 : (intOf (.int .i64 ((q : Int) * 10))).toNat = q * 10 := by simp [intOf]; omega
          have e8 : (intOf (.int .i64 (n : Int))).toNat = n := by simp [intOf]
          first
          | (rw [e9, e8]; exact hMs)
          | (simp only [e9, e8]; exact hMs)
          | (simp [intOf] at hMs ⊢; omega)
set_option maxRecDepth 100000 in
set_option maxHeartbeats 8000000 in
theorem rShow_neg (m : Nat) (w : World) (hmb : m ≤ 999999999999) (hm0 : 0 < m) : Calls Tryz.prog 20 #[.int .i64 (-(m : Int))] w fun e w' => (∃ R, Sums.bl R = 45 :: shU m ∧ e = .returned (.string R)) ∧ Below w.heap.size w w' := by
  have t1 : decide ((-(m : Int)) < -999999999999) = false := decide_eq_false (by omega)
  have t2 : decide (999999999999 < (-(m : Int))) = false := decide_eq_false (by omega)
  have t3 : decide ((-(m : Int)) < 0) = true := decide_eq_true (by omega)
  have t4 : - -(m : Int) = (m : Int) := by omega
  have t5 : IntKind.i64.wrap (m : Int) = (m : Int) := by rw [IntKind.wrap_i64]; omega
  obtain ⟨u, hu⟩ : ∃ u, m % 1000 = u := ⟨_, rfl⟩
  have huI : ((m : Int) % 1000) = (u : Int) := by omega
  obtain ⟨x, hx⟩ : ∃ x, m / 1000 = x := ⟨_, rfl⟩
  have hxI : ((m : Int) / 1000) = (x : Int) := by omega
  have hub : u < 1000 := by omega
  have hxb : x ≤ 999999999 := by omega
  have HX := Hid.mk' (rDecimal_any (x + 1) x (by omega) (by omega))
  have hm1 : (m : Int).tmod 1000 = (m : Int) % 1000 := Int.tmod_eq_emod_of_nonneg (by omega)
  have hm2 : (m : Int).tdiv 1000 = (m : Int) / 1000 := Int.tdiv_eq_ediv_of_nonneg (by omega)
  have hwx : IntKind.i64.wrap (x : Int) = (x : Int) := by rw [IntKind.wrap_i64]; omega
  have hS : Sums.bl (nums (dec x)) = dec x := bl_nums _ (dec_byt x)
  have hSs : (nums (dec x)).size ≤ 15 := by rw [nums_size]; exact dec_short x (by omega)
  have hSU : shU m = dec x ++ shP m := by unfold shU; rw [hx]
  rw [hSU, ← hS]
  clear hSU hS
  generalize nums (dec x) = T at HX hSs ⊢
  by_cases hz : u = 0
  · rw [shP_nil m (by omega), List.append_nil]
    subst hz
    clear hu hx
    have z1 : ((0 : Nat) : Int) = 0 := rfl
    rw [z1] at huI
    go_enter Tryz.func20, Tryz.ntmps20
    go_wp2_with fail
    refine (HX.out _).mono ?_
    rintro e w1 ⟨rfl, hb1⟩
    have HB := Hid.mk' hb1
    clear hb1 HX
    go_wp2_with fail
    go_ret
    exact ⟨⟨_, bl_45 T, rfl⟩, HB.out⟩
  · have hu0 : 0 < u := by omega
    rw [shP_rs m u hu hu0]
    have z1 : ((u : Int) == 0) = false := beq_eq_false_iff_ne.2 (by omega)
    have z2 : (u == 0) = false := beq_eq_false_iff_ne.2 (by omega)
    have z3 : ¬ u = 0 := by omega
    have HF : Hid (∀ B : ByteArray, B = ((⟨#[45]⟩ : ByteArray) ++ T) ++ ⟨#[46]⟩ → Sums.bl B ++ rs3 u = 45 :: (Sums.bl T ++ 46 :: rs3 u)) := Hid.mk' (fun B hB => by
      rw [hB, bl_46, bl_45]
      simp)
    obtain ⟨F, hF⟩ : ∃ F, 45 :: (Sums.bl T ++ 46 :: rs3 u) = F := ⟨_, rfl⟩
    have hFl : F.length ≤ 30 := by
      have := rs3_len u
      have h2 := Sums.bl_length T
      rw [← hF]
      simp
      omega
    rw [hF] at HF ⊢
    clear hF hu hx hz
    go_enter Tryz.func20, Tryz.ntmps20
    go_wp2_with fail
    refine (HX.out _).mono ?_
    rintro e w1 ⟨rfl, hb1⟩
    have HB1 := Hid.mk' hb1
    clear hb1 HX
    go_wp2_with fail
    go_loopw [0, 3] (fun nv sv wr => ∃ (n : Nat) (B : ByteArray), nv = .int .i64 (n : Int) ∧ sv = .string B ∧ n < 1000 ∧ Hid (Sums.bl B ++ rs3 n = F) ∧ Hid (Below w.heap.size w wr)) (fun nv _ _ => (rs3 (intOf nv).toNat).length)
    case atStart => exact ⟨u, _, rfl, rfl, hub, Hid.mk' (HF.out _ rfl), HB1⟩
    case round =>
      obtain ⟨n, B, rfl, rfl, hn, HN, HB⟩ := hrel
      rename World => wr
      clear HB1 HF t1 t2 t3 t4 t5 huI hxI hm1 hm2 hwx
      have hBs : B.size ≤ 30 := by
        have h := congrArg List.length HN.out
        rw [List.length_append, Sums.bl_length] at h
        omega
      by_cases h0 : n = 0
      · subst h0
        have hF := HN.out
        rw [rs3_zero, List.append_nil] at hF
        have HF := Hid.mk' hF
        clear HN hF
        go_wp2_with fail
        go_ret
        exact ⟨⟨_, HF.out, rfl⟩, HB.out⟩
      · have n1 : decide (0 < (n : Int)) = true := decide_eq_true (by omega)
        have n2 : decide (0 < n) = true := decide_eq_true (by omega)
        have n3 : 0 < n := by omega
        have n4 : (0 : Int) < (n : Int) := by omega
        have hst := rs3_step n n3 hn
        obtain ⟨d, hd⟩ : ∃ d, n / 100 = d := ⟨_, rfl⟩
        have hdI : (n : Int) / 100 = (d : Int) := by omega
        obtain ⟨q, hq⟩ : ∃ q, n % 100 = q := ⟨_, rfl⟩
        have hqI : (n : Int) % 100 = (q : Int) := by omega
        have hq1 : q < 100 := by omega
        have k1 : (n : Int).tmod 100 = (n : Int) % 100 := Int.tmod_eq_emod_of_nonneg (by omega)
        have k2 : (n : Int).tdiv 100 = (n : Int) / 100 := Int.tdiv_eq_ediv_of_nonneg (by omega)
        have k3 : IntKind.i64.wrap (d : Int) = (d : Int) := by rw [IntKind.wrap_i64]; omega
        have k4 : IntKind.i64.wrap (q : Int) = (q : Int) := by rw [IntKind.wrap_i64]; omega
        have k5 : IntKind.i64.wrap ((q : Int) * 10) = (q : Int) * 10 := by rw [IntKind.wrap_i64]; omega
        have HD := Hid.mk' (rDecimal_any (d + 1) d (by omega) (by omega))
        rw [hd, hq] at hst
        have hds : (nums (dec d)).size ≤ 15 := by rw [nums_size]; exact dec_short d (by omega)
        have hMs : (rs3 (q * 10)).length < (rs3 n).length := by
          rw [hst, List.length_append, dec_small d (by omega)]
          simp
        have HN2 : Hid (Sums.bl (B ++ nums (dec d)) ++ rs3 (q * 10) = F) := Hid.mk' (by
          rw [Sums.bl_append, bl_nums _ (dec_byt d), List.append_assoc, ← hst]
          exact HN.out)
        clear hst hd hq h0 HN
        generalize nums (dec d) = D at HD HN2 hds
        go_wp2_with fail
        refine (HD.out _).mono ?_
        rintro e w3 ⟨rfl, hb3⟩
        have HB2 := Hid.mk' (bel_up HB.out hb3)
        clear hb3 HB HD
        go_wp2_with fail
        go_roundw
        case rel => exact ⟨q * 10, B ++ D, by go_num, rfl, by omega, HN2, HB2⟩
        case measure =>
          have e9 : (intOf (.int .i64 ((q : Int) * 10))).toNat = q * 10 := by simp [intOf]; omega
          have e8 : (intOf (.int .i64 (n : Int))).toNat = n := by simp [intOf]
          first
          | (rw [e9, e8]; exact hMs)
          | (simp only [e9, e8]; exact hMs)
          | (simp [intOf] at hMs ⊢; omega)
set_option maxRecDepth 100000 in
set_option maxHeartbeats 8000000 in
theorem rShow_any (n : Int) (w : World) (h0 : -9223372036854775808 ≤ n) (h1 : n ≤ 9223372036854775807) : Calls Tryz.prog 20 #[.int .i64 n] w fun e w' => (∃ R, Sums.bl R = shF n ∧ e = .returned (.string R)) ∧ Below w.heap.size w w' := by
  unfold shF
  by_cases ha : n < -999999999999
  · rw [if_pos ha]
    have t1 : decide (n < -999999999999) = true := decide_eq_true ha
    go_enter Tryz.func20, Tryz.ntmps20
    go_wp2_with fail
    go_ret
    exact ⟨⟨_, rfl, rfl⟩, Below.refl _ _⟩
  · rw [if_neg ha]
    have t1 : decide (n < -999999999999) = false := decide_eq_false ha
    by_cases hb : 999999999999 < n
    · rw [if_pos hb]
      have t2 : decide (999999999999 < n) = true := decide_eq_true hb
      go_enter Tryz.func20, Tryz.ntmps20
      go_wp2_with fail
      go_ret
      exact ⟨⟨_, rfl, rfl⟩, Below.refl _ _⟩
    · rw [if_neg hb]
      by_cases hc : n < 0
      · rw [if_pos hc]
        obtain ⟨m, hm⟩ : ∃ m, n.natAbs = m := ⟨_, rfl⟩
        obtain rfl : n = -(m : Int) := by omega
        rw [hm]
        exact rShow_neg m w (by omega) (by omega)
      · rw [if_neg hc]
        obtain ⟨m, hm⟩ : ∃ m, n.natAbs = m := ⟨_, rfl⟩
        obtain rfl : n = (m : Int) := by omega
        rw [hm]
        exact rShow_pos m w (by omega)
end Go.Proofs.YtacbmpjpindepaaGreatDoor
