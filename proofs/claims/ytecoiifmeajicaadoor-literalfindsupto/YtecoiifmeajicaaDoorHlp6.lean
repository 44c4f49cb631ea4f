/-
  What the laws' pattern, pick, may, small and stands do. Conditions: as each says.
-/
import Derived.Test.YtecoiifmeajicaaDoorCmp
namespace Go.Proofs.YtecoiifmeajicaaDoor
open Go.RowKit
set_option linter.unusedVariables false
def patP (raw : ByteArray) : ByteArray := if raw.size = 0 then ⟨#[97]⟩ else if 256 < raw.size then raw.extract 0 256 else raw
theorem patP_ok (raw : ByteArray) : isP (patP raw).size = true := by
  unfold patP
  by_cases h0 : raw.size = 0
  · rw [if_pos h0]; rfl
  · rw [if_neg h0]
    by_cases h1 : 256 < raw.size
    · rw [if_pos h1, ByteArray.size_extract]; exact isP_yes _ (by omega) (by omega)
    · rw [if_neg h1]; exact isP_yes _ (by omega) (by omega)
theorem pattern_any (raw : ByteArray) (w : World) (hs : raw.size ≤ 1125899906842624) :
    Calls Tryd.prog 22 #[.string raw] w fun e w' => e = .returned (.string (patP raw)) ∧ w' = w := by
  by_cases h0 : raw.size = 0
  · obtain rfl := empty_of_size h0
    go_enter Tryd.func22, Tryd.ntmps22
    go_wp2_with fail
    go_ret
    exact ⟨rfl, rfl⟩
  · have he : (raw.toList == []) = false := by
      rw [beq_eq_false_iff_ne]
      intro e
      rw [ByteArray.toList_eq] at e
      apply h0
      show raw.data.size = 0
      rw [← Array.length_toList, e]
      rfl
    by_cases h1 : 256 < raw.size
    · have HV : Hid (patP raw = raw.extract 0 256) := by show _ = _; unfold patP; rw [if_neg h0, if_pos h1]
      have d1 : decide ((256 : Int) < (raw.size : Int)) = true := decide_eq_true (by omega)
      have e1 : (256 : Int) < (raw.size : Int) := by omega
      have e2 : (256 : Int) ≤ (raw.size : Int) := by omega
      have hsl : ∀ W, (Instr.slice 9 (.string raw) none (some (.int .i64 256)) none).run Tryd.prog W = .ok (.string (raw.extract 0 256)) W := fun W => by
        simp [go_sem, e2, Instr.slice]
      clear h0 h1
      go_enter Tryd.func22, Tryd.ntmps22
      go_wp2_with fail
      go_ret
      exact ⟨by rw [HV.out]; rfl, rfl⟩
    · have HV : Hid (patP raw = raw) := by show _ = _; unfold patP; rw [if_neg h0, if_neg h1]
      have d1 : decide ((256 : Int) < (raw.size : Int)) = false := decide_eq_false (by omega)
      have e1 : ¬ (256 : Int) < (raw.size : Int) := by omega
      clear h0 h1
      go_enter Tryd.func22, Tryd.ntmps22
      go_wp2_with fail
      go_ret
      exact ⟨by rw [HV.out]; rfl, rfl⟩
def pk6 (c : Int) : Int := (if c < 0 then -(c + 1) else c) % 6
theorem pk6_bd (c : Int) : 0 ≤ pk6 c ∧ pk6 c ≤ 5 := by unfold pk6; omega
theorem pick6_any (c : Int) (w : World) (h1 : -9223372036854775808 ≤ c) (h2 : c ≤ 9223372036854775807) :
    Calls Tryd.prog 26 #[.int .i64 c, .int .i64 6] w fun e w' => e = .returned (.int .i64 (pk6 c)) ∧ w' = w := by
  by_cases h : c < 0
  · have HV : Hid (pk6 c = (-(c + 1)) % 6) := by show _ = _; unfold pk6; rw [if_pos h]
    go_enter Tryd.func26, Tryd.ntmps26
    go_wp2_with fail
    go_ret
    exact ⟨ret_i64 (by rw [HV.out, ← Int.tmod_eq_emod_of_nonneg (by omega : 0 ≤ -(c + 1)), Int.neg_tmod]), rfl⟩
  · have HV : Hid (pk6 c = c % 6) := by show _ = _; unfold pk6; rw [if_neg h]
    have h0 : 0 ≤ c := by omega
    go_enter Tryd.func26, Tryd.ntmps26
    go_wp2_with fail
    go_ret
    exact ⟨ret_i64 (by rw [HV.out]), rfl⟩
def mayB (k : Int) (n : Nat) : Bool := if k = 1 then decide (n = 1) else if k = 2 then decide (1 < n) else if k = 4 then decide (n ≤ 64) else true
theorem may_any (k : Int) (n : Nat) (w : World) (hn : n ≤ 1125899906842624) :
    Calls Tryd.prog 24 #[.int .i64 k, .int .i64 (n : Int)] w fun e w' => e = .returned (.bool (mayB k n)) ∧ w' = w := by
  by_cases k1 : k = 1
  · subst k1
    go_enter Tryd.func24, Tryd.ntmps24
    go_wp2_with fail
    go_ret
    refine ⟨?_, rfl⟩
    show Ending.returned (Value.bool _) = _
    congr 2
    unfold mayB
    rw [if_pos rfl, Bool.eq_iff_iff]
    simp
    omega
  · have b1 : (k == 1) = false := beq_eq_false_iff_ne.2 k1
    by_cases k2 : k = 2
    · subst k2
      go_enter Tryd.func24, Tryd.ntmps24
      go_wp2_with fail
      go_ret
      refine ⟨?_, rfl⟩
      show Ending.returned (Value.bool _) = _
      congr 2
      unfold mayB
      rw [if_neg (by omega), if_pos rfl, Bool.eq_iff_iff]
      simp
      omega
    · have b2 : (k == 2) = false := beq_eq_false_iff_ne.2 k2
      by_cases k4 : k = 4
      · subst k4
        go_enter Tryd.func24, Tryd.ntmps24
        go_wp2_with fail
        go_ret
        refine ⟨?_, rfl⟩
        show Ending.returned (Value.bool _) = _
        congr 2
        unfold mayB
        rw [if_neg (by omega), if_neg (by omega), if_pos rfl, Bool.eq_iff_iff]
        simp
        omega
      · have b4 : (k == 4) = false := beq_eq_false_iff_ne.2 k4
        have HV : Hid (mayB k n = true) := by show _ = _; unfold mayB; rw [if_neg k1, if_neg k2, if_neg k4]
        clear k1 k2 k4
        go_enter Tryd.func24, Tryd.ntmps24
        go_wp2_with fail
        go_ret
        exact ⟨by rw [HV.out]; rfl, rfl⟩
/-- a kernel that may be is one that suits -/
theorem may_suits (k : Int) (n : Nat) (fold : Bool) (h0 : 0 ≤ k) (h5 : k ≤ 5) (hp : isP n = true) (hm : mayB k n = true) : suitsB (kk k n fold) n = true := by
  cases hs : suitsB (kk k n fold) n with
  | true => rfl
  | false =>
    have hn : 1 ≤ n ∧ n ≤ 256 := of_decide_eq_true hp
    exfalso
    have hb : k < 0 ∨ 5 < k ∨ (k = 1 ∧ n ≠ 1) ∨ (k = 2 ∧ n < 2) ∨ (k = 4 ∧ 64 < n) := by
      unfold kk at hs
      by_cases k0 : k = 0
      · rw [if_pos k0, suits_chs n fold hp] at hs; cases hs
      · rw [if_neg k0] at hs
        unfold suitsB at hs
        by_cases k1 : k = 1
        · rw [if_pos k1, decide_eq_false_iff_not] at hs; omega
        · rw [if_neg k1] at hs
          by_cases k2 : k = 2
          · rw [if_pos k2, decide_eq_false_iff_not] at hs; omega
          · rw [if_neg k2] at hs
            by_cases k4 : k = 4
            · rw [if_pos k4, decide_eq_false_iff_not] at hs; omega
            · rw [if_neg k4, decide_eq_false_iff_not] at hs; omega
    unfold mayB at hm
    rcases hb with h | h | ⟨h, h2⟩ | ⟨h, h2⟩ | ⟨h, h2⟩
    · omega
    · omega
    · rw [if_pos h] at hm; simp at hm; omega
    · rw [if_neg (by omega), if_pos h] at hm; simp at hm; omega
    · rw [if_neg (by omega), if_neg (by omega), if_pos h] at hm; simp at hm; omega
theorem small6_any (c : Nat) (fold : Bool) (w : World) (hc : c < 256) :
    Calls Tryd.prog 36 #[.int .u8 (c : Int), .bool fold] w fun e w' => e = .returned (.int .u8 ((Lit.cs fold c : Nat) : Int)) ∧ w' = w := by
  have hcI : (c : Int) < 256 := by omega
  cases fold with
  | false =>
    go_enter Tryd.func36, Tryd.ntmps36
    go_wp2_with fail
    go_ret
    exact ⟨rfl, rfl⟩
  | true =>
    by_cases h : 65 ≤ c
    · have d1 : decide ((65 : Int) ≤ (c : Int)) = true := decide_eq_true (by omega)
      have e1 : (65 : Int) ≤ (c : Int) := by omega
      by_cases h2 : c ≤ 90
      · have d2 : decide ((c : Int) ≤ 90) = true := decide_eq_true (by omega)
        have e2 : (c : Int) ≤ 90 := by omega
        have HV : Hid (((Lit.cs true c : Nat) : Int) = (c : Int) + 32) := by show _ = _; unfold Lit.cs Swar.small; rw [if_pos rfl, if_pos ⟨h, h2⟩]; omega
        clear h h2
        go_enter Tryd.func36, Tryd.ntmps36
        go_wp2_with fail
        go_ret
        exact ⟨by rw [HV.out]; rfl, rfl⟩
      · have d2 : decide ((c : Int) ≤ 90) = false := decide_eq_false (by omega)
        have e2 : ¬ (c : Int) ≤ 90 := by omega
        have HV : Hid (Lit.cs true c = c) := by show _ = _; unfold Lit.cs Swar.small; rw [if_pos rfl, if_neg (by omega)]
        clear h h2
        go_enter Tryd.func36, Tryd.ntmps36
        go_wp2_with fail
        go_ret
        exact ⟨by rw [HV.out]; rfl, rfl⟩
    · have d1 : decide ((65 : Int) ≤ (c : Int)) = false := decide_eq_false (by omega)
      have e1 : ¬ (65 : Int) ≤ (c : Int) := by omega
      have HV : Hid (Lit.cs true c = c) := by show _ = _; unfold Lit.cs Swar.small; rw [if_pos rfl, if_neg (by omega)]
      clear h
      go_enter Tryd.func36, Tryd.ntmps36
      go_wp2_with fail
      go_ret
      exact ⟨by rw [HV.out]; rfl, rfl⟩
set_option maxHeartbeats 1000000 in
theorem stands6_no (p s : ByteArray) (fold : Bool) (a : Int) (w : World) (hp : p.size ≤ 256) (hs : s.size ≤ 1125899906842624) (h1 : -1 ≤ a) (h2 : a ≤ (s.size : Int)) (h : a < 0 ∨ (s.size : Int) < a + (p.size : Int)) :
    Calls Tryd.prog 27 #[.string p, .bool fold, .string s, .int .i64 a] w fun e w' => e = .returned (.bool false) ∧ w' = w := by
  by_cases h0 : a < 0
  · have d1 : decide (a < 0) = true := decide_eq_true h0
    clear h
    go_enter Tryd.func27, Tryd.ntmps27
    go_wp2_with fail
    go_ret
    exact ⟨rfl, rfl⟩
  · have d1 : decide (a < 0) = false := decide_eq_false h0
    have e2 : (s.size : Int) < a + (p.size : Int) := by omega
    have d2 : decide ((s.size : Int) < a + (p.size : Int)) = true := decide_eq_true e2
    clear h
    go_enter Tryd.func27, Tryd.ntmps27
    go_wp2_with fail
    go_ret
    exact ⟨rfl, rfl⟩
theorem st_to (fold : Bool) (p s : ByteArray) (a : Nat) (ha : a + p.size ≤ s.size) : Lit.stB fold p s a = true ↔ ∀ i, i < p.size → Lit.cs fold (Swar.bt p i) = Lit.cs fold (Swar.bt s (a + i)) := by
  rw [Lit.stB_iff]
  exact ⟨fun h i hi => (h.2 i hi).symm, fun h => ⟨ha, fun i hi => (h i hi).symm⟩⟩
set_option maxRecDepth 100000 in
set_option maxHeartbeats 1000000 in
theorem stands6_yes (p s : ByteArray) (fold : Bool) (a : Nat) (w : World) (hp : p.size ≤ 256) (hs : s.size ≤ 1125899906842624) (h : a + p.size ≤ s.size) :
    Calls Tryd.prog 27 #[.string p, .bool fold, .string s, .int .i64 (a : Int)] w fun e w' => e = .returned (.bool (Lit.stB fold p s a)) ∧ ∃ n, w' = w.drewN n := by
  have d1 : decide ((a : Int) < 0) = false := decide_eq_false (by omega)
  have d2 : decide ((s.size : Int) < (a : Int) + (p.size : Int)) = false := decide_eq_false (by omega)
  have e2 : ¬ (s.size : Int) < (a : Int) + (p.size : Int) := by omega
  have HST := Hid.mk' (st_to fold p s a h)
  go_enter Tryd.func27, Tryd.ntmps27
  go_wp2_with fail
  go_loopw [9] (fun i wr => ∃ k : Nat, k ≤ p.size ∧ i = .int .i64 (k : Int) ∧ Hid (∀ i, i < k → Lit.cs fold (Swar.bt p i) = Lit.cs fold (Swar.bt s (a + i))) ∧ Hid (∃ n, wr = w.drewN n)) (fun i _ => p.size - (intOf i).toNat)
  case atStart => exact ⟨0, by omega, rfl, fun i hi => absurd hi (by omega), 0, rfl⟩
  case round =>
    obtain ⟨k, hk, rfl, HK, HW⟩ := hrel
    by_cases hlt : k < p.size
    · have hlI : (k : Int) < (p.size : Int) := by omega
      have i1 := idx_byte p k hlt
      have i2 : ∀ W, (Instr.index 9 (.string s) (.int .i64 ((a : Int) + (k : Int)))).run Tryd.prog W = .ok (.int .u8 ((Swar.bt s (a + k) : Nat) : Int)) W := fun W => by
        rw [← Int.natCast_add]; exact idx_byte s (a + k) (by omega) W
      have b1 := Swar.bt_lt p k
      have b2 := Swar.bt_lt s (a + k)
      have HE : Hid ((Lit.cs fold (Swar.bt p k) = Lit.cs fold (Swar.bt s (a + k))) → ∀ i, i < k + 1 → Lit.cs fold (Swar.bt p i) = Lit.cs fold (Swar.bt s (a + i))) := fun e i hi => by
        by_cases e2 : i = k
        · subst e2; exact e
        · exact HK.out i (by omega)
      have HE2 : Hid (¬ (Lit.cs fold (Swar.bt p k) = Lit.cs fold (Swar.bt s (a + k))) → Lit.stB fold p s a = false) := fun e => by
        cases hst : Lit.stB fold p s a with
        | false => rfl
        | true => exact absurd (HST.out.1 hst k hlt) e
      generalize Swar.bt p k = x at *
      generalize Swar.bt s (a + k) = y at *
      obtain ⟨cx, hcx⟩ : ∃ cx, Lit.cs fold x = cx := ⟨_, rfl⟩
      obtain ⟨cy, hcy⟩ : ∃ cy, Lit.cs fold y = cy := ⟨_, rfl⟩
      have S1 := Hid.mk' (fun W => small6_any x fold W b1)
      have S2 := Hid.mk' (fun W => small6_any y fold W b2)
      rw [hcx] at S1 HE HE2
      rw [hcy] at S2 HE HE2
      clear hcx hcy
      by_cases heq : cx = cy
      · subst heq
        have hne : ((cx : Int) != (cx : Int)) = false := by simp
        go_wp2_with fail
        go_quiet ((first | (go_at_call_of 36 x; exact Calls.quiet_of_same (S1.out _)) | (go_at_call_of 36 y; exact Calls.quiet_of_same (S2.out _))))
        have HW3 : Hid (∃ n, wr.drewN nq = w.drewN n) := by obtain ⟨n, rfl⟩ := HW.out; exact ⟨n + nq, drew_drew _ _ _⟩
        generalize wr.drewN nq = W3 at *
        go_wp2_with fail
        go_roundw
        case rel => exact ⟨k + 1, by omega, by go_num, HE.out trivial, HW3.out⟩
        case measure => simp [intOf]; omega
      · have hne : ((cx : Int) != (cy : Int)) = true := by simp; omega
        have HF := Hid.mk' (HE2.out heq)
        go_wp2_with fail
        go_quiet ((first | (go_at_call_of 36 x; exact Calls.quiet_of_same (S1.out _)) | (go_at_call_of 36 y; exact Calls.quiet_of_same (S2.out _))))
        have HW3 : Hid (∃ n, wr.drewN nq = w.drewN n) := by obtain ⟨n, rfl⟩ := HW.out; exact ⟨n + nq, drew_drew _ _ _⟩
        generalize wr.drewN nq = W3 at *
        go_wp2_with fail
        go_ret
        exact ⟨by rw [HF.out]; rfl, HW3.out⟩
    · have hlI : ¬ (k : Int) < (p.size : Int) := by omega
      obtain rfl : k = p.size := by omega
      have HF := Hid.mk' (HST.out.2 HK.out)
      go_wp2_with fail
      go_ret
      exact ⟨by rw [HF.out]; rfl, HW.out⟩
end Go.Proofs.YtecoiifmeajicaaDoor
