/-
  How the kernel by bits of one word looks. Conditions: as each says.
-/
import Derived.Test.YtecoiifmeajicaaDoorShf
namespace Go.Proofs.YtecoiifmeajicaaDoor
open Go.RowKit
set_option linter.unusedVariables false
theorem wrap_pow (k : Nat) (hk : k < 64) : IntKind.u64.wrap (2 ^ k) = ((2 ^ k : Nat) : Int) := by
  have h : 2 ^ k < 18446744073709551616 := by rw [show (18446744073709551616 : Nat) = 2 ^ 64 from rfl]; exact Nat.pow_lt_pow_right (by omega) hk
  rw [show (2 : Int) ^ k = ((2 ^ k : Nat) : Int) by simp, wrapN _ h]
theorem rd_word (R H : Nat) (hH : H < 18446744073709551616) : bits .and .u64 (bits .or .u64 (IntKind.u64.wrap ((R : Int) * 2)) 1) (H : Int) = ((Lit.rdW R H : Nat) : Int) := by
  have h1 : R * 2 % 18446744073709551616 < 18446744073709551616 := Nat.mod_lt _ (by decide)
  have h2 : R * 2 % 18446744073709551616 ||| 1 < 18446744073709551616 := by
    have : R * 2 % 18446744073709551616 ||| 1 < 2 ^ 64 := Nat.or_lt_two_pow (by omega) (by decide)
    omega
  rw [IntKind.wrap_u64, show ((R : Int) * 2) % 18446744073709551616 = ((R * 2 % 18446744073709551616 : Nat) : Int) by omega, show (1 : Int) = ((1 : Nat) : Int) from rfl, u64_or_nat _ _ h1 (by decide), u64_and_nat _ _ h2 hH]
  rfl
theorem and_test (R G : Nat) (hR : R < 18446744073709551616) (hG : G < 64) : (bits .and .u64 (R : Int) (2 ^ G) != 0) = R.testBit G := by
  have h : 2 ^ G < 18446744073709551616 := by rw [show (18446744073709551616 : Nat) = 2 ^ 64 from rfl]; exact Nat.pow_lt_pow_right (by omega) hG
  rw [show (2 : Int) ^ G = ((2 ^ G : Nat) : Int) by simp, u64_and_nat _ _ hR h, Bool.eq_iff_iff, bne_iff_ne, ← Lit.and_pow]
  omega
set_option maxRecDepth 100000 in
set_option maxHeartbeats 4000000 in
theorem shfLook_any (g : Nat) (fold : Bool) (q s : ByteArray) (G a0 : Nat) (w : World) (hq : q.size = G + 1) (hGl : G < 64) (hs : s.size ≤ 1125899906842624) (ha : a0 + q.size ≤ s.size)
    (hT : ShfT g q.size (Lit.hsT fold q q.size) w) :
    Calls Tryd.prog 45 #[.pointer (some ⟨g, 0, none⟩), .string s, .int .i64 (a0 : Int)] w fun e w' => e = .returned (.int .i64 (Lit.fndL fold q s a0)) ∧ Below w.heap.size w w' := by
  have HT := Hid.mk' hT
  have c0 := hT.c0
  rw [hq] at c0
  clear hT
  have hGI : (G : Int) < 64 := by omega
  have hwp := wrap_pow G hGl
  go_enter Tryd.func45, Tryd.ntmps45
  go_wp2_with fail
  go_loopw [8, 9] (fun rd i wr => ∃ a R : Nat, a0 ≤ a ∧ a ≤ s.size ∧ i = .int .i64 (a : Int) ∧ rd = .int .u64 (R : Int) ∧ R < 18446744073709551616 ∧ Hid (Lit.Rd fold q s a0 a (fun i => R.testBit i)) ∧ Hid (Lit.NoB fold q s a0 a) ∧ Hid (∃ n, wr = w.drewN n)) (fun _ i _ => s.size + 2 - (intOf i).toNat)
  case atStart => exact ⟨a0, 0, by omega, by omega, rfl, rfl, by omega, Lit.rd_none _ _ _ _ _ (fun i hi => by simp), fun k h1 h2 => by omega, 0, rfl⟩
  case round =>
    obtain ⟨a, R, ha0, hal, rfl, rfl, hR, HR, HN, HW⟩ := hrel
    by_cases hlt : a < s.size
    · have hlI : (a : Int) < (s.size : Int) := by omega
      have hix := idx_byte s a hlt
      have hcb := Swar.bt_lt s a
      have k0 : wr.cell? ⟨g, 0, none⟩ = some (.int .i64 ((G : Int) + 1)) := by obtain ⟨n, rfl⟩ := HW.out; exact c0
      have kj : wr.cell? ⟨g, 1 + Swar.bt s a, none⟩ = some (.int .u64 ((Lit.hsT fold q q.size (Swar.bt s a) : Nat) : Int)) := by obtain ⟨n, rfl⟩ := HW.out; exact HT.out.cj _ hcb
      have hH := lt_word _ _ (Lit.hsT_lt fold q q.size (Swar.bt s a)) (by omega)
      have HHB := Hid.mk' (fun i => Lit.hsT_bit fold q (Swar.bt s a) i q.size)
      have hstep : ∀ R2 : Nat, (∀ i, i < 64 → R2.testBit i = ((decide (i = 0) || R.testBit (i - 1)) && (Lit.hsT fold q q.size (Swar.bt s a)).testBit i)) → Lit.Rd fold q s a0 (a + 1) (fun i => R2.testBit i) := fun R2 h =>
        Lit.rd_step fold q s a0 a _ _ ha0 HR.out (fun i hi => by
          rw [h i (by omega), HHB.out i]
          simp only [hi, true_and])
      have HSTEP := Hid.mk' hstep
      clear hstep HHB
      generalize Lit.hsT fold q q.size (Swar.bt s a) = H at *
      generalize Swar.bt s a = c at *
      go_wp2_with fail
      go_quiet (fail)
      rw [rd_word R H hH]
      have hR2 := Lit.rdW_lt R H hH
      have HR2 := Hid.mk' (HSTEP.out _ (fun i hi => Lit.rdW_bit R H i hi))
      have HIT := Hid.mk' (Lit.rd_hit fold q s a0 (a + 1) _ (by omega) (by omega) HR2.out)
      generalize Lit.rdW R H = R2 at *
      have hat := and_test R2 G hR2 hGl
      rw [show q.size - 1 = G by omega] at HIT
      have HW3 : Hid (∃ n, wr.drewN nq = w.drewN n) := by obtain ⟨n, rfl⟩ := HW.out; exact ⟨n + nq, drew_drew _ _ _⟩
      have k02 : (wr.drewN nq).cell? ⟨g, 0, none⟩ = some (.int .i64 ((G : Int) + 1)) := k0
      generalize wr.drewN nq = W3 at *
      cases hb : R2.testBit G with
      | true =>
        rw [hb] at hat
        have hh := HIT.out.1 hb
        have HF := Hid.mk' (Lit.noB_found fold q s a0 a HN.out hh.1 hh.2)
        have hh1 := hh.1
        clear hh hb
        go_wp2_with fail
        go_ret
        exact ⟨ret_i64 (by rw [HF.out]; omega), by obtain ⟨n, rfl⟩ := HW3.out; exact (Below.refl _ _).drewN' _⟩
      | false =>
        rw [hb] at hat
        have HN2 : Hid (Lit.NoB fold q s a0 (a + 1)) := Lit.noB_next fold q s a0 a HN.out (fun h => by
          have := HIT.out.2 h
          rw [hb] at this
          cases this)
        clear hb
        go_wp2_with fail
        go_roundw
        case rel => exact ⟨a + 1, R2, by omega, by omega, by go_num, rfl, hR2, HR2.out, HN2.out, HW3.out⟩
        case measure => simp [intOf]; omega
    · have hlI : ¬ (a : Int) < (s.size : Int) := by omega
      obtain rfl : a = s.size := by omega
      have HF := Hid.mk' (Lit.noB_end fold q s a0 HN.out)
      go_wp2_with fail
      go_ret
      exact ⟨ret_i64 (by rw [HF.out]), by obtain ⟨n, rfl⟩ := HW.out; exact (Below.refl _ _).drewN' _⟩
end Go.Proofs.YtecoiifmeajicaaDoor
