/-
  How the kernel by jumps looks. Conditions: as each says.
-/
import Derived.Test.YtecoiifmeajicaaDoorHor
import Derived.Test.YtecoiifmeajicaaDoorPr
namespace Go.Proofs.YtecoiifmeajicaaDoor
open Go.RowKit
set_option linter.unusedVariables false
theorem last_no (fold : Bool) (q s : ByteArray) (G e : Nat) (hq : q.size = G + 1) (hn : Nrm fold q) (he : q.size ≤ e) (h : ¬ (Swar.bt s (e - 1) = Swar.bt q G ∨ Swar.bt s (e - 1) = Lit.fm2 fold (Swar.bt q G))) : Lit.stB fold q s (e - q.size) = false := by
  rw [Lit.stB_no]
  intro hst
  have := hst.2 G (by omega)
  rw [hn, show e - q.size + G = e - 1 by omega] at this
  exact h ((Lit.fm_iff fold _ _ (hn G)).2 this)
set_option maxRecDepth 100000 in
set_option maxHeartbeats 4000000 in
theorem horLook_any (g : Nat) (fold : Bool) (q s : ByteArray) (G a0 : Nat) (w : World) (hq : q.size = G + 1) (hGl : G ≤ 256) (hn : Nrm fold q) (hs : s.size ≤ 1125899906842624) (ha : a0 + q.size ≤ s.size)
    (hT : HorT g fold q G (Lit.jmT fold q G) w) :
    Calls Tryd.prog 43 #[.pointer (some ⟨g, 0, none⟩), .string s, .int .i64 (a0 : Int)] w fun e w' => e = .returned (.int .i64 (Lit.fndL fold q s a0)) ∧ Below w.heap.size w w' := by
  have HT := Hid.mk' hT
  have c0 := hT.c0
  clear hT
  have hs1 : s.size ≤ 1125899906842624 := by omega
  have hq1 : q.size ≤ 1125899906842624 := by omega
  have HJ := Hid.mk' (fun e h1 h2 h3 => Lit.jump_on fold q s e (by omega) h1 h2 h3)
  have HLN := Hid.mk' (fun e => last_no fold q s G e hq hn)
  have HST := Hid.mk' (fun k (h : k + q.size ≤ s.size) => Lit.is_st fold q s k h)
  go_enter Tryd.func43, Tryd.ntmps43
  go_wp2_with fail
  go_loopw [8] (fun i wr => ∃ e : Nat, G + 1 ≤ e ∧ e ≤ s.size + G + 1 ∧ i = .int .i64 (e : Int) ∧ Hid (Lit.fndL fold q s a0 = Lit.fndL fold q s (e - (G + 1))) ∧ Hid (∃ n, wr = w.drewN n)) (fun i _ => s.size + G + 2 - (intOf i).toNat)
  case atStart => exact ⟨a0 + (G + 1), by omega, by omega, by go_num, by show _ = _; rw [Nat.add_sub_cancel], 0, rfl⟩
  case round =>
    obtain ⟨e, he1, he2, rfl, HI, HW⟩ := hrel
    by_cases hlt : e ≤ s.size
    · have hlI : (e : Int) ≤ (s.size : Int) := by omega
      have hT2 : HorT g fold q G (Lit.jmT fold q G) wr := by obtain ⟨n, rfl⟩ := HW.out; exact ⟨HT.out.c0, HT.out.c1, HT.out.c2, HT.out.c3, HT.out.cj, HT.out.fz⟩
      have hcb := Swar.bt_lt s (e - 1)
      have hix : ∀ W, (Instr.index 9 (.string s) (.int .i64 ((e : Int) - 1))).run Tryd.prog W = .ok (.int .u8 ((Swar.bt s (e - 1) : Nat) : Int)) W := fun W => by
        rw [show (e : Int) - 1 = ((e - 1 : Nat) : Int) by omega]; exact idx_byte s (e - 1) (by omega) W
      have HJ2 := Hid.mk' (HJ.out e (by omega) hlt)
      have HL2 := Hid.mk' (HLN.out e (by omega))
      have HS2 := Hid.mk' (HST.out (e - q.size) (by omega))
      have hjl := Lit.jmT_le fold q G (Swar.bt s (e - 1))
      have hjp := Lit.jmT_pos fold q G (Swar.bt s (e - 1)) (by omega)
      have hjc := hT2.cj (Swar.bt s (e - 1)) hcb
      rw [show q.size - 1 = G by omega] at HJ2
      obtain ⟨c, hc⟩ : ∃ c, Swar.bt s (e - 1) = c := ⟨_, rfl⟩
      obtain ⟨L0, hL0⟩ : ∃ L0, Swar.bt q G = L0 := ⟨_, rfl⟩
      obtain ⟨L1, hL1⟩ : ∃ L1, Lit.fm2 fold L0 = L1 := ⟨_, rfl⟩
      have k0 := hT2.c0
      have k1 := hT2.c1
      have k2 := hT2.c2
      have k3 := hT2.c3
      rw [hc] at hcb hix HJ2 HL2 hjl hjp hjc
      rw [hL0] at HL2 k2 k3
      rw [hL1] at HL2 k3
      rw [hq] at hjl
      obtain ⟨D, hD⟩ : ∃ D, Lit.jmT fold q G c = D := ⟨_, rfl⟩
      rw [hD] at HJ2 hjl hjp hjc
      have HHIX := Hid.mk' (And.intro hT2 trivial)
      rw [hq, show e - (G + 1) + (G + 1) = e by omega] at HS2
      rw [hq] at HJ2 HL2
      clear hc hL0 hL1 hD hT2
      have step : ∀ (W : World), Hid (∃ n, W = w.drewN n) → Lit.stB fold q s (e - (G + 1)) = false → (∃ e1 : Nat, G + 1 ≤ e1 ∧ e1 ≤ s.size + G + 1 ∧ Value.int .i64 ((e : Int) + (D : Int)) = .int .i64 (e1 : Int) ∧ Hid (Lit.fndL fold q s a0 = Lit.fndL fold q s (e1 - (G + 1))) ∧ Hid (∃ n, W = w.drewN n)) := fun W hW hst =>
        ⟨e + D, by omega, by omega, by go_num, by show _ = _; rw [HI.out, HJ2.out hst], hW⟩
      have HSTEP := Hid.mk' step
      clear step
      by_cases h0 : c = L0
      · subst h0
        go_wp2_with fail
        go_quiet ((go_at_call 57; exact Calls.quiet_of (is_any g fold q _ _ hq1 (by rw [ByteArray.size_extract]; omega) (by exact k0) (by exact k1))))
        first | rw [HS2.out] | rw [show ((e : Int) - ((G : Int) + 1)).toNat = e - (G + 1) by omega, HS2.out]
        have HW3 : Hid (∃ n, wr.drewN nq = w.drewN n) := by obtain ⟨n, rfl⟩ := HW.out; exact ⟨n + nq, drew_drew _ _ _⟩
        have hjc2 : (wr.drewN nq).cell? ⟨g, 4 + c, none⟩ = some (.int .i64 (D : Int)) := hjc
        generalize wr.drewN nq = W3 at *
        cases hst : Lit.stB fold q s (e - (G + 1)) with
        | true =>
          have HF : Hid (Lit.fndL fold q s (e - (G + 1)) = ((e - (G + 1) : Nat) : Int)) := Lit.fndL_hit fold q s _ hst
          clear hst
          go_wp2_with fail
          go_ret
          exact ⟨ret_i64 (by rw [HI.out, HF.out]; omega), by obtain ⟨n, rfl⟩ := HW3.out; exact (Below.refl _ _).drewN' _⟩
        | false =>
          have HX := Hid.mk' (HSTEP.out W3 HW3 hst)
          clear hst
          go_wp2_with fail
          exact ⟨HX.out, by simp [intOf]; omega⟩
      · have hb0 : ((c : Int) == (L0 : Int)) = false := beq_eq_false_iff_ne.2 (by omega)
        by_cases h1 : c = L1
        · subst h1
          go_wp2_with fail
          go_quiet ((go_at_call 57; exact Calls.quiet_of (is_any g fold q _ _ hq1 (by rw [ByteArray.size_extract]; omega) (by exact k0) (by exact k1))))
          first | rw [HS2.out] | rw [show ((e : Int) - ((G : Int) + 1)).toNat = e - (G + 1) by omega, HS2.out]
          have HW3 : Hid (∃ n, wr.drewN nq = w.drewN n) := by obtain ⟨n, rfl⟩ := HW.out; exact ⟨n + nq, drew_drew _ _ _⟩
          have hjc2 : (wr.drewN nq).cell? ⟨g, 4 + c, none⟩ = some (.int .i64 (D : Int)) := hjc
          generalize wr.drewN nq = W3 at *
          cases hst : Lit.stB fold q s (e - (G + 1)) with
          | true =>
            have HF : Hid (Lit.fndL fold q s (e - (G + 1)) = ((e - (G + 1) : Nat) : Int)) := Lit.fndL_hit fold q s _ hst
            clear hst
            go_wp2_with fail
            go_ret
            exact ⟨ret_i64 (by rw [HI.out, HF.out]; omega), by obtain ⟨n, rfl⟩ := HW3.out; exact (Below.refl _ _).drewN' _⟩
          | false =>
            have HX := Hid.mk' (HSTEP.out W3 HW3 hst)
            clear hst
            go_wp2_with fail
            exact ⟨HX.out, by simp [intOf]; omega⟩
        · have hb1 : ((c : Int) == (L1 : Int)) = false := beq_eq_false_iff_ne.2 (by omega)
          have hst := HL2.out (by omega)
          go_wp2_with fail
          go_quiet (fail)
          have HW3 : Hid (∃ n, wr.drewN nq = w.drewN n) := by obtain ⟨n, rfl⟩ := HW.out; exact ⟨n + nq, drew_drew _ _ _⟩
          have hjc2 : (wr.drewN nq).cell? ⟨g, 4 + c, none⟩ = some (.int .i64 (D : Int)) := hjc
          generalize wr.drewN nq = W3 at *
          have HX := Hid.mk' (HSTEP.out W3 HW3 hst)
          clear hst
          go_wp2_with fail
          exact ⟨HX.out, by simp [intOf]; omega⟩
    · have hlI : ¬ (e : Int) ≤ (s.size : Int) := by omega
      have HF : Hid (Lit.fndL fold q s (e - (G + 1)) = -1) := Lit.fndL_out fold q s _ (by omega)
      go_wp2_with fail
      go_ret
      exact ⟨ret_i64 (by rw [HI.out, HF.out]), by obtain ⟨n, rfl⟩ := HW.out; exact (Below.refl _ _).drewN' _⟩
end Go.Proofs.YtecoiifmeajicaaDoor
