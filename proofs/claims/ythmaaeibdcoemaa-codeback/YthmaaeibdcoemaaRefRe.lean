/-
  What the document's Reader's Int, Text, Take and Fixed do. Conditions: as each says.
-/
import Derived.Test.YthmaaeibdcoemaaRefRd
namespace Go.Proofs.Ythmaaeibdcoemaa
open Go.RowKit
set_option linter.unusedVariables false
set_option maxHeartbeats 1000000 in
theorem refIntR_any (g : Nat) (s : ByteArray) (a : Nat) (w : World) (h : Rd2 g s a w) (ha : a ≤ s.size) (hs : s.size ≤ 1125899906842624) :
    Calls Try.prog 46 #[.pointer (some ⟨g, 0, none⟩)] w fun e w' => e = .returned (.tuple #[.int .i64 (Code.zag (rdAt s a).1), .int .i64 ((rdAt s a).2.1 : Int)]) ∧ Rd2 g s (a + (rdAt s a).2.2) w' ∧ Only g w w' := by
  have hl := (rdAt_lt s a ha).1
  have HER : Hid ((rdAt s a).2.1 ≠ 0 → (rdAt s a).1 = 0) := fun h => (Code.rd_err _ h).1
  go_enter Try.func46, Try.ntmps46
  go_wp2_with fail
  refine (refUintR_any g s a w h ha hs).mono ?_
  rintro e w2 ⟨rfl, hr2, ho2⟩
  have HR2 := Hid.mk' hr2
  have HO2 := Hid.mk' ho2
  obtain ⟨n, HN⟩ : ∃ n, Hid (n = (rdAt s a).1) := ⟨_, Hid.mk' rfl⟩
  obtain ⟨E, HE⟩ : ∃ E, Hid (E = (rdAt s a).2.1) := ⟨_, Hid.mk' rfl⟩
  rw [← HN.out, ← HE.out] at HER
  rw [← HN.out] at hl ⊢
  rw [← HE.out]
  have n64 : (n : Int) < 18446744073709551616 := by omega
  clear hr2 ho2 hl ha hs h
  by_cases hE : E = 0
  · subst hE
    by_cases h1 : n % 2 = 1
    · have hand : (((n : Int) % 2) == 1) = true := beq_iff_eq.2 (by omega)
      have HZ : Hid (Code.zag n = -((n / 2 : Nat) : Int) - 1) := if_pos h1
      clear h1
      go_wp2_with fail
      go_ret2
      exact ⟨ret_tup2 (val_int (by rw [← HN.out, HZ.out]; omega)) (val_int (by rw [← HE.out]; rfl)), HR2.out, HO2.out⟩
    · have hand : (((n : Int) % 2) == 1) = false := beq_eq_false_iff_ne.2 (by omega)
      have HZ : Hid (Code.zag n = ((n / 2 : Nat) : Int)) := if_neg h1
      clear h1
      go_wp2_with fail
      go_ret2
      exact ⟨ret_tup2 (val_int (by rw [← HN.out, HZ.out]; omega)) (val_int (by rw [← HE.out]; rfl)), HR2.out, HO2.out⟩
  · have hne : ((E : Int) != 0) = true := by simp; exact hE
    have HZ : Hid (Code.zag n = 0) := by unfold Hid; rw [HER.out hE]; decide
    clear hE
    go_wp2_with fail
    go_ret2
    exact ⟨ret_tup2 (val_int (by rw [← HN.out, HZ.out])) (val_int (by rw [← HE.out])), HR2.out, HO2.out⟩
set_option maxRecDepth 100000 in
set_option maxHeartbeats 2000000 in
theorem refTextR_any (g : Nat) (s : ByteArray) (a : Nat) (w : World) (h : Rd2 g s a w) (ha : a ≤ s.size) (hs : s.size ≤ 281474976710656) :
    Calls Try.prog 47 #[.pointer (some ⟨g, 0, none⟩)] w fun e w' => e = .returned (.tuple #[.string (textR s a).1, .int .i64 ((textR s a).2.1 : Int)]) ∧ Rd2 g s (a + (textR s a).2.2) w' ∧ Only g w w' := by
  have HLT := Hid.mk' (rdAt_lt s a ha)
  have c1 := h.c1
  go_enter Try.func47, Try.ntmps47
  go_wp2_with fail
  refine (refUintR_any g s a w h ha (by omega)).mono ?_
  rintro e w1 ⟨rfl, hr1, ho1⟩
  obtain ⟨n, HN⟩ : ∃ n, Hid (n = (rdAt s a).1) := ⟨_, Hid.mk' rfl⟩
  obtain ⟨E, HE⟩ : ∃ E, Hid (E = (rdAt s a).2.1) := ⟨_, Hid.mk' rfl⟩
  obtain ⟨k, HK⟩ : ∃ k, Hid (k = (rdAt s a).2.2) := ⟨_, Hid.mk' rfl⟩
  have HTR : Hid (textR s a = if E ≠ 0 then (⟨#[]⟩, E, 0) else if s.size - (a + k) < n then (⟨#[]⟩, 30, 0) else (s.extract (a + k) (a + k + n), 0, k + n)) := by unfold Hid textR; rw [HN.out, HE.out, HK.out]
  have HERR : Hid (E ≠ 0 → k = 0) := by rw [HE.out, HK.out]; exact fun h => (Code.rd_err _ h).2
  rw [← HN.out, ← HE.out]
  rw [← HK.out] at hr1
  have HL2 : Hid (n < 18446744073709551616 ∧ a + k ≤ s.size) := by rw [HN.out, HK.out]; exact HLT.out
  have HR1 := Hid.mk' hr1
  have HO1 := Hid.mk' ho1
  have HS := Hid.mk' hs
  have HA := Hid.mk' ha
  have d0 := hr1.c0
  have d1 := hr1.c1
  have e1 : w1.frozen? ⟨g, 1, none⟩ = false := hr1.fz
  have s1 : (s.size : Int) ≤ 281474976710656 := by omega
  have a1 : (a : Int) ≤ (s.size : Int) := by omega
  clear hr1 ho1 h ha hs HLT HN HE HK c1
  obtain ⟨p, HP⟩ : ∃ p, Hid (p = a + k) := ⟨_, Hid.mk' rfl⟩
  rw [← HP.out] at d1 HL2 HTR HR1
  have p1 : (p : Int) ≤ (s.size : Int) := by have := HL2.out; omega
  have n1 : (n : Int) < 18446744073709551616 := by have := HL2.out; omega
  by_cases hE : E = 0
  · subst hE
    by_cases hn : s.size - p < n
    · have HT2 : Hid (textR s a = (⟨#[]⟩, 30, 0)) := by unfold Hid; rw [HTR.out, if_neg (by omega), if_pos hn]
      have h1 : decide ((s.size : Int) - (p : Int) < (n : Int)) = true := decide_eq_true (by omega)
      have h2 : (s.size : Int) - (p : Int) < (n : Int) := by omega
      have HF := Hid.mk' (HR1.out.set a)
      clear HTR hn
      go_wp2_with fail
      go_quiet (fail)
      go_wp2_with fail
      go_ret2
      rw [HT2.out]
      have hf2 := (show Rd2 g s p (w1.drewN nq) from HR1.out).set a
      exact ⟨rfl, hf2.1, (HO1.out.drewN nq).trans hf2.2⟩
    · have HT2 : Hid (textR s a = (s.extract p (p + n), 0, k + n)) := by unfold Hid; rw [HTR.out, if_neg (by omega), if_neg hn]
      have h1 : decide ((s.size : Int) - (p : Int) < (n : Int)) = false := decide_eq_false (by omega)
      have h2 : ¬ (s.size : Int) - (p : Int) < (n : Int) := by omega
      obtain ⟨q, HQ⟩ : ∃ q, Hid (q = p + n) := ⟨_, Hid.mk' rfl⟩
      have q1 : (p : Int) + (n : Int) = (q : Int) := by have := HQ.out; omega
      have q2 : (p : Int) ≤ (q : Int) := by have := HQ.out; omega
      have q3 : (q : Int) ≤ (s.size : Int) := by have := HQ.out; have := HL2.out; omega
      have n2 : (n : Int) ≤ 281474976710656 := by have := HQ.out; omega
      have n3 : IntKind.i64.wrap (n : Int) = (n : Int) := by rw [IntKind.wrap_i64]; omega
      have q4 : IntKind.i64.wrap (q : Int) = (q : Int) := by rw [IntKind.wrap_i64]; omega
      have p0 : (0 : Int) ≤ (p : Int) := by omega
      clear HTR hn
      go_wp2_with fail
      go_quiet (fail)
      obtain ⟨nq1, hnq⟩ : ∃ n, n = nq := ⟨_, rfl⟩
      rw [← hnq]
      clear hnq
      go_wp2_with fail
      go_quiet (fail)
      go_wp2_with fail
      go_ret2
      rw [HT2.out]
      have hf2 := (show Rd2 g s p (w1.drewN (nq1 + nq)) from HR1.out).set q
      refine ⟨ret_tup2 (by rw [← HQ.out]; rfl) rfl, ?_, (HO1.out.drewN (nq1 + nq)).trans hf2.2⟩
      have e := HQ.out
      have e2 := HP.out
      rw [show a + (k + n) = q by omega]
      exact hf2.1
  · have HT2 : Hid (textR s a = (⟨#[]⟩, E, 0)) := by unfold Hid; rw [HTR.out, if_pos hE]
    have hne : ((E : Int) != 0) = true := by simp; exact hE
    have HPA : Hid (p = a) := by have := HP.out; have := HERR.out hE; unfold Hid; omega
    clear hE HTR
    go_wp2_with fail
    go_ret2
    rw [HT2.out]
    refine ⟨rfl, ?_, HO1.out⟩
    have := HR1.out
    rw [HPA.out] at this
    exact this
theorem refTake_neg (g : Nat) (n : Int) (w : World) (hn : n < 0) :
    Calls Try.prog 50 #[.pointer (some ⟨g, 0, none⟩), .int .i64 n] w fun e w' => e = .returned (.tuple #[.string ⟨#[]⟩, .int .i64 1]) ∧ w' = w := by
  go_enter Try.func50, Try.ntmps50
  go_wp2_with fail
  go_ret2
  exact ⟨rfl, rfl⟩
set_option maxRecDepth 100000 in
set_option maxHeartbeats 1000000 in
theorem refTake_nat (g : Nat) (s : ByteArray) (a n : Nat) (w : World) (h : Rd2 g s a w) (ha : a ≤ s.size) (hs : s.size ≤ 281474976710656) (hn63 : n ≤ 9223372036854775807) :
    Calls Try.prog 50 #[.pointer (some ⟨g, 0, none⟩), .int .i64 (n : Int)] w fun e w' => e = .returned (.tuple #[.string (takeR s a n).1, .int .i64 ((takeR s a n).2.1 : Int)]) ∧ Rd2 g s (a + (takeR s a n).2.2) w' ∧ Only g w w' := by
  have c0 := h.c0
  have c1 := h.c1
  have f1 : w.frozen? ⟨g, 1, none⟩ = false := h.fz
  have HH := Hid.mk' h
  have s1 : (s.size : Int) ≤ 281474976710656 := by omega
  have a1 : (a : Int) ≤ (s.size : Int) := by omega
  have m0 : ¬ (n : Int) < 0 := by omega
  have m1 : (n : Int) ≤ 9223372036854775807 := by omega
  have HN63 := Hid.mk' hn63
  clear h hn63
  by_cases hn : s.size - a < n
  · have HT : Hid (takeR s a n = (⟨#[]⟩, 30, 0)) := by unfold Hid takeR; rw [if_neg m0, if_pos (by omega)]
    have h1 : decide ((s.size : Int) - (a : Int) < (n : Int)) = true := decide_eq_true (by omega)
    have h2 : (s.size : Int) - (a : Int) < (n : Int) := by omega
    clear hn ha hs
    go_enter Try.func50, Try.ntmps50
    go_wp2_with fail
    go_quiet (fail)
    go_wp2_with fail
    go_ret2
    rw [HT.out]
    exact ⟨rfl, HH.out, (Only.refl _ _).drewN nq⟩
  · obtain ⟨q, HQ⟩ : ∃ q, Hid (q = a + n) := ⟨_, Hid.mk' rfl⟩
    have HT : Hid (takeR s a n = (s.extract a q, 0, n)) := by unfold Hid takeR; rw [if_neg m0, if_neg (by omega), Int.toNat_natCast, HQ.out]
    have h1 : decide ((s.size : Int) - (a : Int) < (n : Int)) = false := decide_eq_false (by omega)
    have h2 : ¬ (s.size : Int) - (a : Int) < (n : Int) := by omega
    have q1 : (a : Int) + (n : Int) = (q : Int) := by have := HQ.out; omega
    have q5 : (q : Int) - (n : Int) = (a : Int) := by have := HQ.out; omega
    have q6 : IntKind.i64.wrap (a : Int) = (a : Int) := by rw [IntKind.wrap_i64]; omega
    have q2 : (a : Int) ≤ (q : Int) := by have := HQ.out; omega
    have q3 : (q : Int) ≤ (s.size : Int) := by have := HQ.out; omega
    have q0 : (0 : Int) ≤ (a : Int) := by omega
    clear hn ha hs
    go_enter Try.func50, Try.ntmps50
    go_wp2_with fail
    go_quiet (fail)
    go_wp2_with fail
    have hst := (show Rd2 g s a (w.drewN nq) from HH.out).set q
    obtain ⟨w2, hw2⟩ : ∃ w2, w2 = (w.drewN nq).setCell ⟨g, 1, none⟩ (.int .i64 (q : Int)) := ⟨_, rfl⟩
    rw [← hw2] at hst ⊢
    have d0 := hst.1.c0
    have d1 := hst.1.c1
    have HST := Hid.mk' hst
    clear hw2 hst c0 c1 f1
    go_quiet (fail)
    go_wp2_with fail
    go_ret2
    rw [HT.out]
    refine ⟨rfl, ?_, ?_⟩
    · show Rd2 g s (a + n) _
      rw [← HQ.out]
      exact HST.out.1
    · exact (((Only.refl g w).drewN _).trans HST.out.2).drewN _
theorem refTake_any (g : Nat) (s : ByteArray) (a : Nat) (n : Int) (w : World) (h : Rd2 g s a w) (ha : a ≤ s.size) (hs : s.size ≤ 281474976710656) (hn : n ≤ 9223372036854775807) :
    Calls Try.prog 50 #[.pointer (some ⟨g, 0, none⟩), .int .i64 n] w fun e w' => e = .returned (.tuple #[.string (takeR s a n).1, .int .i64 ((takeR s a n).2.1 : Int)]) ∧ Rd2 g s (a + (takeR s a n).2.2) w' ∧ Only g w w' := by
  by_cases h0 : n < 0
  · have e : takeR s a n = (⟨#[]⟩, 1, 0) := by unfold takeR; rw [if_pos h0]
    rw [e]
    refine (refTake_neg g n w h0).mono ?_
    rintro e w' ⟨rfl, rfl⟩
    exact ⟨rfl, h, Only.refl _ _⟩
  · obtain ⟨n, rfl⟩ := Int.eq_ofNat_of_zero_le (show 0 ≤ n by omega)
    exact refTake_nat g s a n w h ha hs (by omega)
end Go.Proofs.Ythmaaeibdcoemaa
