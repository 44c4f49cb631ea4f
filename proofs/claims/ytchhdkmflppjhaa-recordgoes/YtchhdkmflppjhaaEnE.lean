/-
  The document's own Reader of chapter 17: a stamp. Conditions: as it says.
-/
import Derived.Test.YtchhdkmflppjhaaEnD
namespace Go.Proofs.Ytchhdkmflppjhaa
open Go.RowKit
set_option linter.unusedVariables false
set_option linter.unusedSimpArgs false
set_option maxRecDepth 100000 in
set_option maxHeartbeats 2000000 in
theorem dStamp_any (g : Nat) (s : ByteArray) (a : Nat) (p : Int) (w : World) (h : Rd7 g s a w) (hp0 : 0 ≤ p) (hp1 : p ≤ 253402300799999) (ha : a ≤ s.size) (hs : s.size ≤ 1125899906842624) :
    Calls Try.prog 29 #[.pointer (some ⟨g, 0, none⟩), .int .i64 p] w fun e w' => e = .returned (.tuple #[.int .i64 (stepS (rdAt s a) p).1, .int .i64 ((stepS (rdAt s a) p).2.1 : Int)]) ∧ Rd7 g s (a + (rdAt s a).2.2) w' ∧ Only g w w' := by
  have hlt := (rdAt_lt s a ha).1
  have HR := Hid.mk' (dUint_any g s a w h ha hs)
  obtain ⟨q1, q2, q3, hq⟩ : ∃ q1 q2 q3, rdAt s a = (q1, q2, q3) := ⟨_, _, _, rfl⟩
  rw [hq] at HR hlt ⊢
  simp only at HR hlt
  obtain ⟨ans, er, hae⟩ : ∃ ans er, (ans, er) = ((stepS (q1, q2, q3) p).1, (stepS (q1, q2, q3) p).2.1) := ⟨_, _, rfl⟩
  have h1 : (stepS (q1, q2, q3) p).1 = ans := (congrArg Prod.fst hae).symm
  have h2 : (stepS (q1, q2, q3) p).2.1 = er := (congrArg Prod.snd hae).symm
  rw [h1, h2]
  have HAE : Hid (stepS (q1, q2, q3) p = (if q2 ≠ 0 then (0, q2, p) else if Code.zag q1 < -p ∨ 253402300799999 - p < Code.zag q1 then (0, 171, p) else (p + Code.zag q1, 0, p + Code.zag q1))) := rfl
  have H1 := Hid.mk' h1
  have H2 := Hid.mk' h2
  clear hq h ha hs hae h1 h2
  by_cases he : q2 = 0
  · have HAE2 : Hid (stepS (q1, q2, q3) p = (if Code.zag q1 < -p ∨ 253402300799999 - p < Code.zag q1 then (0, 171, p) else (p + Code.zag q1, 0, p + Code.zag q1))) := by
      unfold Hid
      rw [HAE.out, if_neg (by omega)]
    obtain ⟨hf, hhf⟩ : ∃ hf, hf = q1 / 2 := ⟨_, rfl⟩
    have hdiv : (q1 : Int) / 2 = (hf : Int) := by omega
    have hfb : hf ≤ 9223372036854775807 := by omega
    have hfi : IntKind.i64.wrap (hf : Int) = (hf : Int) := by rw [IntKind.wrap_i64]; omega
    have HHF := Hid.mk' hhf
    have HLT := Hid.mk' hlt
    have e0 : (q2 : Int) = 0 := by omega
    clear hlt hhf HAE he
    by_cases hbig : 253402300800000 < hf
    · have hbi : (253402300800000 : Int) < (hf : Int) := by omega
      have hA : ans = 0 ∧ er = 171 := by
        have hz : Code.zag q1 < -p ∨ 253402300799999 - p < Code.zag q1 := by
          have := HHF.out
          unfold Code.zag
          split <;> omega
        rw [← H1.out, ← H2.out, HAE2.out, if_pos hz]
        exact ⟨rfl, rfl⟩
      have HA := Hid.mk' hA
      clear hA
      go_enter Try.func29, Try.ntmps29
      go_wp2_with fail
      refine HR.out.mono ?_
      rintro e w1 ⟨rfl, hr1, ho1⟩
      have HR1 := Hid.mk' (And.intro hr1 ho1)
      clear hr1 ho1 HR
      go_wp2_with fail
      go_ret2
      exact ⟨by rw [HA.out.1, HA.out.2]; rfl, HR1.out.1, HR1.out.2⟩
    · have hbi : ¬ (253402300800000 : Int) < (hf : Int) := by omega
      by_cases hodd : q1 % 2 = 1
      · have ho : (q1 : Int) % 2 = 1 := by omega
        obtain ⟨now, hnow⟩ : ∃ now : Int, now = p - (hf : Int) - 1 := ⟨_, rfl⟩
        have hw1 : IntKind.i64.wrap (p + (hf : Int)) = p + (hf : Int) := by rw [IntKind.wrap_i64]; omega
        have hz : Code.zag q1 = -(hf : Int) - 1 := by
          have := HHF.out
          unfold Code.zag
          split <;> omega
        have HZ := Hid.mk' hz
        have HNOW := Hid.mk' hnow
        have hnw : p - (hf : Int) - 1 = now := hnow.symm
        clear hz hnow hodd hbig
        by_cases hbad : now < 0 ∨ 253402300799999 < now
        · have hA : ans = 0 ∧ er = 171 := by
            rw [← H1.out, ← H2.out, HAE2.out, if_pos (by rw [HZ.out]; have := HNOW.out; omega)]
            exact ⟨rfl, rfl⟩
          have HA := Hid.mk' hA
          have hn0 : now < 0 := by have := HNOW.out; omega
          clear hA hbad
          go_enter Try.func29, Try.ntmps29
          go_wp2_with fail
          refine HR.out.mono ?_
          rintro e w1 ⟨rfl, hr1, ho1⟩
          have HR1 := Hid.mk' (And.intro hr1 ho1)
          clear hr1 ho1 HR
          go_wp2_with fail
          go_ret2
          exact ⟨by rw [HA.out.1, HA.out.2]; rfl, HR1.out.1, HR1.out.2⟩
        · have hA : ans = now ∧ er = 0 := by
            rw [← H1.out, ← H2.out, HAE2.out, if_neg (by rw [HZ.out]; have := HNOW.out; omega)]
            exact ⟨by rw [HZ.out]; have := HNOW.out; show p + _ = now; omega, rfl⟩
          have HA := Hid.mk' hA
          have hn0 : ¬ now < 0 := by omega
          have hn1 : ¬ 253402300799999 < now := by omega
          have hd0 : decide (now < 0) = false := decide_eq_false hn0
          clear hA hbad
          go_enter Try.func29, Try.ntmps29
          go_wp2_with fail
          refine HR.out.mono ?_
          rintro e w1 ⟨rfl, hr1, ho1⟩
          have HR1 := Hid.mk' (And.intro hr1 ho1)
          clear hr1 ho1 HR
          go_wp2_with fail
          go_ret2
          exact ⟨by rw [HA.out.1, HA.out.2]; rfl, HR1.out.1, HR1.out.2⟩
      · have ho : (q1 : Int) % 2 = 0 := by omega
        obtain ⟨now, hnow⟩ : ∃ now : Int, now = p + (hf : Int) := ⟨_, rfl⟩
        have hnw : p + (hf : Int) = now := hnow.symm
        have hz : Code.zag q1 = (hf : Int) := by
          have := HHF.out
          unfold Code.zag
          split <;> omega
        have HZ := Hid.mk' hz
        have HNOW := Hid.mk' hnow
        clear hz hnow hodd hbig
        by_cases hbad : 253402300799999 < now
        · have hA : ans = 0 ∧ er = 171 := by
            rw [← H1.out, ← H2.out, HAE2.out, if_pos (by rw [HZ.out]; have := HNOW.out; omega)]
            exact ⟨rfl, rfl⟩
          have HA := Hid.mk' hA
          have hn0 : ¬ now < 0 := by omega
          clear hA
          go_enter Try.func29, Try.ntmps29
          go_wp2_with fail
          refine HR.out.mono ?_
          rintro e w1 ⟨rfl, hr1, ho1⟩
          have HR1 := Hid.mk' (And.intro hr1 ho1)
          clear hr1 ho1 HR
          go_wp2_with fail
          go_ret2
          exact ⟨by rw [HA.out.1, HA.out.2]; rfl, HR1.out.1, HR1.out.2⟩
        · have hA : ans = now ∧ er = 0 := by
            rw [← H1.out, ← H2.out, HAE2.out, if_neg (by rw [HZ.out]; have := HNOW.out; omega)]
            exact ⟨by rw [HZ.out]; have := HNOW.out; show p + _ = now; omega, rfl⟩
          have HA := Hid.mk' hA
          have hn0 : ¬ now < 0 := by have := HNOW.out; omega
          clear hA
          go_enter Try.func29, Try.ntmps29
          go_wp2_with fail
          refine HR.out.mono ?_
          rintro e w1 ⟨rfl, hr1, ho1⟩
          have HR1 := Hid.mk' (And.intro hr1 ho1)
          clear hr1 ho1 HR
          go_wp2_with fail
          go_ret2
          exact ⟨by rw [HA.out.1, HA.out.2]; rfl, HR1.out.1, HR1.out.2⟩
  · have hb : ((q2 : Int) == 0) = false := by rw [beq_eq_false_iff_ne]; omega
    have hA : ans = 0 ∧ er = q2 := by
      rw [← H1.out, ← H2.out, HAE.out, if_pos he]
      exact ⟨rfl, rfl⟩
    have HA := Hid.mk' hA
    clear hA he
    go_enter Try.func29, Try.ntmps29
    go_wp2_with fail
    refine HR.out.mono ?_
    rintro e w1 ⟨rfl, hr1, ho1⟩
    have HR1 := Hid.mk' (And.intro hr1 ho1)
    clear hr1 ho1 HR
    go_wp2_with fail
    go_ret2
    exact ⟨by rw [HA.out.1, HA.out.2]; rfl, HR1.out.1, HR1.out.2⟩
end Go.Proofs.Ytchhdkmflppjhaa
