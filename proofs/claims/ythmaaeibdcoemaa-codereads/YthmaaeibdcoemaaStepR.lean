/-
  What the law's step does: both Readers answer the same, and come to one place. Conditions: as it says.
-/
import Derived.Test.YthmaaeibdcoemaaRefRf
namespace Go.Proofs.Ythmaaeibdcoemaa
open Go.RowKit
set_option linter.unusedVariables false
/-- of what was there only blocks g and h are written -/
structure Two (g h : Nat) (w w' : World) : Prop where
  os : w'.os = w.os
  tape : w'.tape = w.tape
  output : w'.output = w.output
  size : w.heap.size ≤ w'.heap.size
  block : ∀ k, k < w.heap.size → k ≠ g → k ≠ h → w'.heap[k]? = w.heap[k]?
theorem Two.refl (g h : Nat) (w : World) : Two g h w w := ⟨rfl, rfl, rfl, Nat.le_refl _, fun _ _ _ _ => rfl⟩
theorem Two.trans {g h : Nat} {a b c : World} (x : Two g h a b) (y : Two g h b c) : Two g h a c :=
  ⟨y.os.trans x.os, y.tape.trans x.tape, y.output.trans x.output, Nat.le_trans x.size y.size, fun i hi h1 h2 => (y.block i (Nat.lt_of_lt_of_le hi x.size) h1 h2).trans (x.block i hi h1 h2)⟩
theorem Only.two1 {g h : Nat} {a b : World} (x : Only g a b) : Two g h a b := ⟨x.os, x.tape, x.output, x.size, fun i hi h1 _ => x.block i hi h1⟩
theorem Only.two2 {g h : Nat} {a b : World} (x : Only h a b) : Two g h a b := ⟨x.os, x.tape, x.output, x.size, fun i hi _ h2 => x.block i hi h2⟩
theorem Two.of_below {g h : Nat} {a b : World} (x : Below a.heap.size a b) : Two g h a b := ⟨x.os, x.tape, x.output, x.size, fun k hk _ _ => x.block k hk⟩
theorem Two.drewN {g h : Nat} {a b : World} (x : Two g h a b) (n : Nat) : Two g h a (b.drewN n) := ⟨x.os, x.tape, x.output, x.size, x.block⟩
theorem Two.below {g h B : Nat} {a b : World} (x : Two g h a b) (hg : B ≤ g) (hh : B ≤ h) (hs : B ≤ a.heap.size) : Below B a b := ⟨x.os, x.tape, x.output, x.size, fun k hk => x.block k (by omega) (by omega) (by omega)⟩
/-- the place behind a step -/
def stepP (s : ByteArray) (a : Nat) (k n : Int) : Nat :=
  if k = 1 ∨ k = 2 then a + (rdAt s a).2.2 else if k = 3 then a + (textR s a).2.2 else if k = 4 then a + (rfixR s a n).2.2 else if k = 5 then a + (takeR s a n).2.2 else a
theorem textR_le (s : ByteArray) (a : Nat) (ha : a ≤ s.size) : a + (textR s a).2.2 ≤ s.size := by
  have h := rdAt_lt s a ha
  unfold textR
  split
  · exact ha
  · split
    · exact ha
    · show a + ((rdAt s a).2.2 + (rdAt s a).1) ≤ s.size
      omega
theorem rfixR_le (s : ByteArray) (a : Nat) (k : Int) (ha : a ≤ s.size) : a + (rfixR s a k).2.2 ≤ s.size := by
  unfold rfixR
  split
  · exact ha
  · split
    · assumption
    · exact ha
theorem takeR_le (s : ByteArray) (a : Nat) (n : Int) (ha : a ≤ s.size) : a + (takeR s a n).2.2 ≤ s.size := by
  unfold takeR
  split
  · exact ha
  · split
    · exact ha
    · show a + n.toNat ≤ s.size
      omega
theorem stepP_le (s : ByteArray) (a : Nat) (k n : Int) (ha : a ≤ s.size) : stepP s a k n ≤ s.size := by
  unfold stepP
  split
  · exact (rdAt_lt s a ha).2
  · split
    · exact textR_le s a ha
    · split
      · exact rfixR_le s a n ha
      · split
        · exact takeR_le s a n ha
        · exact ha
set_option maxRecDepth 100000 in
set_option maxHeartbeats 4000000 in
theorem step_any (g h : Nat) (s : ByteArray) (a : Nat) (k o n : Int) (w : World) (hr : Rdr g s a w) (hq : Rd2 h s a w) (hgh : g ≠ h) (ha : a ≤ s.size) (hs : s.size ≤ 281474976710656) (hn : n ≤ 9223372036854775807) :
    Calls Try.prog 25 #[.pointer (some ⟨g, 0, none⟩), .pointer (some ⟨h, 0, none⟩), .agg #[.int .i64 k, .int .i64 o, .int .i64 n]] w fun e w' => e = .returned (.bool true) ∧ Rdr g s (stepP s a k n) w' ∧ Rd2 h s (stepP s a k n) w' ∧ Two g h w w' := by
  obtain ⟨W, hW⟩ : ∃ W, W = w.alloc (.cells #[.int .i64 k, .int .i64 o, .int .i64 n] 43) := ⟨_, rfl⟩
  have hb : Below w.heap.size w W := by rw [hW]; exact (Below.refl _ _).alloc (Nat.le_refl _) _
  have HR := Hid.mk' (hr.below hb hr.lt)
  have HQ := Hid.mk' (hq.below hb hq.lt)
  have HT : Hid (Two g h w W) := Two.of_below hb
  have HGH := Hid.mk' hgh
  have HA := Hid.mk' ha
  have HS := Hid.mk' hs
  have HN := Hid.mk' hn
  have HG : Hid (g < w.heap.size ∧ h < w.heap.size) := ⟨hr.lt, hq.lt⟩
  have HZ : Hid (w.heap.size < W.heap.size) := by rw [hW]; show _ < _; simp
  have d2 : W.cell? ⟨w.heap.size, 2, none⟩ = some (.int .i64 n) := by rw [hW]; simp [go_sem]
  have HW := Hid.mk' hW
  clear hb hr hq hgh ha hs hn hW
  by_cases k1 : k = 1
  · subst k1
    have HP : Hid (stepP s a 1 n = a + (rdAt s a).2.2) := by unfold Hid stepP; rw [if_pos (.inl rfl)]
    obtain ⟨u, HU⟩ : ∃ u, Hid (u = (rdAt s a).1) := ⟨_, Hid.mk' rfl⟩
    obtain ⟨e, HE⟩ : ∃ e, Hid (e = (rdAt s a).2.1) := ⟨_, Hid.mk' rfl⟩
    go_enter Try.func25, Try.ntmps25
    go_wp2_with fail
    rw [← HW.out]
    refine (ruint_any g s a W HR.out HA.out (by have := HS.out; omega)).mono ?_
    rintro e0 w1 ⟨rfl, hr1, ho1⟩
    rw [← HU.out, ← HE.out]
    have HR1 := Hid.mk' hr1
    have HQ1 := Hid.mk' (HQ.out.other ho1 HGH.out.symm)
    have HT1 : Hid (Two g h w w1) := HT.out.trans ho1.two1
    clear hr1 ho1
    go_wp2_with fail
    refine (refUintR_any h s a w1 HQ1.out HA.out (by have := HS.out; omega)).mono ?_
    rintro e0 w2 ⟨rfl, hr2, ho2⟩
    rw [← HU.out, ← HE.out]
    have HQ2 := Hid.mk' hr2
    have HR2 := Hid.mk' (HR1.out.other ho2 HGH.out)
    have HT2 : Hid (Two g h w w2) := HT1.out.trans ho2.two2
    clear hr2 ho2
    go_wp2_with fail
    go_ret
    rw [HP.out]
    exact ⟨rfl, HR2.out, HQ2.out, HT2.out⟩
  by_cases k2 : k = 2
  · subst k2
    have HP : Hid (stepP s a 2 n = a + (rdAt s a).2.2) := by unfold Hid stepP; rw [if_pos (.inr rfl)]
    obtain ⟨u, HU⟩ : ∃ u, Hid (u = Code.zag (rdAt s a).1) := ⟨_, Hid.mk' rfl⟩
    obtain ⟨e, HE⟩ : ∃ e, Hid (e = (rdAt s a).2.1) := ⟨_, Hid.mk' rfl⟩
    go_enter Try.func25, Try.ntmps25
    go_wp2_with fail
    rw [← HW.out]
    refine (rint_any g s a W HR.out HA.out (by have := HS.out; omega)).mono ?_
    rintro e0 w1 ⟨rfl, hr1, ho1⟩
    rw [← HU.out, ← HE.out]
    have HR1 := Hid.mk' hr1
    have HQ1 := Hid.mk' (HQ.out.other ho1 HGH.out.symm)
    have HT1 : Hid (Two g h w w1) := HT.out.trans ho1.two1
    clear hr1 ho1
    go_wp2_with fail
    refine (refIntR_any h s a w1 HQ1.out HA.out (by have := HS.out; omega)).mono ?_
    rintro e0 w2 ⟨rfl, hr2, ho2⟩
    rw [← HU.out, ← HE.out]
    have HQ2 := Hid.mk' hr2
    have HR2 := Hid.mk' (HR1.out.other ho2 HGH.out)
    have HT2 : Hid (Two g h w w2) := HT1.out.trans ho2.two2
    clear hr2 ho2
    go_wp2_with fail
    go_ret
    rw [HP.out]
    exact ⟨rfl, HR2.out, HQ2.out, HT2.out⟩
  by_cases k3 : k = 3
  · subst k3
    have HP : Hid (stepP s a 3 n = a + (textR s a).2.2) := by unfold Hid stepP; rw [if_neg (by decide), if_pos rfl]
    obtain ⟨u, HU⟩ : ∃ u, Hid (u = (textR s a).1) := ⟨_, Hid.mk' rfl⟩
    obtain ⟨e, HE⟩ : ∃ e, Hid (e = (textR s a).2.1) := ⟨_, Hid.mk' rfl⟩
    go_enter Try.func25, Try.ntmps25
    go_wp2_with fail
    rw [← HW.out]
    refine (rtext_any g s a W HR.out HA.out (by have := HS.out; omega)).mono ?_
    rintro e0 w1 ⟨rfl, hr1, ho1⟩
    rw [← HU.out, ← HE.out]
    have HR1 := Hid.mk' hr1
    have HQ1 := Hid.mk' (HQ.out.other ho1 HGH.out.symm)
    have HT1 : Hid (Two g h w w1) := HT.out.trans ho1.two1
    clear hr1 ho1
    go_wp2_with fail
    refine (refTextR_any h s a w1 HQ1.out HA.out (by have := HS.out; omega)).mono ?_
    rintro e0 w2 ⟨rfl, hr2, ho2⟩
    rw [← HU.out, ← HE.out]
    have HQ2 := Hid.mk' hr2
    have HR2 := Hid.mk' (HR1.out.other ho2 HGH.out)
    have HT2 : Hid (Two g h w w2) := HT1.out.trans ho2.two2
    clear hr2 ho2
    go_wp2_with fail
    go_ret
    rw [HP.out]
    exact ⟨rfl, HR2.out, HQ2.out, HT2.out⟩
  by_cases k4 : k = 4
  · subst k4
    have HP : Hid (stepP s a 4 n = a + (rfixR s a n).2.2) := by unfold Hid stepP; rw [if_neg (by decide), if_neg (by decide), if_pos rfl]
    obtain ⟨u, HU⟩ : ∃ u, Hid (u = (rfixR s a n).1) := ⟨_, Hid.mk' rfl⟩
    obtain ⟨e, HE⟩ : ∃ e, Hid (e = (rfixR s a n).2.1) := ⟨_, Hid.mk' rfl⟩
    go_enter Try.func25, Try.ntmps25
    go_wp2_with fail
    rw [← HW.out]
    refine (rfix_any g s a n W HR.out HA.out (by have := HS.out; omega)).mono ?_
    rintro e0 w1 ⟨rfl, hr1, ho1⟩
    rw [← HU.out, ← HE.out]
    have HR1 := Hid.mk' hr1
    have HQ1 := Hid.mk' (HQ.out.other ho1 HGH.out.symm)
    have HT1 : Hid (Two g h w w1) := HT.out.trans ho1.two1
    have e2 : w1.cell? ⟨w.heap.size, 2, none⟩ = some (.int .i64 n) := (ho1.cell HZ.out (by have := HG.out; omega)).trans d2
    clear hr1 ho1
    go_wp2_with fail
    refine (refFixR_any h s a n w1 HQ1.out HA.out (by have := HS.out; omega)).mono ?_
    rintro e0 w2 ⟨rfl, hr2, ho2⟩
    rw [← HU.out, ← HE.out]
    have HQ2 := Hid.mk' hr2
    have HR2 := Hid.mk' (HR1.out.other ho2 HGH.out)
    have HT2 : Hid (Two g h w w2) := HT1.out.trans ho2.two2
    clear hr2 ho2
    go_wp2_with fail
    go_ret
    rw [HP.out]
    exact ⟨rfl, HR2.out, HQ2.out, HT2.out⟩
  by_cases k5 : k = 5
  · subst k5
    have HP : Hid (stepP s a 5 n = a + (takeR s a n).2.2) := by unfold Hid stepP; rw [if_neg (by decide), if_neg (by decide), if_neg (by decide), if_pos rfl]
    obtain ⟨u, HU⟩ : ∃ u, Hid (u = (takeR s a n).1) := ⟨_, Hid.mk' rfl⟩
    obtain ⟨e, HE⟩ : ∃ e, Hid (e = (takeR s a n).2.1) := ⟨_, Hid.mk' rfl⟩
    go_enter Try.func25, Try.ntmps25
    go_wp2_with fail
    rw [← HW.out]
    refine (rtake_any g s a n W HR.out HA.out (by have := HS.out; omega)).mono ?_
    rintro e0 w1 ⟨rfl, hr1, ho1⟩
    rw [← HU.out, ← HE.out]
    have HR1 := Hid.mk' hr1
    have HQ1 := Hid.mk' (HQ.out.other ho1 HGH.out.symm)
    have HT1 : Hid (Two g h w w1) := HT.out.trans ho1.two1
    have e2 : w1.cell? ⟨w.heap.size, 2, none⟩ = some (.int .i64 n) := (ho1.cell HZ.out (by have := HG.out; omega)).trans d2
    clear hr1 ho1
    go_wp2_with fail
    refine (refTake_any h s a n w1 HQ1.out HA.out (by have := HS.out; omega) HN.out).mono ?_
    rintro e0 w2 ⟨rfl, hr2, ho2⟩
    rw [← HU.out, ← HE.out]
    have HQ2 := Hid.mk' hr2
    have HR2 := Hid.mk' (HR1.out.other ho2 HGH.out)
    have HT2 : Hid (Two g h w w2) := HT1.out.trans ho2.two2
    clear hr2 ho2
    go_wp2_with fail
    go_ret
    rw [HP.out]
    exact ⟨rfl, HR2.out, HQ2.out, HT2.out⟩
  by_cases k6 : k = 6
  · subst k6
    have HP : Hid (stepP s a 6 n = a) := by unfold Hid stepP; rw [if_neg (by decide), if_neg (by decide), if_neg (by decide), if_neg (by decide)]
    obtain ⟨v, HVV⟩ : ∃ v : Int, Hid (v = (a : Int)) := ⟨_, Hid.mk' rfl⟩
    go_enter Try.func25, Try.ntmps25
    go_wp2_with fail
    rw [← HW.out]
    refine (at_any g s a W HR.out).mono ?_
    rintro e0 w1 ⟨rfl, hw'⟩
    rw [hw', ← HVV.out]
    clear hw' w1
    go_wp2_with fail
    refine (refAt_any h s a W HQ.out).mono ?_
    rintro e0 w2 ⟨rfl, hw'⟩
    rw [hw', ← HVV.out]
    clear hw' w2
    go_wp2_with fail
    go_ret
    rw [HP.out]
    exact ⟨rfl, HR.out, HQ.out, HT.out⟩
  by_cases k7 : k = 7
  · subst k7
    have HP : Hid (stepP s a 7 n = a) := by unfold Hid stepP; rw [if_neg (by decide), if_neg (by decide), if_neg (by decide), if_neg (by decide)]
    obtain ⟨v, HVV⟩ : ∃ v : Int, Hid (v = ((s.size - a : Nat) : Int)) := ⟨_, Hid.mk' rfl⟩
    go_enter Try.func25, Try.ntmps25
    go_wp2_with fail
    rw [← HW.out]
    refine (left_any g s a W HR.out HA.out (by have := HS.out; omega)).mono ?_
    rintro e0 w1 ⟨rfl, m1, hw'⟩
    rw [hw', ← HVV.out]
    clear hw' w1
    go_wp2_with fail
    refine (refLeft_any h s a (W.drewN m1) HQ.out HA.out (by have := HS.out; omega)).mono ?_
    rintro e0 w2 ⟨rfl, m2, hw'⟩
    rw [hw', ← HVV.out]
    clear hw' w2
    go_wp2_with fail
    go_ret
    rw [HP.out]
    exact ⟨rfl, HR.out, HQ.out, HT.out.drewN _⟩
  by_cases k8 : k = 8
  · subst k8
    have HP : Hid (stepP s a 8 n = a) := by unfold Hid stepP; rw [if_neg (by decide), if_neg (by decide), if_neg (by decide), if_neg (by decide)]
    obtain ⟨v, HVV⟩ : ∃ v : Int, Hid (v = if a < s.size then 34 else 0) := ⟨_, Hid.mk' rfl⟩
    go_enter Try.func25, Try.ntmps25
    go_wp2_with fail
    rw [← HW.out]
    refine (end_any g s a W HR.out HA.out (by have := HS.out; omega)).mono ?_
    rintro e0 w1 ⟨rfl, m1, hw'⟩
    rw [hw', ← HVV.out]
    clear hw' w1
    go_wp2_with fail
    refine (refEnd_any h s a (W.drewN m1) HQ.out HA.out (by have := HS.out; omega)).mono ?_
    rintro e0 w2 ⟨rfl, m2, hw'⟩
    rw [hw', ← HVV.out]
    clear hw' w2
    go_wp2_with fail
    go_ret
    rw [HP.out]
    exact ⟨rfl, HR.out, HQ.out, HT.out.drewN _⟩
  have HP : Hid (stepP s a k n = a) := by unfold Hid stepP; rw [if_neg (by omega), if_neg k3, if_neg k4, if_neg k5]
  have q1 : (k == 1) = false := beq_eq_false_iff_ne.2 k1
  have q2 : (k == 2) = false := beq_eq_false_iff_ne.2 k2
  have q3 : (k == 3) = false := beq_eq_false_iff_ne.2 k3
  have q4 : (k == 4) = false := beq_eq_false_iff_ne.2 k4
  have q5 : (k == 5) = false := beq_eq_false_iff_ne.2 k5
  have q6 : (k == 6) = false := beq_eq_false_iff_ne.2 k6
  have q7 : (k == 7) = false := beq_eq_false_iff_ne.2 k7
  have q8 : (k == 8) = false := beq_eq_false_iff_ne.2 k8
  clear k1 k2 k3 k4 k5 k6 k7 k8
  go_enter Try.func25, Try.ntmps25
  go_wp2_with fail
  rw [← HW.out]
  go_ret
  rw [HP.out]
  exact ⟨rfl, HR.out, HQ.out, HT.out⟩
end Go.Proofs.Ythmaaeibdcoemaa
