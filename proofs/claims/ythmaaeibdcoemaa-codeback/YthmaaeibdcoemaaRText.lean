/-
  What a Reader's Text does. Conditions: as each says.
-/
import Derived.Test.YthmaaeibdcoemaaRTake
import Derived.Test.YthmaaeibdcoemaaAttS
namespace Go.Proofs.Ythmaaeibdcoemaa
open Go.RowKit
set_option linter.unusedVariables false
/-- what Text answers, and how far it goes on -/
def textR (s : ByteArray) (a : Nat) : ByteArray × Nat × Nat :=
  if (rdAt s a).2.1 ≠ 0 then (⟨#[]⟩, (rdAt s a).2.1, 0) else if s.size - (a + (rdAt s a).2.2) < (rdAt s a).1 then (⟨#[]⟩, 30, 0) else (s.extract (a + (rdAt s a).2.2) (a + (rdAt s a).2.2 + (rdAt s a).1), 0, (rdAt s a).2.2 + (rdAt s a).1)
set_option maxRecDepth 100000 in
set_option maxHeartbeats 1000000 in
theorem textIn_any (g bx : Nat) (s : ByteArray) (a : Nat) (w : World) (h : Rdr g s a w) (hbx : w.cell? ⟨bx, 0, none⟩ = some (.pointer (some ⟨g, 0, none⟩))) (hbl : bx < w.heap.size) (hbg : bx ≠ g) (ha : a ≤ s.size) (hs : s.size ≤ 281474976710656) :
    Calls Try.prog 59 #[.pointer (some ⟨bx, 0, none⟩)] w fun e w' => e = .returned (.tuple #[.string (textR s a).1, .int .i64 ((textR s a).2.1 : Int)]) ∧ ∃ a', Rdr g s a' w' ∧ Only g w w' ∧ ((textR s a).2.1 = 0 → a' = a + (textR s a).2.2) := by
  have HLT := Hid.mk' (rdAt_lt s a ha)
  go_enter Try.func59, Try.ntmps59
  go_wp2_with fail
  refine (ruint_any g s a w h ha (by omega)).mono ?_
  rintro e w1 ⟨rfl, hr1, ho1⟩
  have hb1 : w1.cell? ⟨bx, 0, none⟩ = some (.pointer (some ⟨g, 0, none⟩)) := (ho1.cell hbl hbg).trans hbx
  have hbl1 : Hid (bx < w1.heap.size) := Nat.lt_of_lt_of_le hbl ho1.size
  obtain ⟨n, HN⟩ : ∃ n, Hid (n = (rdAt s a).1) := ⟨_, rfl⟩
  obtain ⟨E, HE⟩ : ∃ E, Hid (E = (rdAt s a).2.1) := ⟨_, rfl⟩
  obtain ⟨k, HK⟩ : ∃ k, Hid (k = (rdAt s a).2.2) := ⟨_, rfl⟩
  have HTR : Hid (textR s a = if E ≠ 0 then (⟨#[]⟩, E, 0) else if s.size - (a + k) < n then (⟨#[]⟩, 30, 0) else (s.extract (a + k) (a + k + n), 0, k + n)) := by unfold Hid textR; rw [HN.out, HE.out, HK.out]
  rw [← HN.out, ← HE.out]
  rw [← HK.out] at hr1
  have HL2 : Hid (n < 18446744073709551616 ∧ a + k ≤ s.size) := by rw [HN.out, HK.out]; exact HLT.out
  have HR1 := Hid.mk' hr1
  have HO1 := Hid.mk' ho1
  have HS := Hid.mk' hs
  clear hr1 ho1 h hbx hbl ha hs HLT HN HE HK
  by_cases hE : E = 0
  · subst hE
    by_cases hn : s.size - (a + k) < n
    · have HT2 : Hid (textR s a = (⟨#[]⟩, 30, 0)) := by unfold Hid; rw [HTR.out, if_neg (by omega), if_pos hn]
      have h1 : decide (((s.size - (a + k) : Nat) : Int) < (n : Int)) = true := decide_eq_true (by omega)
      clear HTR
      go_wp2_with fail
      refine (left_any g s (a + k) w1 HR1.out HL2.out.2 (by have := HS.out; omega)).mono ?_
      rintro e w2 ⟨rfl, m, rfl⟩
      have h2 : ((s.size - (a + k) : Nat) : Int) ≤ 281474976710656 := by have := HS.out; omega
      generalize s.size - (a + k) = r at *
      go_wp2_with fail
      go_ret2
      rw [HT2.out]
      exact ⟨rfl, a + k, HR1.out, HO1.out.drewN m, fun h => by simp at h⟩
    · have HT2 : Hid (textR s a = (s.extract (a + k) (a + k + n), 0, k + n)) := by unfold Hid; rw [HTR.out, if_neg (by omega), if_neg hn]
      have h1 : decide (((s.size - (a + k) : Nat) : Int) < (n : Int)) = false := decide_eq_false (by omega)
      clear HTR
      go_wp2_with fail
      refine (left_any g s (a + k) w1 HR1.out HL2.out.2 (by have := HS.out; omega)).mono ?_
      rintro e w2 ⟨rfl, m, rfl⟩
      have h2 : ((s.size - (a + k) : Nat) : Int) ≤ 281474976710656 := by have := HS.out; omega
      have h3 : (n : Int) ≤ 281474976710656 := by omega
      have HNN : Hid (a + k + n ≤ s.size ∧ n ≤ 281474976710656) := by have := HL2.out.2; exact ⟨by omega, by omega⟩
      generalize s.size - (a + k) = r at *
      go_wp2_with fail
      refine (rtake_in g s (a + k) n (w1.drewN m) HR1.out (by have := HS.out; omega) HNN.out.1 HNN.out.2).mono ?_
      rintro e w3 ⟨rfl, hr3, ho3⟩
      have HR3 := Hid.mk' hr3
      have HO3 := Hid.mk' ho3
      clear hr3 ho3
      go_wp2_with fail
      go_ret2
      rw [HT2.out]
      exact ⟨rfl, a + k + n, HR3.out, (HO1.out.drewN m).trans HO3.out, fun _ => by show a + k + n = a + (k + n); omega⟩
  · have HT2 : Hid (textR s a = (⟨#[]⟩, E, 0)) := by unfold Hid; rw [HTR.out, if_pos hE]
    have hne : ((E : Int) != 0) = true := by simp; exact hE
    have HE0 := Hid.mk' hE
    clear hE HTR
    go_wp2_with fail
    go_ret2
    rw [HT2.out]
    exact ⟨rfl, a + k, HR1.out, HO1.out, fun h => absurd h HE0.out⟩
theorem ent_text (args : Array Value) (w : World) : (callFunc 59 args).run Try.prog w = .ok (.enter 59 args) w :=
  call_enter Try.func59 (by kernel_rfl) rfl args w
theorem textR_err (s : ByteArray) (a : Nat) (h : (textR s a).2.1 ≠ 0) : (textR s a).2.2 = 0 ∧ (textR s a).1 = ⟨#[]⟩ := by
  unfold textR at h ⊢
  split
  · exact ⟨rfl, rfl⟩
  · split
    · exact ⟨rfl, rfl⟩
    · rename_i h1 h2
      rw [if_neg h1, if_neg h2] at h
      exact absurd rfl h
set_option maxHeartbeats 1000000 in
theorem rtext_any (g : Nat) (s : ByteArray) (a : Nat) (w : World) (h : Rdr g s a w) (ha : a ≤ s.size) (hs : s.size ≤ 281474976710656) :
    Calls Try.prog 35 #[.pointer (some ⟨g, 0, none⟩)] w fun e w' => e = .returned (.tuple #[.string (textR s a).1, .int .i64 ((textR s a).2.1 : Int)]) ∧ Rdr g s (a + (textR s a).2.2) w' ∧ Only g w w' := by
  have hmf : ∀ (fn : Fn) (first cap : Array Value) (w : World), (Instr.makeFunc fn first cap).run Try.prog w = .ok (.func fn first cap) w := fun _ _ _ _ => rfl
  have HH := Hid.mk' h
  have HA := Hid.mk' ha
  have HS := Hid.mk' hs
  have HG : Hid (g < w.heap.size) := h.lt
  clear h ha hs
  go_enter Try.func35, Try.ntmps35
  go_wp2_with fail
  have hb0 : Below w.heap.size w (w.alloc (.cells #[.pointer (some ⟨g, 0, none⟩)] 35)) := (Below.refl _ _).alloc (Nat.le_refl _) _
  have hr0 := HH.out.below hb0 HG.out
  refine (attempt_s 59 #[] #[.pointer (some ⟨w.heap.size, 0, none⟩)] g s a (a + (textR s a).2.2) (textR s a).1 (textR s a).2.1 _ hr0 ?_ (fun w => ent_text _ w) ?_).mono ?_
  · intro hE
    have := (textR_err s a hE).1
    omega
  · intro w1 hr1 ho1
    have hg := HG.out
    refine textIn_any g w.heap.size s a w1 hr1 ?_ (Nat.lt_of_lt_of_le (by simp) ho1.size) (by omega) HA.out HS.out
    rw [ho1.cell (by simp) (by omega)]
    simp [go_sem]
  rintro e w2 ⟨rfl, hr2, ho2⟩
  have HR2 := Hid.mk' hr2
  have HO2 : Hid (Only g w w2) := (Only.of_below hb0).trans ho2
  clear hr2 ho2 hr0 hb0
  go_wp2_with fail
  go_ret2
  exact ⟨rfl, HR2.out, HO2.out⟩
end Go.Proofs.Ythmaaeibdcoemaa
