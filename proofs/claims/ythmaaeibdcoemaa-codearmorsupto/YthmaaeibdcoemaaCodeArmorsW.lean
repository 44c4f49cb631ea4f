/-
  The walk of the law CodeArmors: whatever text it is given it returns true, and of what was there nothing turns. Conditions: a text of at most 1048576 bytes.
-/
import Derived.Test.YthmaaeibdcoemaaRefPln
namespace Go.Proofs.Ythmaaeibdcoemaa
open Go.RowKit
set_option linter.unusedVariables false
set_option maxRecDepth 100000 in
set_option maxHeartbeats 1000000 in
theorem codeArmors_any (s : ByteArray) (w : World) (hs : s.size ≤ 1048576) :
    Calls Try.prog 4 #[.string s] w fun e w' => e = .returned (.bool true) ∧ Below w.heap.size w w' := by
  obtain ⟨P, HP⟩ : ∃ P, Hid (P = Code.plain (Sums.bl s)) := ⟨_, Hid.mk' rfl⟩
  obtain ⟨a, HA⟩ : ∃ a, Hid (a = nums (Code.arm 0 0 (Sums.bl s))) := ⟨_, Hid.mk' rfl⟩
  obtain ⟨p, HP1⟩ : ∃ p, Hid (p = nums P.1) := ⟨_, Hid.mk' rfl⟩
  obtain ⟨E, HP2⟩ : ∃ E, Hid (E = P.2.1) := ⟨_, Hid.mk' rfl⟩
  obtain ⟨t, HP3⟩ : ∃ t, Hid (t = P.2.2) := ⟨_, Hid.mk' rfl⟩
  have HS := Hid.mk' hs
  clear hs
  go_enter Try.func4, Try.ntmps4
  go_wp2_with fail
  refine (known_any w).mono ?_
  rintro e w1 ⟨rfl, hb1⟩
  have HB1 := Hid.mk' hb1
  clear hb1
  go_wp2_with fail
  refine (armor_any s w1 (by have := HS.out; omega)).mono ?_
  rintro e w2 ⟨rfl, hb2⟩
  rw [← HA.out]
  have HB2 : Hid (Below w.heap.size w w2) := HB1.out.trans (hb2.mono HB1.out.size)
  clear hb2
  go_wp2_with fail
  refine (plain_any s w2 (by have := HS.out; omega)).mono ?_
  rintro e w3 ⟨he, hb3⟩
  rw [← HP.out, ← HP1.out, ← HP2.out, ← HP3.out] at he
  subst he
  have HB3 : Hid (Below w.heap.size w w3) := HB2.out.trans (hb3.mono HB2.out.size)
  clear hb3
  go_wp2_with fail
  refine (refPlain_any s w3 (by have := HS.out; omega)).mono ?_
  rintro e w4 ⟨he, hb4⟩
  rw [← HP.out, ← HP1.out, ← HP2.out, ← HP3.out] at he
  subst he
  have HB4 : Hid (Below w.heap.size w w4) := HB3.out.trans (hb4.mono HB3.out.size)
  clear hb4
  go_wp2_with fail
  refine (refArmor_any s w4 (by have := HS.out; omega)).mono ?_
  rintro e w5 ⟨rfl, hb5⟩
  rw [← HA.out]
  have HB5 : Hid (Below w.heap.size w w5) := HB4.out.trans (hb5.mono HB4.out.size)
  clear hb5
  go_wp2_with fail
  go_ret
  exact ⟨rfl, HB5.out⟩
end Go.Proofs.Ythmaaeibdcoemaa
