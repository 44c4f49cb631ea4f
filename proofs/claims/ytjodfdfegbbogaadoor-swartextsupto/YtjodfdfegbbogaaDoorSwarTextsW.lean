/-
  The walk of the law SwarTexts: whatever it is given it returns true, and of what was there nothing turns. Conditions: texts of at most 1048576 bytes, the table of math/bits lies as its text lays it.
-/
import Derived.Test.YtjodfdfegbbogaaDoorRefCom
namespace Go.Proofs.YtjodfdfegbbogaaDoor
open Go.RowKit
set_option linter.unusedVariables false
set_option maxRecDepth 100000 in
set_option maxHeartbeats 4000000 in
theorem texts_any (a b : ByteArray) (w : World) (ha : a.size ≤ 4194304) (hb : b.size ≤ 4194304) (ht : Tab w) :
    Calls Tryd.prog 8 #[.string a, .string b] w fun e w' => e = .returned (.bool true) ∧ Below w.heap.size w w' := by
  have HA := Hid.mk' ha
  have HB := Hid.mk' hb
  have HT := Hid.mk' ht
  obtain ⟨x, HX⟩ : ∃ x, Hid (x = Swar.foldL a) := ⟨_, Hid.mk' rfl⟩
  obtain ⟨sb, HS⟩ : ∃ sb, Hid (sb = Swar.sameL a b) := ⟨_, Hid.mk' rfl⟩
  obtain ⟨k, HK⟩ : ∃ k, Hid (k = Swar.cmpL a b) := ⟨_, Hid.mk' rfl⟩
  obtain ⟨m, HM⟩ : ∃ m, Hid (m = Swar.comL a b) := ⟨_, Hid.mk' rfl⟩
  have heq : ∀ (p q : Bool) (W : World), (binOp .eql 4 (.bool p) (.bool q)).run Tryd.prog W = .ok (.bool (p == q)) W := fun p q W => by cases p <;> cases q <;> rfl
  clear ha hb ht
  go_enter Tryd.func8, Tryd.ntmps8
  go_wp2_with fail
  refine (fold_any a _ (by have := HA.out; omega)).mono ?_
  rintro e w1 ⟨rfl, hb1⟩
  rw [← HX.out]
  have HB1 := Hid.mk' hb1
  clear hb1
  go_wp2_with fail
  refine (refFold_any a _ (by have := HA.out; omega)).mono ?_
  rintro e w2 ⟨rfl, hb2⟩
  rw [← HX.out]
  have HB2 : Hid (Below w.heap.size w w2) := HB1.out.trans (hb2.mono HB1.out.size)
  clear hb2 HB1
  go_wp2_with fail
  refine (sameFold_any a b _ (by have := HA.out; omega) (by have := HB.out; omega)).mono ?_
  rintro e w3 ⟨rfl, n3, rfl⟩
  rw [← HS.out]
  go_wp2_with fail
  refine (refSameFold_any a b _ (by have := HA.out; omega) (by have := HB.out; omega)).mono ?_
  rintro e w4 ⟨rfl, hb4⟩
  rw [← HS.out]
  have HB4 : Hid (Below w.heap.size w w4) := (HB2.out.drewN' n3).trans (hb4.mono HB2.out.size)
  have HT4 : Hid (Tab w4) := Tab.below HB4.out HT.out
  clear hb4 HB2
  go_wp2_with fail
  refine (compare_any a b _ (by have := HA.out; omega) (by have := HB.out; omega) HT4.out).mono ?_
  rintro e w5 ⟨rfl, n5, rfl⟩
  rw [← HK.out]
  go_wp2_with fail
  refine (refCompare_any a b _ (by have := HA.out; omega) (by have := HB.out; omega)).mono ?_
  rintro e w6 ⟨rfl, n6, rfl⟩
  rw [← HK.out]
  go_wp2_with fail
  refine (common_any a b _ (by have := HA.out; omega) (by have := HB.out; omega) (by exact HT4.out)).mono ?_
  rintro e w7 ⟨rfl, n7, rfl⟩
  rw [← HM.out]
  go_wp2_with fail
  refine (refCommon_any a b _ (by have := HA.out; omega) (by have := HB.out; omega)).mono ?_
  rintro e w8 ⟨rfl, n8, rfl⟩
  rw [← HM.out]
  go_wp2_with fail
  go_ret
  refine ⟨?_, HB4.out.os, HB4.out.tape, HB4.out.output, HB4.out.size, HB4.out.block⟩
  rfl
set_option maxRecDepth 100000 in
set_option maxHeartbeats 4000000 in
theorem swarTexts_any (a b c : ByteArray) (w : World) (ha : a.size ≤ 1048576) (hb : b.size ≤ 1048576) (hc : c.size ≤ 1048576) (ht : Tab w) :
    Calls Tryd.prog 3 #[.string a, .string b, .string c] w fun e w' => e = .returned (.bool true) ∧ Below w.heap.size w w' := by
  have HA := Hid.mk' ha
  have HB := Hid.mk' hb
  have HC := Hid.mk' hc
  have HT := Hid.mk' ht
  have a1 : (a.size : Int) ≤ 1048576 := by omega
  have b1 : (b.size : Int) ≤ 1048576 := by omega
  have c1 : (c.size : Int) ≤ 1048576 := by omega
  have HL : Hid (Swar.foldL ⟨#[65, 98, 91]⟩ = ⟨#[97, 98, 91]⟩) := by unfold Hid; decide +kernel
  clear ha hb hc ht
  go_enter Tryd.func3, Tryd.ntmps3
  go_wp2_with fail
  refine (fold_any ⟨#[65, 98, 91]⟩ _ (by decide)).mono ?_
  rintro e w1 ⟨rfl, hb1⟩
  rw [HL.out]
  have HB1 := Hid.mk' hb1
  have HT1 : Hid (Tab w1) := Tab.below hb1 HT.out
  clear hb1
  go_wp2_with fail
  refine (texts_any a b _ (by have := HA.out; omega) (by have := HB.out; omega) HT1.out).mono ?_
  rintro e w2 ⟨rfl, hb2⟩
  have HB2 : Hid (Below w.heap.size w w2) := HB1.out.trans (hb2.mono HB1.out.size)
  have HT2 : Hid (Tab w2) := Tab.below HB2.out HT.out
  clear hb2 HB1
  go_wp2_with fail
  refine (texts_any (c ++ a) (c ++ b) _ (by rw [ByteArray.size_append]; have := HA.out; have := HC.out; omega) (by rw [ByteArray.size_append]; have := HB.out; have := HC.out; omega) HT2.out).mono ?_
  rintro e w3 ⟨rfl, hb3⟩
  have HB3 : Hid (Below w.heap.size w w3) := HB2.out.trans (hb3.mono HB2.out.size)
  clear hb3 HB2
  go_wp2_with fail
  refine (refFold_any (a ++ c) _ (by rw [ByteArray.size_append]; have := HA.out; have := HC.out; omega)).mono ?_
  rintro e w4 ⟨rfl, hb4⟩
  have HB4 : Hid (Below w.heap.size w w4) := HB3.out.trans (hb4.mono HB3.out.size)
  have HT4 : Hid (Tab w4) := Tab.below HB4.out HT.out
  clear hb4 HB3
  go_wp2_with fail
  refine (texts_any (a ++ c) (Swar.foldL (a ++ c)) _ (by rw [ByteArray.size_append]; have := HA.out; have := HC.out; omega) (by rw [Swar.fold_size, ByteArray.size_append]; have := HA.out; have := HC.out; omega) HT4.out).mono ?_
  rintro e w5 ⟨rfl, hb5⟩
  have HB5 : Hid (Below w.heap.size w w5) := HB4.out.trans (hb5.mono HB4.out.size)
  clear hb5 HB4
  go_wp2_with fail
  go_ret
  exact ⟨rfl, HB5.out⟩
end Go.Proofs.YtjodfdfegbbogaaDoor
