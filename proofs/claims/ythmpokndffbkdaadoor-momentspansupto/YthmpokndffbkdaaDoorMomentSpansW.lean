/-
  The law MomentSpans is true. Conditions: a text of at most 4000000000 bytes; the tables lie as the programs' texts lay them.
-/
import Derived.Test.YthmpokndffbkdaaDoorSpG
import Derived.Test.YthmpokndffbkdaaDoorRsC
namespace Go.Proofs.YthmpokndffbkdaaDoor
open Go.RowKit
set_option linter.unusedVariables false
theorem span_both (s : ByteArray) (hs : s.size ≤ 4000000000) : ∃ a c : Int, (∀ w, UnT w → Calls Tryd.prog 19 #[.string s] w fun e w' => e = .returned (.tuple #[.int .i64 a, .int .i64 c]) ∧ Below w.heap.size w w') ∧ (∀ w, Calls Tryd.prog 20 #[.string s] w fun e w' => e = .returned (.tuple #[.int .i64 a, .int .i64 c]) ∧ Below w.heap.size w w') := by
  have h2 := span_two (Sums.bl s)
  rw [Sums.bl_length] at h2
  obtain ⟨a, c, h⟩ : ∃ a c : Int, rsR (rsF (s.size + 1) (Sums.bl s) 0 0) = .returned (.tuple #[.int .i64 a, .int .i64 c]) := by
    unfold rsR
    split <;> exact ⟨_, _, rfl⟩
  refine ⟨a, c, fun w hu => ?_, fun w => ?_⟩
  · have := spanV s w hs hu
    rw [← h2, h] at this
    exact this
  · have := rSpan_any s w (by omega)
    rw [h] at this
    exact this
theorem spell_both (n : Int) : ∃ (t : ByteArray) (c : Int), (∀ w, UnT w → Pow w → Calls Tryd.prog 21 #[.int .i64 n] w fun e w' => e = .returned (.tuple #[.string t, .int .i64 c]) ∧ Below w.heap.size w w') ∧ (∀ w, Calls Tryd.prog 22 #[.int .i64 n] w fun e w' => e = .returned (.tuple #[.string t, .int .i64 c]) ∧ Below w.heap.size w w') := by
  by_cases h : 1 ≤ n ∧ n ≤ 253402300799999
  · obtain ⟨n, rfl⟩ := Int.eq_ofNat_of_zero_le (show 0 ≤ n by omega)
    exact ⟨_, _, fun w hu hp => spell_any n w (by omega) (by omega) hu hp, fun w => rSpell_any n w (by omega) (by omega)⟩
  · refine ⟨ByteArray.empty, 121, fun w _ _ => (spell_bad n w h).mono ?_, fun w => (rSpell_bad n w h).mono ?_⟩
    · rintro e w' ⟨rfl, rfl⟩
      exact ⟨rfl, Below.refl _ _⟩
    · rintro e w' ⟨rfl, rfl⟩
      exact ⟨rfl, Below.refl _ _⟩
set_option maxRecDepth 100000 in
set_option maxHeartbeats 4000000 in
theorem momentSpans_any (s : ByteArray) (n : Int) (w : World) (hs : s.size ≤ 4000000000) (hn0 : -9223372036854775808 ≤ n) (hn1 : n ≤ 9223372036854775807) (hu : UnT w) (hp : Pow w) :
    Calls Tryd.prog 4 #[.string s, .int .i64 n] w fun e w' => e = .returned (.bool true) ∧ Below w.heap.size w w' := by
  have HK := Hid.mk' (known_any w hu hp)
  obtain ⟨a, c, A1, A2⟩ := span_both s hs
  obtain ⟨t, d, B1, B2⟩ := spell_both n
  have HA1 := Hid.mk' A1
  have HA2 := Hid.mk' A2
  have HB1 := Hid.mk' B1
  have HB2 := Hid.mk' B2
  clear A1 A2 B1 B2 hu hp hs hn0 hn1
  go_enter Tryd.func4, Tryd.ntmps4
  go_wp2_with fail
  refine HK.out.mono ?_
  rintro e w1 ⟨rfl, hl⟩
  have H1 := Hid.mk' hl
  clear hl HK
  go_wp2_with fail
  refine (HA1.out _ H1.out.un).mono ?_
  rintro e w2 ⟨rfl, hb⟩
  have H2 := Hid.mk' (H1.out.next hb)
  clear hb H1
  go_wp2_with fail
  refine (HA2.out _).mono ?_
  rintro e w3 ⟨rfl, hb⟩
  have H3 := Hid.mk' (H2.out.next hb)
  clear hb H2
  go_wp2_with fail
  refine (HB1.out _ H3.out.un H3.out.pow).mono ?_
  rintro e w4 ⟨rfl, hb⟩
  have H4 := Hid.mk' (H3.out.next hb)
  clear hb H3
  go_wp2_with fail
  refine (HB2.out _).mono ?_
  rintro e w5 ⟨rfl, hb⟩
  have H5 := Hid.mk' (H4.out.next hb)
  clear hb H4
  go_wp2_with fail
  go_ret
  exact ⟨rfl, H5.out.bel⟩
end Go.Proofs.YthmpokndffbkdaaDoor
