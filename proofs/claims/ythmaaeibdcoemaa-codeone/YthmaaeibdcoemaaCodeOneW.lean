/-
  The walk of the law CodeOne: whatever numbers, ints and texts it is given it returns true, and of what was there nothing turns. Conditions: numbers and ints of 64 bits, texts no longer than a text that is read can be.
-/
import Derived.Test.YthmaaeibdcoemaaBeg
namespace Go.Proofs.Ythmaaeibdcoemaa
open Go.RowKit
set_option linter.unusedVariables false
theorem beg_uint (a b : Nat) (ha : a < 18446744073709551616) (hb : b < 18446744073709551616) : begB (nums (Code.uint a)) (nums (Code.uint b)) = ((a : Int) == (b : Int)) := by
  by_cases h : a = b
  · subst h
    rw [beq_self_eq_true]
    exact (begB_iff _ _).2 ⟨[], by rw [List.append_nil]⟩
  · rw [beq_eq_false_iff_ne.2 (by omega)]
    refine Bool.eq_false_iff.2 fun e => ?_
    obtain ⟨r, hr⟩ := (begB_iff _ _).1 e
    rw [bl_nums _ (Code.uint_byt a ha), bl_nums _ (Code.uint_byt b hb)] at hr
    exact h (Code.uint_pre a b r ha hb hr)
theorem beg_int (a b : Int) (a0 : -9223372036854775808 ≤ a) (a1 : a ≤ 9223372036854775807) (b0 : -9223372036854775808 ≤ b) (b1 : b ≤ 9223372036854775807) :
    begB (nums (Code.uint (Code.zig a))) (nums (Code.uint (Code.zig b))) = (a == b) := by
  rw [beg_uint _ _ (Code.zig_lt a a0 a1) (Code.zig_lt b b0 b1)]
  by_cases h : a = b
  · rw [h, beq_self_eq_true, beq_self_eq_true]
  · rw [beq_eq_false_iff_ne.2 h, beq_eq_false_iff_ne.2 (fun e => h (Code.zig_inj a b (by omega)))]
theorem beg_text (s t : ByteArray) (hs : s.size ≤ 140737488351232) (ht : t.size ≤ 140737488351232) :
    begB (nums (Code.uint s.size) ++ s) (nums (Code.uint t.size) ++ t) = (s.toList == t.toList) := by
  by_cases h : s = t
  · subst h
    rw [eqS_true rfl]
    exact (begB_iff _ _).2 ⟨[], by rw [List.append_nil]⟩
  · rw [eqS_false h]
    refine Bool.eq_false_iff.2 fun e => ?_
    obtain ⟨r, hr⟩ := (begB_iff _ _).1 e
    rw [Sums.bl_append, Sums.bl_append, bl_nums _ (Code.uint_byt _ (by omega)), bl_nums _ (Code.uint_byt _ (by omega)), List.append_assoc] at hr
    obtain ⟨h1, h2⟩ := Code.uint_pre2 _ _ _ _ (by omega) (by omega) hr
    have h3 := congrArg List.length h2
    rw [List.length_append, Sums.bl_length, Sums.bl_length] at h3
    have h4 : r = [] := List.length_eq_zero_iff.1 (by omega)
    rw [h4, List.append_nil] at h2
    exact h (Sums.bl_inj h2)
theorem eqb_self (b : Bool) (w : World) : (binOp .eql 4 (.bool b) (.bool b)).run Try.prog w = .ok (.bool true) w := by
  cases b <;> kernel_rfl
theorem nums_le (n : Nat) (h : n < 18446744073709551616) : (nums (Code.uint n)).size ≤ 10 := by rw [nums_size]; exact Code.uint_len n h
set_option maxRecDepth 100000 in
set_option maxHeartbeats 1000000 in
theorem codeOne_any (a b : Nat) (i k : Int) (s t : ByteArray) (w : World) (ha : a < 18446744073709551616) (hb : b < 18446744073709551616) (i0 : -9223372036854775808 ≤ i) (i1 : i ≤ 9223372036854775807) (k0 : -9223372036854775808 ≤ k) (k1 : k ≤ 9223372036854775807) (hs : s.size ≤ 140737488351232) (ht : t.size ≤ 140737488351232) :
    Calls Try.prog 8 #[.int .u64 (a : Int), .int .u64 (b : Int), .int .i64 i, .int .i64 k, .string s, .string t] w fun e w' => e = .returned (.bool true) ∧ Below w.heap.size w w' := by
  have hA := nums_le a ha
  have hB := nums_le b hb
  have hI := nums_le _ (Code.zig_lt i i0 i1)
  have hK := nums_le _ (Code.zig_lt k k0 k1)
  have hS := nums_le s.size (by omega)
  have hT := nums_le t.size (by omega)
  have heq := eqb_self
  go_enter Try.func8, Try.ntmps8
  go_wp2_with fail
  refine (known_any w).mono ?_
  rintro e w1 ⟨rfl, hb1⟩
  have HB1 := Hid.mk' hb1
  clear hb1
  go_wp2_with fail
  refine (uint_any a w1 ha).mono ?_
  rintro e w2 ⟨rfl, hb2⟩
  have HB2 : Hid (Below w.heap.size w w2) := HB1.out.trans (hb2.mono HB1.out.size)
  clear hb2
  go_wp2_with fail
  refine (uint_any b w2 hb).mono ?_
  rintro e w3 ⟨rfl, hb3⟩
  have HB3 : Hid (Below w.heap.size w w3) := HB2.out.trans (hb3.mono HB2.out.size)
  clear hb3
  go_wp2_with fail
  refine (begins_any _ _ w3 (by omega) (by omega)).mono ?_
  rintro e w3' ⟨rfl, rfl⟩
  rw [beg_uint a b ha hb]
  go_wp2_with fail
  refine (int_any i w3' i0 i1).mono ?_
  rintro e w4 ⟨rfl, hb4⟩
  have HB4 : Hid (Below w.heap.size w w4) := HB3.out.trans (hb4.mono HB3.out.size)
  clear hb4
  go_wp2_with fail
  refine (int_any k w4 k0 k1).mono ?_
  rintro e w5 ⟨rfl, hb5⟩
  have HB5 : Hid (Below w.heap.size w w5) := HB4.out.trans (hb5.mono HB4.out.size)
  clear hb5
  go_wp2_with fail
  refine (begins_any _ _ w5 (by omega) (by omega)).mono ?_
  rintro e w5' ⟨rfl, rfl⟩
  rw [beg_int i k i0 i1 k0 k1]
  go_wp2_with fail
  refine (text_any s w5' (by omega)).mono ?_
  rintro e w6 ⟨rfl, hb6⟩
  have HB6 : Hid (Below w.heap.size w w6) := HB5.out.trans (hb6.mono HB5.out.size)
  clear hb6
  go_wp2_with fail
  refine (text_any t w6 (by omega)).mono ?_
  rintro e w7 ⟨rfl, hb7⟩
  have HB7 : Hid (Below w.heap.size w w7) := HB6.out.trans (hb7.mono HB6.out.size)
  clear hb7
  go_wp2_with fail
  refine (begins_any _ _ w7 (by rw [ByteArray.size_append]; omega) (by rw [ByteArray.size_append]; omega)).mono ?_
  rintro e w8 ⟨rfl, rfl⟩
  rw [beg_text s t hs ht]
  go_wp2_with fail
  go_ret
  trace_state
  exact ⟨rfl, HB7.out⟩
end Go.Proofs.Ythmaaeibdcoemaa
