/-
  The walk of the law SumsEach: whatever numbers it is given it returns true, and of what was there nothing turns. Conditions: the numbers are of their widths, the table of package sums lies as its text lays it.
-/
import Derived.Test.YtnbcmobdenjjfabDoorText
namespace Go.Proofs.YtnbcmobdenjjfabDoor
open Go.RowKit
set_option linter.unusedVariables false
theorem textS_size (n j : Nat) : (textS n j).size = j := by rw [← Sums.bl_length, bl_textS, cutL_len]
theorem bool_eql (w : World) (a b : Bool) : (binOp .eql 4 (.bool a) (.bool b)).run Tryd.prog w = .ok (.bool (a == b)) w := by
  cases a <;> cases b <;> kernel_rfl
theorem text_i (n : Int) (N m : Nat) (w : World) (e : n = (N : Int)) (hn : N < 18446744073709551616) (hm : m ≤ 8) :
    Calls Tryd.prog 11 #[.int .u64 n, .int .i64 (m : Int)] w fun e w' => e = .returned (.string (textS N m)) ∧ Below w.heap.size w w' := by
  subst e
  exact text_any N m w hn hm
theorem one_crc (a b : Nat) (ha : a < 4294967296) (hb : b < 4294967296) : ((((Sums.crcL (Sums.bl (textS a 4)) : Nat) : Int) == ((Sums.crcL (Sums.bl (textS b 4)) : Nat) : Int)) == ((a : Int) == (b : Int))) = true := by
  by_cases h : a = b
  · subst h; simp
  · have h1 : ¬ Sums.crcL (Sums.bl (textS a 4)) = Sums.crcL (Sums.bl (textS b 4)) := fun e => h (by
      rw [bl_textS, bl_textS] at e
      have e2 := Sums.crc_four 4294967295 (by decide) (cutL_len a 4) (cutL_len b 4) (cutL_byt a 4) (cutL_byt b 4) (Sums.xor_cancel e)
      rwa [w4_cut a ha, w4_cut b hb] at e2)
    have e1 : (((Sums.crcL (Sums.bl (textS a 4)) : Nat) : Int) == ((Sums.crcL (Sums.bl (textS b 4)) : Nat) : Int)) = false := beq_eq_false_iff_ne.2 (by omega)
    have e2 : ((a : Int) == (b : Int)) = false := beq_eq_false_iff_ne.2 (by omega)
    rw [e1, e2]; rfl
theorem one_xx (seed a b : Nat) (ha : a < 4294967296) (hb : b < 4294967296) : ((((Sums.xx32 seed (Sums.bl (textS a 4)) : Nat) : Int) == ((Sums.xx32 seed (Sums.bl (textS b 4)) : Nat) : Int)) == ((a : Int) == (b : Int))) = true := by
  by_cases h : a = b
  · subst h; simp
  · have h1 : ¬ Sums.xx32 seed (Sums.bl (textS a 4)) = Sums.xx32 seed (Sums.bl (textS b 4)) := fun e => h (by
      rw [bl_textS, bl_textS] at e
      have e2 := Sums.xx32_four seed (cutL_len a 4) (cutL_len b 4) (by rw [w4_cut a ha]; exact ha) (by rw [w4_cut b hb]; exact hb) e
      rwa [w4_cut a ha, w4_cut b hb] at e2)
    have e1 : (((Sums.xx32 seed (Sums.bl (textS a 4)) : Nat) : Int) == ((Sums.xx32 seed (Sums.bl (textS b 4)) : Nat) : Int)) = false := beq_eq_false_iff_ne.2 (by omega)
    have e2 : ((a : Int) == (b : Int)) = false := beq_eq_false_iff_ne.2 (by omega)
    rw [e1, e2]; rfl
theorem one_wide (seed a b : Nat) (ha : a < 18446744073709551616) (hb : b < 18446744073709551616) : ((((Sums.xx64 seed (Sums.bl (textS a 8)) : Nat) : Int) == ((Sums.xx64 seed (Sums.bl (textS b 8)) : Nat) : Int)) == ((a : Int) == (b : Int))) = true := by
  by_cases h : a = b
  · subst h; simp
  · have h1 : ¬ Sums.xx64 seed (Sums.bl (textS a 8)) = Sums.xx64 seed (Sums.bl (textS b 8)) := fun e => h (by
      rw [bl_textS, bl_textS] at e
      have e2 := Sums.xx64_eight seed (cutL_len a 8) (cutL_len b 8) (by rw [w8_cut a ha]; exact ha) (by rw [w8_cut b hb]; exact hb) e
      rwa [w8_cut a ha, w8_cut b hb] at e2)
    have e1 : (((Sums.xx64 seed (Sums.bl (textS a 8)) : Nat) : Int) == ((Sums.xx64 seed (Sums.bl (textS b 8)) : Nat) : Int)) = false := beq_eq_false_iff_ne.2 (by omega)
    have e2 : ((a : Int) == (b : Int)) = false := beq_eq_false_iff_ne.2 (by omega)
    rw [e1, e2]; rfl
set_option maxRecDepth 100000 in
set_option maxHeartbeats 1000000 in
theorem sumsEach_any (a b seed x y wide : Nat) (w : World) (ha : a < 4294967296) (hb : b < 4294967296) (hq : seed < 4294967296) (hx : x < 18446744073709551616) (hy : y < 18446744073709551616) (hw : wide < 18446744073709551616) (ht : Tab w) :
    Calls Tryd.prog 5 #[.int .u32 (a : Int), .int .u32 (b : Int), .int .u32 (seed : Int), .int .u64 (x : Int), .int .u64 (y : Int), .int .u64 (wide : Int)] w fun e w' => e = .returned (.bool true) ∧ Below w.heap.size w w' := by
  have hbe := bool_eql
  have O1 := one_crc a b ha hb
  have O2 := one_xx seed a b ha hb
  have O3 := one_wide wide x y hx hy
  go_enter Tryd.func5, Tryd.ntmps5
  go_wp2_with fail
  refine (examples_any _ ht).mono ?_
  rintro e w1 ⟨rfl, B1⟩
  have HB1 := Hid.mk' B1
  clear B1
  go_wp2_with fail
  refine (text_i _ a 4 _ (by omega) (by omega) (by omega)).mono ?_
  rintro e w2 ⟨rfl, B2⟩
  have HB2 : Hid (Below w.heap.size w w2) := HB1.out.trans (B2.mono HB1.out.size)
  clear B2 HB1
  go_wp2_with fail
  refine (text_i _ b 4 _ (by omega) (by omega) (by omega)).mono ?_
  rintro e w3 ⟨rfl, B3⟩
  have HB3 : Hid (Below w.heap.size w w3) := HB2.out.trans (B3.mono HB2.out.size)
  clear B3 HB2
  go_wp2_with fail
  refine (text_i _ x 8 _ rfl hx (by omega)).mono ?_
  rintro e w4 ⟨rfl, B4⟩
  have HB4 : Hid (Below w.heap.size w w4) := HB3.out.trans (B4.mono HB3.out.size)
  clear B4 HB3
  go_wp2_with fail
  refine (text_i _ y 8 _ rfl hy (by omega)).mono ?_
  rintro e w5 ⟨rfl, B5⟩
  have HB : Hid (Below w.heap.size w w5) := HB4.out.trans (B5.mono HB4.out.size)
  clear B5 HB4
  have ht5 := ht.below HB.out ht.pos
  go_wp2_with fail
  refine (crc_any (textS a 4) _ (by rw [textS_size]; decide) ht5).mono ?_
  rintro e w6 ⟨rfl, rfl⟩
  go_wp2_with fail
  refine (crc_any (textS b 4) _ (by rw [textS_size]; decide) ht5).mono ?_
  rintro e w6 ⟨rfl, rfl⟩
  go_wp2_with fail
  refine (xx32_less seed (textS a 4) _ hq (by rw [textS_size]; decide)).mono ?_
  rintro e w7 ⟨rfl, n1, rfl⟩
  go_wp2_with fail
  refine (xx32_less seed (textS b 4) _ hq (by rw [textS_size]; decide)).mono ?_
  rintro e w7 ⟨rfl, n2, rfl⟩
  go_wp2_with fail
  refine (xx64_less wide (textS x 8) _ hw (by rw [textS_size]; decide)).mono ?_
  rintro e w7 ⟨rfl, n3, rfl⟩
  go_wp2_with fail
  refine (xx64_less wide (textS y 8) _ hw (by rw [textS_size]; decide)).mono ?_
  rintro e w7 ⟨rfl, n4, rfl⟩
  go_wp2_with fail
  go_ret
  exact ⟨rfl, HB.out.drewN' _⟩
end Go.Proofs.YtnbcmobdenjjfabDoor
