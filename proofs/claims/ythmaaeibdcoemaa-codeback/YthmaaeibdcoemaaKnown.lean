/-
  The chapter's first examples are so. No conditions.
-/
import Derived.Test.YthmaaeibdcoemaaPlnB
namespace Go.Proofs.Ythmaaeibdcoemaa
open Go.RowKit
set_option linter.unusedVariables false
theorem k_rd : rdAt ⟨#[172, 2, 5]⟩ 0 = (300, 0, 2) := by decide +kernel
theorem k_uint : nums (Code.uint 300) = ⟨#[172, 2]⟩ := by decide +kernel
theorem k_int : nums (Code.uint (Code.zig (-1))) = ⟨#[1]⟩ := by decide +kernel
theorem k_text : nums (Code.uint 2) ++ ⟨#[97, 98]⟩ = ⟨#[2, 97, 98]⟩ := by decide +kernel
theorem k_fix : nums (fixL 3 258) = ⟨#[2, 1, 0]⟩ := by decide +kernel
theorem k_arm : nums (Code.arm 0 0 (Sums.bl ⟨#[97, 98, 99]⟩)) = ⟨#[89, 87, 74, 106]⟩ := by decide +kernel
theorem k_pln : Code.plain (Sums.bl ⟨#[89, 87, 74, 106]⟩) = ([97, 98, 99], 0, 0) := by decide +kernel
theorem k_nums : nums [97, 98, 99] = ⟨#[97, 98, 99]⟩ := by decide +kernel
theorem uintK (w : World) : Calls Try.prog 12 #[.int .u64 300] w fun e w' => e = .returned (.string ⟨#[172, 2]⟩) ∧ Below w.heap.size w w' := by
  have := uint_any 300 w (by decide)
  rw [k_uint] at this
  exact this
theorem intK (w : World) : Calls Try.prog 14 #[.int .i64 (-1)] w fun e w' => e = .returned (.string ⟨#[1]⟩) ∧ Below w.heap.size w w' := by
  have := int_any (-1) w (by decide) (by decide)
  rw [k_int] at this
  exact this
theorem textK (w : World) : Calls Try.prog 16 #[.string ⟨#[97, 98]⟩] w fun e w' => e = .returned (.string ⟨#[2, 97, 98]⟩) ∧ Below w.heap.size w w' := by
  have := text_any ⟨#[97, 98]⟩ w (by decide)
  rw [show (⟨#[97, 98]⟩ : ByteArray).size = 2 from rfl, k_text] at this
  exact this
theorem fixK (w : World) : Calls Try.prog 10 #[.int .u64 258, .int .i64 3] w fun e w' => e = .returned (.tuple #[.string ⟨#[2, 1, 0]⟩, .int .i64 0]) ∧ Below w.heap.size w w' := by
  have := fixed_any 258 3 w (by decide)
  unfold fixR at this
  rw [if_neg (by decide), if_neg (by decide), show (3 : Int).toNat = 3 from rfl, k_fix] at this
  exact this
theorem armK (w : World) : Calls Try.prog 18 #[.string ⟨#[97, 98, 99]⟩] w fun e w' => e = .returned (.string ⟨#[89, 87, 74, 106]⟩) ∧ Below w.heap.size w w' := by
  have := armor_any ⟨#[97, 98, 99]⟩ w (by decide)
  rw [k_arm] at this
  exact this
theorem plnK (w : World) : Calls Try.prog 19 #[.string ⟨#[89, 87, 74, 106]⟩] w fun e w' => e = .returned (.tuple #[.string ⟨#[97, 98, 99]⟩, .int .i64 0, .int .i64 0]) ∧ Below w.heap.size w w' := by
  have := plain_any ⟨#[89, 87, 74, 106]⟩ w (by decide)
  refine this.mono ?_
  rintro e w' ⟨he, hb⟩
  rw [k_pln, k_nums] at he
  exact ⟨he, hb⟩
theorem rdK (g : Nat) (w : World) (h : Rdr g ⟨#[172, 2, 5]⟩ 0 w) : Calls Try.prog 33 #[.pointer (some ⟨g, 0, none⟩)] w fun e w' => e = .returned (.tuple #[.int .u64 300, .int .i64 0]) ∧ Rdr g ⟨#[172, 2, 5]⟩ 2 w' ∧ Only g w w' := by
  have := ruint_any g ⟨#[172, 2, 5]⟩ 0 w h (by decide) (by decide)
  rw [k_rd] at this
  exact this
set_option maxRecDepth 100000 in
set_option maxHeartbeats 2000000 in
theorem known_any (w : World) :
    Calls Try.prog 9 #[] w fun e w' => e = .returned (.bool true) ∧ Below w.heap.size w w' := by
  go_enter Try.func9, Try.ntmps9
  go_wp2_with fail
  refine (read_any _ _).mono ?_
  rintro e w1 ⟨g, hg, rfl, hr1, hb1⟩
  have HR1 := Hid.mk' hr1
  have HB1 := Hid.mk' hb1
  clear hr1 hb1
  go_wp2_with fail
  refine (rdK g w1 HR1.out).mono ?_
  rintro e w2 ⟨rfl, hr2, ho2⟩
  have HR2 := Hid.mk' hr2
  have HB2 : Hid (Below w.heap.size w w2) := HB1.out.trans (ho2.below hg HB1.out.size)
  clear hr2 ho2
  go_wp2_with fail
  refine (at_any g _ 2 w2 HR2.out).mono ?_
  rintro e w3 ⟨rfl, rfl⟩
  go_wp2_with fail
  refine (left_any g _ 2 w3 HR2.out (by decide) (by decide)).mono ?_
  rintro e w4 ⟨rfl, n, rfl⟩
  have HB4 : Hid (Below w.heap.size w (w3.drewN n)) := HB2.out.drewN' n
  obtain ⟨w4, hw4⟩ : ∃ w4, w4 = w3.drewN n := ⟨_, rfl⟩
  rw [← hw4] at HB4 ⊢
  clear hw4
  go_wp2_with fail
  refine (fixK w4).mono ?_
  rintro e w5 ⟨rfl, hb5⟩
  have HB5 : Hid (Below w.heap.size w w5) := HB4.out.trans (hb5.mono HB4.out.size)
  clear hb5
  go_wp2_with fail
  refine (plnK w5).mono ?_
  rintro e w6 ⟨rfl, hb6⟩
  have HB6 : Hid (Below w.heap.size w w6) := HB5.out.trans (hb6.mono HB5.out.size)
  clear hb6
  go_wp2_with fail
  refine (uintK w6).mono ?_
  rintro e w7 ⟨rfl, hb7⟩
  have HB7 : Hid (Below w.heap.size w w7) := HB6.out.trans (hb7.mono HB6.out.size)
  clear hb7
  go_wp2_with fail
  refine (intK w7).mono ?_
  rintro e w8 ⟨rfl, hb8⟩
  have HB8 : Hid (Below w.heap.size w w8) := HB7.out.trans (hb8.mono HB7.out.size)
  clear hb8
  go_wp2_with fail
  refine (textK w8).mono ?_
  rintro e w9 ⟨rfl, hb9⟩
  have HB9 : Hid (Below w.heap.size w w9) := HB8.out.trans (hb9.mono HB8.out.size)
  clear hb9
  go_wp2_with fail
  refine (armK w9).mono ?_
  rintro e w10 ⟨rfl, hb10⟩
  have HB10 : Hid (Below w.heap.size w w10) := HB9.out.trans (hb10.mono HB9.out.size)
  clear hb10
  go_wp2_with fail
  go_ret
  exact ⟨rfl, HB10.out⟩
end Go.Proofs.Ythmaaeibdcoemaa
