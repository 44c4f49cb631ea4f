/-
  The walk of the law SumsTogether: whatever texts it is given it returns true, and of what was there nothing turns. Conditions: the texts are no longer than a text that is read can be, the table of package sums lies as its text lays it.
-/
import Derived.Test.YtnbcmobdenjjfaaDoorExam
namespace Go.Proofs.YtnbcmobdenjjfaaDoor
open Go.RowKit
set_option linter.unusedVariables false
theorem join_crc (a b : ByteArray) (w : World) (hb : b.size < 9223372036854775808) :
    Calls Tryd.prog 12 #[.int .u32 ((Sums.crcL (Sums.bl a) : Nat) : Int), .int .u32 ((Sums.crcL (Sums.bl b) : Nat) : Int), .int .i64 (b.size : Int)] w fun e w' => e = .returned (.tuple #[.int .u32 ((Sums.crcL (Sums.bl (a ++ b)) : Nat) : Int), .int .i64 0]) ∧ w' = w := by
  refine join_at _ _ b.size _ w ?_ (Sums.crcL_lt _ (Sums.bl_byt a)) (Sums.crcL_lt _ (Sums.bl_byt b)) hb
  rw [← Sums.bl_length, Sums.crc_join, Sums.bl_append]
set_option maxHeartbeats 1000000 in
theorem sumsTogether_any (a b c : ByteArray) (w : World) (ha : a.size ≤ 140737488351232) (hb : b.size ≤ 140737488351232) (hc : c.size ≤ 140737488351232) (ht : Tab w) :
    Calls Tryd.prog 7 #[.string a, .string b, .string c] w fun e w' => e = .returned (.bool true) ∧ Below w.heap.size w w' := by
  go_enter Tryd.func7, Tryd.ntmps7
  go_wp2_with fail
  refine (examples_any _ ht).mono ?_
  rintro e w1 ⟨rfl, B1⟩
  have ht1 := ht.below B1 ht.pos
  have HB := Hid.mk' B1
  clear B1
  go_wp2_with fail
  refine (crc_any a _ (by unfold maxLen; omega) ht1).mono ?_
  rintro e w2 ⟨rfl, rfl⟩
  go_wp2_with fail
  refine (crc_any b _ (by unfold maxLen; omega) ht1).mono ?_
  rintro e w2 ⟨rfl, rfl⟩
  go_wp2_with fail
  refine (join_crc a b _ (by omega)).mono ?_
  rintro e w2 ⟨rfl, rfl⟩
  go_wp2_with fail
  refine (crc_any b _ (by unfold maxLen; omega) ht1).mono ?_
  rintro e w2 ⟨rfl, rfl⟩
  go_wp2_with fail
  refine (crc_any c _ (by unfold maxLen; omega) ht1).mono ?_
  rintro e w2 ⟨rfl, rfl⟩
  go_wp2_with fail
  refine (join_crc b c _ (by omega)).mono ?_
  rintro e w2 ⟨rfl, rfl⟩
  go_wp2_with fail
  refine (crc_any c _ (by unfold maxLen; omega) ht1).mono ?_
  rintro e w2 ⟨rfl, rfl⟩
  go_wp2_with fail
  refine (join_crc (a ++ b) c _ (by omega)).mono ?_
  rintro e w2 ⟨rfl, rfl⟩
  go_wp2_with fail
  refine (crc_any a _ (by unfold maxLen; omega) ht1).mono ?_
  rintro e w2 ⟨rfl, rfl⟩
  go_wp2_with fail
  have ez : (b.size : Int) + (c.size : Int) = ((b ++ c).size : Int) := by rw [ByteArray.size_append]; omega
  rw [ez]
  clear ez
  refine (join_crc a (b ++ c) _ (by rw [ByteArray.size_append]; omega)).mono ?_
  rintro e w2 ⟨rfl, rfl⟩
  have eas : a ++ (b ++ c) = a ++ b ++ c := by
    apply Sums.bl_inj
    simp only [Sums.bl_append, List.append_assoc]
  rw [eas]
  clear eas
  go_wp2_with fail
  refine (crc_any (a ++ b) _ (by unfold maxLen; rw [ByteArray.size_append]; omega) ht1).mono ?_
  rintro e w2 ⟨rfl, rfl⟩
  go_wp2_with fail
  refine (crc_any (b ++ c) _ (by unfold maxLen; rw [ByteArray.size_append]; omega) ht1).mono ?_
  rintro e w2 ⟨rfl, rfl⟩
  go_wp2_with fail
  refine (crc_any (a ++ b ++ c) _ (by unfold maxLen; rw [ByteArray.size_append, ByteArray.size_append]; omega) ht1).mono ?_
  rintro e w2 ⟨rfl, rfl⟩
  go_wp2_with fail
  go_ret
  exact ⟨rfl, HB.out⟩
end Go.Proofs.YtnbcmobdenjjfaaDoor
