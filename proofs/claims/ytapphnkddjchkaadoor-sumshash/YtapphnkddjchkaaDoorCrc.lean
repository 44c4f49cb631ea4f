/-
  What sums.CRC and the document's CRC do. Conditions: the text is no longer than any text can be, the table of package sums lies as its text lays it.
-/
import Derived.Test.YtapphnkddjchkaaDoorStep
import Derived.Test.YtapphnkddjchkaaDoorSumD
namespace Go.Proofs.YtapphnkddjchkaaDoor
open Go.RowKit
set_option linter.unusedVariables false
/-- the table lies as its text lays it -/
def Tab (w : World) : Prop := ∀ i : Nat, i < 16 → w.cell? ⟨0, i, none⟩ = some (.int .u32 ((Sums.tab4.getD i 0 : Nat) : Int))
theorem and_15 (c : Nat) (hc : c < 4294967296) : bits .and .u32 (c : Int) 15 = ((c % 16 : Nat) : Int) := by
  rw [show (15 : Int) = ((15 : Nat) : Int) from rfl, u32_and_nat c 15 hc (by omega)]
  congr 1
  exact Nat.and_two_pow_sub_one_eq_mod c 4
theorem four_bits (c : Nat) (hc : c < 4294967296) : bits .xor .u32 ((Sums.tab4.getD (c % 16) 0 : Nat) : Int) ((c : Int) / 16) = ((Sums.stepN 4 c : Nat) : Int) := by
  have h : Sums.tab4.getD (c % 16) 0 < 4294967296 := by
    rw [Sums.tab4_get _ (by omega)]; exact Sums.stepN_lt 4 _ (by omega)
  rw [show ((c : Int) / 16) = ((c / 16 : Nat) : Int) by omega, u32_xor_nat _ _ h (by omega), Sums.four]
theorem not32 (c : Nat) (hc : c < 4294967296) : bits .xor .u32 IntKind.u32.max (c : Int) = ((c ^^^ 4294967295 : Nat) : Int) := by
  rw [show IntKind.u32.max = ((4294967295 : Nat) : Int) by rfl, u32_xor_nat _ _ (by omega) hc, Nat.xor_comm]
theorem crcF_on (s : ByteArray) (i : Nat) (hi : i < s.size) (c : Nat) : Sums.crcF c ((Sums.bl s).take (i + 1)) = Sums.stepN 8 (Sums.crcF c ((Sums.bl s).take i) ^^^ s[i].toNat) := by
  have hl : i < (Sums.bl s).length := by rw [Sums.bl_length]; exact hi
  rw [List.take_add_one, Sums.crcF_append, List.getElem?_eq_getElem hl, ← Sums.bl_get s i hi, List.getD_eq_getElem?_getD, List.getElem?_eq_getElem hl]
  simp only [Option.toList_some, Option.getD_some]
  rw [Sums.crcF_cons, Sums.crcF_nil]
theorem take_byt (l : List Nat) (h : ∀ b ∈ l, b < 256) (i : Nat) : Sums.Byt (l.take i) := fun b hb => h b (List.mem_of_mem_take hb)
set_option maxHeartbeats 1000000 in
theorem crc_any (s : ByteArray) (w : World) (hs : s.size ≤ maxLen) (ht : Tab w) :
    Calls Tryd.prog 12 #[.string s] w fun e w' => e = .returned (.int .u32 (Sums.crcL (Sums.bl s) : Nat)) ∧ w' = w := by
  unfold maxLen at hs
  go_enter Tryd.func12, Tryd.ntmps12
  go_wp2_with fail
  go_loop [3, 7] (fun c i => ∃ j C : Nat, j ≤ s.size ∧ C < 4294967296 ∧ i = .int .i64 (j : Int) ∧ c = .int .u32 (C : Int) ∧ Hid (C = Sums.crcF 4294967295 ((Sums.bl s).take j))) (fun _ i => s.size - (intOf i).toNat)
  case atStart => exact ⟨0, 4294967295, by omega, by omega, rfl, rfl, by show _ = _; rw [List.take_zero, Sums.crcF_nil]⟩
  case round =>
    obtain ⟨j, C, hj, hC, rfl, rfl, HC⟩ := hrel
    by_cases hlt : j < s.size
    · have hj3 : (j : Int) < (s.size : Int) := by omega
      have hby := UInt8.toNat_lt s[j]
      have hx : C ^^^ s[j].toNat < 4294967296 := Nat.xor_lt_two_pow (n := 32) hC (by omega)
      have h4 := Sums.stepN_lt 4 _ hx
      have c1 := ht ((C ^^^ s[j].toNat) % 16) (by omega)
      have c2 := ht (Sums.stepN 4 (C ^^^ s[j].toNat) % 16) (by omega)
      have X1 : bits .xor .u32 (C : Int) (s[j].toNat : Int) = ((C ^^^ s[j].toNat : Nat) : Int) := u32_xor_nat _ _ hC (by omega)
      have A1 := and_15 _ hx
      have A2 := and_15 _ h4
      have F1 := four_bits _ hx
      have F2 := four_bits _ h4
      have HN : Hid (Sums.stepN 4 (Sums.stepN 4 (C ^^^ s[j].toNat)) = Sums.crcF 4294967295 ((Sums.bl s).take (j + 1))) := by
        show _ = _
        rw [crcF_on s j hlt, ← HC.out, ← Sums.stepN_add]
      have hN := Sums.stepN_lt 4 _ h4
      clear HC
      generalize Sums.stepN 4 (Sums.stepN 4 (C ^^^ s[j].toNat)) = D at *
      generalize Sums.stepN 4 (C ^^^ s[j].toNat) = E at *
      generalize (C ^^^ s[j].toNat) = G at *
      generalize Sums.tab4.getD (E % 16) 0 = t2 at *
      generalize Sums.tab4.getD (G % 16) 0 = t1 at *
      clear ht
      go_wp2_with fail
      go_round
      case rel => exact ⟨j + 1, D, by omega, hN, by go_num, rfl, HN⟩
      case measure => simp [intOf]; omega
    · obtain rfl : j = s.size := by omega
      have hlt' : ¬ (s.size : Int) < (s.size : Int) := by omega
      have HE : Hid (bits .xor .u32 IntKind.u32.max (C : Int) = ((Sums.crcL (Sums.bl s) : Nat) : Int)) := by
        show _ = _
        rw [not32 C hC, HC.out, ← Sums.bl_length, List.take_length]
        rfl
      go_wp2_with fail
      go_ret
      exact ⟨ret_u32 HE.out, rfl⟩
end Go.Proofs.YtapphnkddjchkaaDoor
