/-
  What sums.last32 does. Conditions: the number is of 32 bits, the length is an int at least 0, the text no longer than any text can be.
-/
import Derived.Test.YtapphnkddjchkaaDoorRot
namespace Go.Proofs.YtapphnkddjchkaaDoor
open Go.RowKit
set_option linter.unusedVariables false
def lenV : Value → Nat
  | .string s => s.size
  | _ => 0
theorem bl_from (r : ByteArray) (i : Nat) : Sums.bl (r.extract i r.size) = (Sums.bl r).drop i := Sums.bl_drop r i
theorem stirA_bits (h : Nat) (hh : h < 4294967296) : bits .xor .u32 (h : Int) ((h : Int) / 32768) * 2246822519 % 4294967296 = ((Sums.stirA h : Nat) : Int) := by
  rw [show ((h : Int) / 32768) = ((h / 32768 : Nat) : Int) by omega, u32_xor_nat h _ hh (by omega)]
  unfold Sums.stirA; omega
theorem stirB_bits (h : Nat) (hh : h < 4294967296) : bits .xor .u32 (h : Int) ((h : Int) / 8192) * 3266489917 % 4294967296 = ((Sums.stirB h : Nat) : Int) := by
  rw [show ((h : Int) / 8192) = ((h / 8192 : Nat) : Int) by omega, u32_xor_nat h _ hh (by omega)]
  unfold Sums.stirB; omega
theorem stirC_bits (h : Nat) (hh : h < 4294967296) : bits .xor .u32 (h : Int) ((h : Int) / 65536) = ((h ^^^ h / 65536 : Nat) : Int) := by
  rw [show ((h : Int) / 65536) = ((h / 65536 : Nat) : Int) by omega, u32_xor_nat h _ hh (by omega)]
set_option maxHeartbeats 1000000 in
theorem last32_any (h n : Nat) (r : ByteArray) (w : World) (hh : h < 4294967296) (hn : n < 9223372036854775808) (hr : r.size ≤ maxLen) :
    Calls Tryd.prog 19 #[.int .u32 (h : Int), .int .i64 (n : Int), .string r] w fun e w' => e = .returned (.int .u32 (Sums.last32 h n (Sums.bl r) : Nat)) ∧ ∃ n, w' = w.drewN n := by
  unfold maxLen at hr
  go_enter Tryd.func19, Tryd.ntmps19
  go_wp2_with fail
  obtain ⟨H0, HH0⟩ : ∃ H0, H0 = (h + n) % 4294967296 := ⟨_, rfl⟩
  have e0 : ((h : Int) + (n : Int) % 4294967296) % 4294967296 = (H0 : Int) := by omega
  have hH0 : H0 < 4294967296 := by omega
  rw [e0]
  have HH := Hid.mk' HH0
  clear e0 HH0
  go_loopw [0, 2] (fun x y wr => ∃ (H m : Nat) (s : ByteArray), H < 4294967296 ∧ s.size ≤ 9223372036854775807 ∧ x = .int .u32 (H : Int) ∧ y = .string s ∧ Hid (Sums.tail32 H (Sums.bl s) = Sums.tail32 H0 (Sums.bl r)) ∧ wr = w.drewN m) (fun _ y _ => lenV y)
  case atStart => exact ⟨H0, 0, r, hH0, by omega, rfl, rfl, rfl, rfl⟩
  case round =>
    obtain ⟨H, m, s, hH, hs, rfl, rfl, HI, rfl⟩ := hrel
    have hbl := Hid.mk' (Sums.bl_length s)
    by_cases h4 : 4 ≤ s.size
    · have g4 : (4 : Int) ≤ (s.size : Int) := by omega
      have hw4 := Sums.w4_lt (Sums.bl s) (Sums.bl_byt s)
      have HI2 : Hid (Sums.tail32 (Sums.mix4 H (Sums.w4 (Sums.bl s))) (Sums.bl (s.extract 4 s.size)) = Sums.tail32 H0 (Sums.bl r)) := by
        show _ = _
        rw [bl_from, ← Sums.tail32_more _ _ (by rw [Sums.bl_length]; exact h4)]
        exact HI.out
      have hm4 := Sums.mix4_lt H (Sums.w4 (Sums.bl s))
      have HM : Hid (Sums.mix4 H (Sums.w4 (Sums.bl s)) = Sums.rot32 ((H + Sums.w4 (Sums.bl s) * 3266489917) % 4294967296) 17 * 668265263 % 4294967296) := rfl
      clear HI
      go_wp2_with fail
      refine (word32_any s _ (by unfold maxLen; omega) h4).mono ?_
      rintro e w1 ⟨rfl, n1, rfl⟩
      go_wp2_with fail
      refine (rotl32_i _ ((H + Sums.w4 (Sums.bl s) * 3266489917) % 4294967296) 17 _ (by omega) (by omega) (by omega) (by omega) 17 rfl).mono ?_
      rintro e w1 ⟨rfl, rfl⟩
      go_wp2_with fail
      go_roundw
      case rel => exact ⟨_, m + n1, s.extract 4 s.size, hm4, by simp; omega, int_u32 (by rw [HM.out]; omega), rfl, HI2, rfl⟩
      case measure => simp [lenV]; omega
    · have g4 : ¬ (4 : Int) ≤ (s.size : Int) := by omega
      have HI2 : Hid (Sums.bytes32 H (Sums.bl s) = Sums.tail32 H0 (Sums.bl r)) := by
        show _ = _
        rw [← Sums.tail32_end _ _ (by rw [Sums.bl_length]; exact h4)]
        exact HI.out
      clear HI
      go_wp2_with fail
      go_loop [0, 26] (fun x y => ∃ (j G : Nat), j ≤ s.size ∧ G < 4294967296 ∧ x = .int .u32 (G : Int) ∧ y = .int .i64 (j : Int) ∧ Hid (G = Sums.bytes32 H ((Sums.bl s).take j))) (fun _ y => s.size - (intOf y).toNat)
      case atStart => exact ⟨0, H, by omega, hH, rfl, rfl, rfl⟩
      case round =>
        obtain ⟨j, G, hj, hG, rfl, rfl, HG⟩ := hrel
        by_cases hlt : j < s.size
        · have hj3 : (j : Int) < (s.size : Int) := by omega
          have hby := UInt8.toNat_lt s[j]
          have HG2 : Hid (Sums.mix1 G s[j].toNat = Sums.bytes32 H ((Sums.bl s).take (j + 1))) := by
            show _ = _
            rw [Sums.bytes32_on _ _ _ (by rw [Sums.bl_length]; exact hlt), ← HG.out, Sums.bl_get s j hlt]
          have hm1 := Sums.mix1_lt G s[j].toNat
          have HM : Hid (Sums.mix1 G s[j].toNat = Sums.rot32 ((G + s[j].toNat * 374761393) % 4294967296) 11 * 2654435761 % 4294967296) := rfl
          clear HG
          go_wp2_with fail
          refine (rotl32_i _ ((G + s[j].toNat * 374761393) % 4294967296) 11 _ (by omega) (by omega) (by omega) (by omega) 11 rfl).mono ?_
          rintro e w1 ⟨rfl, rfl⟩
          go_wp2_with fail
          go_round
          case rel => exact ⟨j + 1, _, by omega, hm1, int_u32 (by rw [HM.out]; omega), by go_num, HG2⟩
          case measure => simp [intOf]; omega
        · obtain rfl : j = s.size := by omega
          have hlt' : ¬ (s.size : Int) < (s.size : Int) := by omega
          have A1 := stirA_bits G hG
          have A2 := stirB_bits _ (Sums.stirA_lt G)
          have A3 := stirC_bits _ (Sums.stirB_lt (Sums.stirA G))
          have HE : Hid (Sums.last32 h n (Sums.bl r) = Sums.stirB (Sums.stirA G) ^^^ Sums.stirB (Sums.stirA G) / 65536) := by
            show _ = _
            unfold Sums.last32 Sums.stir32
            rw [← HH.out]
            have : G = Sums.tail32 H0 (Sums.bl r) := by
              rw [HG.out, ← Sums.bl_length, List.take_length]; exact HI2.out
            rw [this]
          have l1 := Sums.stirA_lt G
          have l2 := Sums.stirB_lt (Sums.stirA G)
          generalize Sums.stirB (Sums.stirA G) = Z at *
          generalize Sums.stirA G = Y at *
          clear HG
          go_wp2_with fail
          go_ret
          exact ⟨ret_u32 (by rw [HE.out]), m, rfl⟩
end Go.Proofs.YtapphnkddjchkaaDoor
