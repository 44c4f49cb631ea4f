/-
  What sums.last64 does. Conditions: the number is of 64 bits, the length is an int at least 0, the text no longer than any text can be.
-/
import Derived.Test.YtapphnkddjchkaaDoorLast
namespace Go.Proofs.YtapphnkddjchkaaDoor
open Go.RowKit
set_option linter.unusedVariables false
theorem int_u64 {a b : Int} (h : a = b) : Value.int .u64 a = Value.int .u64 b := by rw [h]
theorem stirWA_bits (h : Nat) (hh : h < 18446744073709551616) : IntKind.u64.wrap (bits .xor .u64 (h : Int) ((h : Int) / 8589934592) * 14029467366897019727) = ((Sums.stirWA h : Nat) : Int) := by
  rw [IntKind.wrap_u64, show ((h : Int) / 8589934592) = ((h / 8589934592 : Nat) : Int) by omega, u64_xor_nat h _ hh (by omega)]
  unfold Sums.stirWA; omega
theorem stirWB_bits (h : Nat) (hh : h < 18446744073709551616) : IntKind.u64.wrap (bits .xor .u64 (h : Int) ((h : Int) / 536870912) * 1609587929392839161) = ((Sums.stirWB h : Nat) : Int) := by
  rw [IntKind.wrap_u64, show ((h : Int) / 536870912) = ((h / 536870912 : Nat) : Int) by omega, u64_xor_nat h _ hh (by omega)]
  unfold Sums.stirWB; omega
theorem stirWC_bits (h : Nat) (hh : h < 18446744073709551616) : bits .xor .u64 (h : Int) ((h : Int) / 4294967296) = ((h ^^^ h / 4294967296 : Nat) : Int) := by
  rw [show ((h : Int) / 4294967296) = ((h / 4294967296 : Nat) : Int) by omega, u64_xor_nat h _ hh (by omega)]
set_option maxHeartbeats 400000 in
theorem word64_any (s : ByteArray) (w : World) (hs : s.size ≤ maxLen) (h8 : 8 ≤ s.size) :
    Calls Tryd.prog 33 #[.string s] w fun e w' => e = .returned (.int .u64 (Sums.w8 (Sums.bl s) : Nat)) ∧ ∃ n, w' = w.drewN n := by
  unfold maxLen at hs
  have h7 : (7 : Int) < (s.size : Int) := by omega
  have h4 : (4 : Int) ≤ (s.size : Int) := by omega
  have l1 := Sums.w4_lt (Sums.bl s) (Sums.bl_byt s)
  have l2 := Sums.w4_lt (Sums.bl (s.extract 4 s.size)) (Sums.bl_byt _)
  have HW : Hid (Sums.w8 (Sums.bl s) = Sums.w4 (Sums.bl s) + 4294967296 * Sums.w4 (Sums.bl (s.extract 4 s.size))) := by
    show _ = _
    rw [bl_from]; rfl
  go_enter Tryd.func33, Tryd.ntmps33
  go_wp2_with fail
  go_quiet ((go_at_call 27; exact Calls.quiet_of (word32_any _ _ (by unfold maxLen; (try simp only [ByteArray.size_extract]); omega) (by (try simp only [ByteArray.size_extract]); omega))))
  go_wp2_with fail
  go_ret
  refine ⟨ret_u64 ?_, nq, rfl⟩
  rw [HW.out]
  simp (disch := omega) only [u64_or32]
  omega
set_option maxHeartbeats 400000 in
theorem round_any (a x : Nat) (w : World) (ha : a < 18446744073709551616) (hx : x < 18446744073709551616) :
    Calls Tryd.prog 32 #[.int .u64 (a : Int), .int .u64 (x : Int)] w fun e w' => e = .returned (.int .u64 (Sums.round64 a x : Nat)) ∧ w' = w := by
  have HM : Hid (Sums.round64 a x = Sums.rot64 ((a + x * 14029467366897019727) % 18446744073709551616) 31 * 11400714785074694791 % 18446744073709551616) := rfl
  go_enter Tryd.func32, Tryd.ntmps32
  go_wp2_with fail
  refine (rotl64_i _ ((a + x * 14029467366897019727) % 18446744073709551616) 31 _ (by simp only [IntKind.wrap_u64]; omega) (by omega) (by omega) (by omega) 31 rfl).mono ?_
  rintro e w1 ⟨rfl, rfl⟩
  go_wp2_with fail
  go_ret
  exact ⟨ret_u64 (by rw [HM.out]; simp only [IntKind.wrap_u64]; omega), rfl⟩
theorem round0_any (x : Nat) (w : World) (hx : x < 18446744073709551616) :
    Calls Tryd.prog 32 #[.int .u64 0, .int .u64 (x : Int)] w fun e w' => e = .returned (.int .u64 (Sums.round64 0 x : Nat)) ∧ w' = w :=
  round_any 0 x w (by omega) hx
set_option maxHeartbeats 2000000 in
theorem last64_any (h n : Nat) (r : ByteArray) (w : World) (hh : h < 18446744073709551616) (hn : n < 9223372036854775808) (hr : r.size ≤ maxLen) :
    Calls Tryd.prog 22 #[.int .u64 (h : Int), .int .i64 (n : Int), .string r] w fun e w' => e = .returned (.int .u64 (Sums.last64 h n (Sums.bl r) : Nat)) ∧ ∃ n, w' = w.drewN n := by
  unfold maxLen at hr
  go_enter Tryd.func22, Tryd.ntmps22
  go_wp2_with fail
  obtain ⟨H0, HH0⟩ : ∃ H0, H0 = (h + n) % 18446744073709551616 := ⟨_, rfl⟩
  have e0 : IntKind.u64.wrap ((h : Int) + (n : Int)) = (H0 : Int) := by rw [IntKind.wrap_u64]; omega
  have hH0 : H0 < 18446744073709551616 := by omega
  rw [e0]
  have HH := Hid.mk' HH0
  clear e0 HH0
  go_loopw [0, 2] (fun x y wr => ∃ (H m : Nat) (s : ByteArray), H < 18446744073709551616 ∧ s.size ≤ 9223372036854775807 ∧ x = .int .u64 (H : Int) ∧ y = .string s ∧ Hid (Sums.tail64 H (Sums.bl s) = Sums.tail64 H0 (Sums.bl r)) ∧ wr = w.drewN m) (fun _ y _ => lenV y)
  case atStart => exact ⟨H0, 0, r, hH0, by omega, rfl, rfl, rfl, rfl⟩
  case round =>
    obtain ⟨H, m, s, hH, hs, rfl, rfl, HI, rfl⟩ := hrel
    have hbl := Hid.mk' (Sums.bl_length s)
    by_cases h8 : 8 ≤ s.size
    · have g8 : (8 : Int) ≤ (s.size : Int) := by omega
      have hw8 := Sums.w8_lt (Sums.bl s) (Sums.bl_byt s)
      have HI2 : Hid (Sums.tail64 (Sums.mixW8 H (Sums.w8 (Sums.bl s))) (Sums.bl (s.extract 8 s.size)) = Sums.tail64 H0 (Sums.bl r)) := by
        show _ = _
        rw [bl_from, ← Sums.tail64_more _ _ (by rw [Sums.bl_length]; exact h8)]
        exact HI.out
      have hm8 := Sums.mixW8_lt H (Sums.w8 (Sums.bl s))
      have hrd := Sums.round64_lt 0 (Sums.w8 (Sums.bl s))
      have hx := Sums.xor64_lt hH hrd
      have HM : Hid (Sums.mixW8 H (Sums.w8 (Sums.bl s)) = (Sums.rot64 (H ^^^ Sums.round64 0 (Sums.w8 (Sums.bl s))) 27 * 11400714785074694791 + 9650029242287828579) % 18446744073709551616) := rfl
      clear HI
      go_wp2_with fail
      refine (word64_any s _ (by unfold maxLen; omega) h8).mono ?_
      rintro e w1 ⟨rfl, n1, rfl⟩
      go_wp2_with fail
      refine (round0_any _ _ hw8).mono ?_
      rintro e w1 ⟨rfl, rfl⟩
      go_wp2_with fail
      refine (rotl64_i _ (H ^^^ Sums.round64 0 (Sums.w8 (Sums.bl s))) 27 _ (u64_xor_nat _ _ hH hrd) hx (by omega) (by omega) 27 rfl).mono ?_
      rintro e w1 ⟨rfl, rfl⟩
      go_wp2_with fail
      go_roundw
      case rel => exact ⟨_, m + n1, s.extract 8 s.size, hm8, by simp; omega, int_u64 (by rw [HM.out]; simp only [IntKind.wrap_u64]; omega), rfl, HI2, rfl⟩
      case measure => simp [lenV]; omega
    · have g8 : ¬ (8 : Int) ≤ (s.size : Int) := by omega
      have HI2 : Hid (Sums.four64 H (Sums.bl s) = Sums.tail64 H0 (Sums.bl r)) := by
        show _ = _
        rw [← Sums.tail64_end _ _ (by rw [Sums.bl_length]; exact h8)]
        exact HI.out
      clear HI
      by_cases h4 : 4 ≤ s.size
      · have g4 : (4 : Int) ≤ (s.size : Int) := by omega
        have hw4 := Sums.w4_lt (Sums.bl s) (Sums.bl_byt s)
        obtain ⟨B, HB⟩ : ∃ B, Hid (B = Sums.mixW4 H (Sums.w4 (Sums.bl s))) := ⟨_, Hid.mk' rfl⟩
        obtain ⟨S, HS⟩ : ∃ S, Hid (S = s.extract 4 s.size) := ⟨_, Hid.mk' rfl⟩
        have HI3 : Hid (Sums.bytes64 B (Sums.bl S) = Sums.tail64 H0 (Sums.bl r)) := by
          show _ = _
          rw [HB.out, HS.out, bl_from, ← HI2.out, Sums.four64, if_pos (by rw [Sums.bl_length]; exact h4)]
        have hm4 : B < 18446744073709551616 := by rw [HB.out]; exact Sums.mixW4_lt _ _
        have HSS : Hid (S.size = s.size - 4) := by
          show _ = _
          rw [HS.out]; simp
        have hx0 : Sums.w4 (Sums.bl s) * 11400714785074694791 % 18446744073709551616 < 18446744073709551616 := Nat.mod_lt _ (by decide)
        have hx := Sums.xor64_lt hH hx0
        have HM : Hid (B = (Sums.rot64 (H ^^^ Sums.w4 (Sums.bl s) * 11400714785074694791 % 18446744073709551616) 23 * 14029467366897019727 + 1609587929392839161) % 18446744073709551616) := by
          show _ = _
          rw [HB.out, Sums.mixW4]
        have HX : Hid (bits .xor .u64 (H : Int) (IntKind.u64.wrap ((Sums.w4 (Sums.bl s) : Int) * 11400714785074694791)) = ((H ^^^ Sums.w4 (Sums.bl s) * 11400714785074694791 % 18446744073709551616 : Nat) : Int)) := by
          show _ = _
          rw [show IntKind.u64.wrap ((Sums.w4 (Sums.bl s) : Int) * 11400714785074694791) = ((Sums.w4 (Sums.bl s) * 11400714785074694791 % 18446744073709551616 : Nat) : Int) by rw [IntKind.wrap_u64]; omega, u64_xor_nat _ _ hH hx0]
        clear HI2
        go_wp2_with fail
        refine (word32_any s _ (by unfold maxLen; omega) h4).mono ?_
        rintro e w1 ⟨rfl, n1, rfl⟩
        go_wp2_with fail
        refine (rotl64_i _ (H ^^^ Sums.w4 (Sums.bl s) * 11400714785074694791 % 18446744073709551616) 23 _ HX.out hx (by omega) (by omega) 23 rfl).mono ?_
        rintro e w1 ⟨rfl, rfl⟩
        go_wp2_with fail
        have hs2 : S.size ≤ 9223372036854775807 := by rw [HSS.out]; omega
        have e5 : IntKind.u64.wrap (IntKind.u64.wrap ((Sums.rot64 (H ^^^ Sums.w4 (Sums.bl s) * 11400714785074694791 % 18446744073709551616) 23 : Nat) * 14029467366897019727 : Int) + 1609587929392839161) = (B : Int) := by rw [HM.out]; simp only [IntKind.wrap_u64]; omega
        rw [e5, ← HS.out]
        clear e5 HB HM HX HS
        go_loop [0, 41] (fun x y => ∃ (j G : Nat), j ≤ S.size ∧ G < 18446744073709551616 ∧ x = .int .u64 (G : Int) ∧ y = .int .i64 (j : Int) ∧ Hid (G = Sums.bytes64 B ((Sums.bl S).take j))) (fun _ y => S.size - (intOf y).toNat)
        case atStart => exact ⟨0, B, by omega, hm4, rfl, rfl, rfl⟩
        case round =>
          obtain ⟨j, G, hj, hG, rfl, rfl, HG⟩ := hrel
          by_cases hlt : j < S.size
          · have hj3 : (j : Int) < (S.size : Int) := by omega
            have hj5 : j < s.size - 4 := by have := HSS.out; omega
            have hj4 : (j : Int) < ((s.size - 4 : Nat) : Int) := by omega
            have hby := UInt8.toNat_lt S[j]
            have HG2 : Hid (Sums.mixW1 G S[j].toNat = Sums.bytes64 B ((Sums.bl S).take (j + 1))) := by
              show _ = _
              rw [Sums.bytes64_on _ _ _ (by rw [Sums.bl_length]; exact hlt), ← HG.out, Sums.bl_get S j hlt]
            have hm1 := Sums.mixW1_lt G S[j].toNat
            have hx0 : S[j].toNat * 2870177450012600261 % 18446744073709551616 < 18446744073709551616 := Nat.mod_lt _ (by decide)
            have hx := Sums.xor64_lt hG hx0
            have HM : Hid (Sums.mixW1 G S[j].toNat = Sums.rot64 (G ^^^ S[j].toNat * 2870177450012600261 % 18446744073709551616) 11 * 11400714785074694791 % 18446744073709551616) := rfl
            have HX : Hid (bits .xor .u64 (G : Int) (IntKind.u64.wrap ((S[j].toNat : Int) * 2870177450012600261)) = ((G ^^^ S[j].toNat * 2870177450012600261 % 18446744073709551616 : Nat) : Int)) := by
              show _ = _
              rw [show IntKind.u64.wrap ((S[j].toNat : Int) * 2870177450012600261) = ((S[j].toNat * 2870177450012600261 % 18446744073709551616 : Nat) : Int) by rw [IntKind.wrap_u64]; omega, u64_xor_nat _ _ hG hx0]
            clear HG
            go_wp2_with fail
            refine (rotl64_i _ (G ^^^ S[j].toNat * 2870177450012600261 % 18446744073709551616) 11 _ HX.out hx (by omega) (by omega) 11 rfl).mono ?_
            rintro e w1 ⟨rfl, rfl⟩
            go_wp2_with fail
            go_round
            case rel => exact ⟨j + 1, _, by omega, hm1, int_u64 (by rw [HM.out]; simp only [IntKind.wrap_u64]; omega), by go_num, HG2⟩
            case measure => simp [intOf]; omega
          · obtain rfl : j = S.size := by omega
            have hlt' : ¬ (S.size : Int) < (S.size : Int) := by omega
            have hj5 : ¬ S.size < s.size - 4 := by have := HSS.out; omega
            have hj4 : ¬ (S.size : Int) < ((s.size - 4 : Nat) : Int) := by omega
            have A1 := Hid.mk' (stirWA_bits G hG)
            have A2 := Hid.mk' (stirWB_bits _ (Sums.stirWA_lt G))
            have A3 := Hid.mk' (stirWC_bits _ (Sums.stirWB_lt (Sums.stirWA G)))
            have HE : Hid (Sums.last64 h n (Sums.bl r) = Sums.stirWB (Sums.stirWA G) ^^^ Sums.stirWB (Sums.stirWA G) / 4294967296) := by
              show _ = _
              unfold Sums.last64 Sums.stir64
              rw [← HH.out]
              have : G = Sums.tail64 H0 (Sums.bl r) := by
                rw [HG.out, ← Sums.bl_length, List.take_length]; exact HI3.out
              rw [this]
            have l1 := Sums.stirWA_lt G
            have l2 := Sums.stirWB_lt (Sums.stirWA G)
            generalize Sums.stirWB (Sums.stirWA G) = Z at *
            generalize Sums.stirWA G = Y at *
            clear HG
            go_wp2_with fail
            go_ret
            rw [A1.out, A2.out, A3.out]
            exact ⟨ret_u64 (by rw [HE.out]), m + n1, rfl⟩
      · have g4 : ¬ (4 : Int) ≤ (s.size : Int) := by omega
        have HI3 : Hid (Sums.bytes64 H (Sums.bl s) = Sums.tail64 H0 (Sums.bl r)) := by
          show _ = _
          rw [← HI2.out, Sums.four64, if_neg (by rw [Sums.bl_length]; exact h4)]
        clear HI2
        go_wp2_with fail
        go_loop [0, 41] (fun x y => ∃ (j G : Nat), j ≤ s.size ∧ G < 18446744073709551616 ∧ x = .int .u64 (G : Int) ∧ y = .int .i64 (j : Int) ∧ Hid (G = Sums.bytes64 H ((Sums.bl s).take j))) (fun _ y => s.size - (intOf y).toNat)
        case atStart => exact ⟨0, H, by omega, hH, rfl, rfl, rfl⟩
        case round =>
          obtain ⟨j, G, hj, hG, rfl, rfl, HG⟩ := hrel
          by_cases hlt : j < s.size
          · have hj3 : (j : Int) < (s.size : Int) := by omega
            have hby := UInt8.toNat_lt s[j]
            have HG2 : Hid (Sums.mixW1 G s[j].toNat = Sums.bytes64 H ((Sums.bl s).take (j + 1))) := by
              show _ = _
              rw [Sums.bytes64_on _ _ _ (by rw [Sums.bl_length]; exact hlt), ← HG.out, Sums.bl_get s j hlt]
            have hm1 := Sums.mixW1_lt G s[j].toNat
            have hx0 : s[j].toNat * 2870177450012600261 % 18446744073709551616 < 18446744073709551616 := Nat.mod_lt _ (by decide)
            have hx := Sums.xor64_lt hG hx0
            have HM : Hid (Sums.mixW1 G s[j].toNat = Sums.rot64 (G ^^^ s[j].toNat * 2870177450012600261 % 18446744073709551616) 11 * 11400714785074694791 % 18446744073709551616) := rfl
            have HX : Hid (bits .xor .u64 (G : Int) (IntKind.u64.wrap ((s[j].toNat : Int) * 2870177450012600261)) = ((G ^^^ s[j].toNat * 2870177450012600261 % 18446744073709551616 : Nat) : Int)) := by
              show _ = _
              rw [show IntKind.u64.wrap ((s[j].toNat : Int) * 2870177450012600261) = ((s[j].toNat * 2870177450012600261 % 18446744073709551616 : Nat) : Int) by rw [IntKind.wrap_u64]; omega, u64_xor_nat _ _ hG hx0]
            clear HG
            go_wp2_with fail
            refine (rotl64_i _ (G ^^^ s[j].toNat * 2870177450012600261 % 18446744073709551616) 11 _ HX.out hx (by omega) (by omega) 11 rfl).mono ?_
            rintro e w1 ⟨rfl, rfl⟩
            go_wp2_with fail
            go_round
            case rel => exact ⟨j + 1, _, by omega, hm1, int_u64 (by rw [HM.out]; simp only [IntKind.wrap_u64]; omega), by go_num, HG2⟩
            case measure => simp [intOf]; omega
          · obtain rfl : j = s.size := by omega
            have hlt' : ¬ (s.size : Int) < (s.size : Int) := by omega
            have A1 := Hid.mk' (stirWA_bits G hG)
            have A2 := Hid.mk' (stirWB_bits _ (Sums.stirWA_lt G))
            have A3 := Hid.mk' (stirWC_bits _ (Sums.stirWB_lt (Sums.stirWA G)))
            have HE : Hid (Sums.last64 h n (Sums.bl r) = Sums.stirWB (Sums.stirWA G) ^^^ Sums.stirWB (Sums.stirWA G) / 4294967296) := by
              show _ = _
              unfold Sums.last64 Sums.stir64
              rw [← HH.out]
              have : G = Sums.tail64 H0 (Sums.bl r) := by
                rw [HG.out, ← Sums.bl_length, List.take_length]; exact HI3.out
              rw [this]
            have l1 := Sums.stirWA_lt G
            have l2 := Sums.stirWB_lt (Sums.stirWA G)
            generalize Sums.stirWB (Sums.stirWA G) = Z at *
            generalize Sums.stirWA G = Y at *
            clear HG
            go_wp2_with fail
            go_ret
            rw [A1.out, A2.out, A3.out]
            exact ⟨ret_u64 (by rw [HE.out]), m, rfl⟩
end Go.Proofs.YtapphnkddjchkaaDoor
