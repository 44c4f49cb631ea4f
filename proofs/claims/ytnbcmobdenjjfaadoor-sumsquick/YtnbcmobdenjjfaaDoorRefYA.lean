/-
  What the document's XX64 does with a short text. Conditions: the seed is of 64 bits.
-/
import Derived.Test.YtnbcmobdenjjfaaDoorRefXA
namespace Go.Proofs.YtnbcmobdenjjfaaDoor
open Go.RowKit
set_option linter.unusedVariables false
theorem bytes64_cons (h b : Nat) (l : List Nat) : Sums.bytes64 h (b :: l) = Sums.bytes64 (Sums.mixW1 h b) l := by unfold Sums.bytes64; rw [List.foldl_cons]
set_option maxHeartbeats 4000000 in
theorem refXX64_less (seed : Nat) (s : ByteArray) (w : World) (hq : seed < 18446744073709551616) (h : s.size < 32) :
    Calls Tryd.prog 17 #[.int .u64 (seed : Int), .string s] w fun e w' => e = .returned (.int .u64 (Sums.xx64 seed (Sums.bl s) : Nat)) ∧ Below w.heap.size w w' := by
  have g : ¬ (32 : Int) ≤ (s.size : Int) := by omega
  have hmx : s.size ≤ maxLen := by unfold maxLen; omega
  have hm2 : (s.size : Int) ≤ 9223372036854775000 := by omega
  have HB0 : Hid (Below w.heap.size w w) := Below.refl _ _
  have HX : Hid (Sums.xx64 seed (Sums.bl s) = Sums.stir64 (Sums.tail64 (((seed + 2870177450012600261) % 18446744073709551616 + s.size) % 18446744073709551616) ((Sums.bl s).drop 0))) := by
    show _ = _
    rw [xx64_short _ _ (by rw [Sums.bl_length]; exact h), Sums.bl_length, Sums.last64, List.drop_zero]
  go_enter Tryd.func17, Tryd.ntmps17
  go_wp2_with fail
  obtain ⟨H0, HH0⟩ : ∃ H0, Hid (H0 = ((seed + 2870177450012600261) % 18446744073709551616 + s.size) % 18446744073709551616) := ⟨_, Hid.mk' rfl⟩
  rw [← HH0.out] at HX
  have e0 : IntKind.u64.wrap (IntKind.u64.wrap ((seed : Int) + 2870177450012600261) + (s.size : Int)) = (H0 : Int) := by have := HH0.out; simp only [IntKind.wrap_u64]; omega
  have hH0 : H0 < 18446744073709551616 := by have := HH0.out; omega
  rw [e0]
  clear e0
  generalize IntKind.u64.wrap ((seed : Int) + 2870177450012600261) = v3 at *
  go_loopw [5, 6] (fun x y wr => ∃ H pz : Nat, H < 18446744073709551616 ∧ pz ≤ s.size ∧ x = .int .u64 (H : Int) ∧ y = .int .i64 (pz : Int) ∧ Hid (Sums.tail64 H ((Sums.bl s).drop pz) = Sums.tail64 H0 ((Sums.bl s).drop 0)) ∧ Hid (Below w.heap.size w wr)) (fun _ y _ => s.size - (intOf y).toNat)
  case atStart => exact ⟨H0, 0, hH0, by omega, rfl, rfl, rfl, HB0⟩
  case round =>
    clear HB0
    obtain ⟨H, pz, hH, hpz, rfl, rfl, HI, HB⟩ := hrel
    by_cases h8 : pz + 8 ≤ s.size
    · have g8 : (pz : Int) + 8 ≤ (s.size : Int) := by omega
      have hw8 := Sums.w8_lt ((Sums.bl s).drop pz) (fun z hz => Sums.bl_byt s z (List.mem_of_mem_drop hz))
      have HI2 : Hid (Sums.tail64 (Sums.mixW8 H (Sums.w8 ((Sums.bl s).drop pz))) ((Sums.bl s).drop (pz + 8)) = Sums.tail64 H0 ((Sums.bl s).drop 0)) := by
        show _ = _
        rw [← List.drop_drop, ← Sums.tail64_more _ _ (by rw [List.length_drop, Sums.bl_length]; omega)]
        exact HI.out
      have hm8 := Sums.mixW8_lt H (Sums.w8 ((Sums.bl s).drop pz))
      have hrd := Sums.round64_lt 0 (Sums.w8 ((Sums.bl s).drop pz))
      have hx := Sums.xor64_lt hH hrd
      have HM : Hid (Sums.mixW8 H (Sums.w8 ((Sums.bl s).drop pz)) = (Sums.rot64 (H ^^^ Sums.round64 0 (Sums.w8 ((Sums.bl s).drop pz))) 27 * 11400714785074694791 + 9650029242287828579) % 18446744073709551616) := by show _ = _; rw [Sums.mixW8]
      clear HI
      go_wp2_with fail
      refine (eight_any s pz _ hmx h8).mono ?_
      rintro e w1 ⟨rfl, n1, rfl⟩
      go_wp2_with fail
      refine (refRound0_any _ _ hw8).mono ?_
      rintro e w1 ⟨rfl, n2, rfl⟩
      go_wp2_with fail
      refine (wide_i _ (H ^^^ Sums.round64 0 (Sums.w8 ((Sums.bl s).drop pz))) 27 _ (u64_xor_nat _ _ hH hrd) hx (by omega) (by omega) 27 rfl).mono ?_
      rintro e w1 ⟨rfl, n3, rfl⟩
      go_wp2_with fail
      go_roundw
      case rel => exact ⟨_, pz + 8, hm8, h8, int_u64 (by rw [HM.out]; simp only [IntKind.wrap_u64]; omega), by go_num, HI2, HB.out.drewN' _⟩
      case measure => simp [intOf]; omega
    · have g8 : ¬ (pz : Int) + 8 ≤ (s.size : Int) := by omega
      have HI2 : Hid (Sums.four64 H ((Sums.bl s).drop pz) = Sums.tail64 H0 ((Sums.bl s).drop 0)) := by
        show _ = _
        rw [← Sums.tail64_end _ _ (by rw [List.length_drop, Sums.bl_length]; omega)]
        exact HI.out
      clear HI
      by_cases h4 : pz + 4 ≤ s.size
      · have g4 : (pz : Int) + 4 ≤ (s.size : Int) := by omega
        have hw4 := Sums.w4_lt ((Sums.bl s).drop pz) (fun z hz => Sums.bl_byt s z (List.mem_of_mem_drop hz))
        obtain ⟨B4, HB4⟩ : ∃ B4, Hid (B4 = Sums.mixW4 H (Sums.w4 ((Sums.bl s).drop pz))) := ⟨_, Hid.mk' rfl⟩
        have HI3 : Hid (Sums.bytes64 B4 ((Sums.bl s).drop (pz + 4)) = Sums.tail64 H0 ((Sums.bl s).drop 0)) := by
          show _ = _
          rw [HB4.out, ← HI2.out, Sums.four64, if_pos (by rw [List.length_drop, Sums.bl_length]; omega), List.drop_drop]
        have hm4 : B4 < 18446744073709551616 := by rw [HB4.out]; exact Sums.mixW4_lt _ _
        have hx0 : Sums.w4 ((Sums.bl s).drop pz) * 11400714785074694791 % 18446744073709551616 < 18446744073709551616 := Nat.mod_lt _ (by decide)
        have hx := Sums.xor64_lt hH hx0
        have HM : Hid (B4 = (Sums.rot64 (H ^^^ Sums.w4 ((Sums.bl s).drop pz) * 11400714785074694791 % 18446744073709551616) 23 * 14029467366897019727 + 1609587929392839161) % 18446744073709551616) := by
          show _ = _
          rw [HB4.out, Sums.mixW4]
        have HXW : Hid (bits .xor .u64 (H : Int) (IntKind.u64.wrap ((Sums.w4 ((Sums.bl s).drop pz) : Int) * 11400714785074694791)) = ((H ^^^ Sums.w4 ((Sums.bl s).drop pz) * 11400714785074694791 % 18446744073709551616 : Nat) : Int)) := by
          show _ = _
          rw [show IntKind.u64.wrap ((Sums.w4 ((Sums.bl s).drop pz) : Int) * 11400714785074694791) = ((Sums.w4 ((Sums.bl s).drop pz) * 11400714785074694791 % 18446744073709551616 : Nat) : Int) by rw [IntKind.wrap_u64]; omega, u64_xor_nat _ _ hH hx0]
        clear HI2
        go_wp2_with fail
        refine (refWord_any s pz _ hmx h4).mono ?_
        rintro e w1 ⟨rfl, n1, rfl⟩
        go_wp2_with fail
        refine (wide_i _ (H ^^^ Sums.w4 ((Sums.bl s).drop pz) * 11400714785074694791 % 18446744073709551616) 23 _ HXW.out hx (by omega) (by omega) 23 rfl).mono ?_
        rintro e w1 ⟨rfl, n2, rfl⟩
        have e5 : IntKind.u64.wrap (IntKind.u64.wrap ((Sums.rot64 (H ^^^ Sums.w4 ((Sums.bl s).drop pz) * 11400714785074694791 % 18446744073709551616) 23 : Nat) * 14029467366897019727 : Int) + 1609587929392839161) = (B4 : Int) := by rw [HM.out]; simp only [IntKind.wrap_u64]; omega
        have HB5 : Hid (Below w.heap.size w (wr.drewN (n1 + n2))) := HB.out.drewN' _
        have eP : (pz : Int) + 4 = ((pz + 4 : Nat) : Int) := by omega
        have HEP := Hid.mk' eP
        clear eP
        go_wp2_with fail
        try rw [e5]
        try rw [HEP.out]
        clear e5 HB4 HM HXW HB HEP
        generalize hpq : pz + 4 = pq at *
        clear hpq
        generalize wr.drewN (n1 + n2) = wz2 at *
        go_loopw [5, 6] (fun x y wr => ∃ G q : Nat, G < 18446744073709551616 ∧ q ≤ s.size ∧ x = .int .u64 (G : Int) ∧ y = .int .i64 (q : Int) ∧ Hid (Sums.bytes64 G ((Sums.bl s).drop q) = Sums.tail64 H0 ((Sums.bl s).drop 0)) ∧ Hid (Below w.heap.size w wr)) (fun _ y _ => s.size - (intOf y).toNat)
        case atStart => exact ⟨B4, pq, hm4, h4, rfl, rfl, HI3, HB5⟩
        case round =>
          clear HB5 HI3
          obtain ⟨G, q, hG, hq2, rfl, rfl, HG, HB⟩ := hrel
          by_cases hlt : q < s.size
          · have g5 : (q : Int) < (s.size : Int) := by omega
            have hby := UInt8.toNat_lt s[q]
            have HG2 : Hid (Sums.bytes64 (Sums.mixW1 G s[q].toNat) ((Sums.bl s).drop (q + 1)) = Sums.tail64 H0 ((Sums.bl s).drop 0)) := by
              show _ = _
              rw [← bytes64_cons, ← drop_at s q hlt]
              exact HG.out
            have hm1 := Sums.mixW1_lt G s[q].toNat
            have hx0 : s[q].toNat * 2870177450012600261 % 18446744073709551616 < 18446744073709551616 := Nat.mod_lt _ (by decide)
            have hx := Sums.xor64_lt hG hx0
            have HM : Hid (Sums.mixW1 G s[q].toNat = Sums.rot64 (G ^^^ s[q].toNat * 2870177450012600261 % 18446744073709551616) 11 * 11400714785074694791 % 18446744073709551616) := by show _ = _; rw [Sums.mixW1]
            have HX : Hid (bits .xor .u64 (G : Int) (IntKind.u64.wrap ((s[q].toNat : Int) * 2870177450012600261)) = ((G ^^^ s[q].toNat * 2870177450012600261 % 18446744073709551616 : Nat) : Int)) := by
              show _ = _
              rw [show IntKind.u64.wrap ((s[q].toNat : Int) * 2870177450012600261) = ((s[q].toNat * 2870177450012600261 % 18446744073709551616 : Nat) : Int) by rw [IntKind.wrap_u64]; omega, u64_xor_nat _ _ hG hx0]
            clear HG
            go_wp2_with fail
            refine (wide_i _ (G ^^^ s[q].toNat * 2870177450012600261 % 18446744073709551616) 11 _ HX.out hx (by omega) (by omega) 11 rfl).mono ?_
            rintro e w1 ⟨rfl, n1, rfl⟩
            go_wp2_with fail
            go_roundw
            case rel => exact ⟨_, q + 1, hm1, hlt, int_u64 (by rw [HM.out]; simp only [IntKind.wrap_u64]; omega), by go_num, HG2, HB.out.drewN' _⟩
            case measure => simp [intOf]; omega
          · have g5 : ¬ (q : Int) < (s.size : Int) := by omega
            have A1 := Hid.mk' (stirWA_bits G hG)
            have A2 := Hid.mk' (stirWB_bits _ (Sums.stirWA_lt G))
            have A3 := Hid.mk' (stirWC_bits _ (Sums.stirWB_lt (Sums.stirWA G)))
            have HE : Hid (Sums.xx64 seed (Sums.bl s) = Sums.stirWB (Sums.stirWA G) ^^^ Sums.stirWB (Sums.stirWA G) / 4294967296) := by
              show _ = _
              have e1 : G = Sums.tail64 H0 ((Sums.bl s).drop 0) := by
                rw [← HG.out, List.drop_eq_nil_of_le (by rw [Sums.bl_length]; omega), Sums.bytes64, List.foldl_nil]
              rw [HX.out, ← e1, Sums.stir64]
            have l1 := Sums.stirWA_lt G
            have l2 := Sums.stirWB_lt (Sums.stirWA G)
            generalize Sums.stirWB (Sums.stirWA G) = Z at *
            generalize Sums.stirWA G = Y at *
            clear HG
            go_wp2_with fail
            go_ret
            rw [A1.out, A2.out, A3.out]
            exact ⟨ret_u64 (by rw [HE.out]), HB.out⟩
      · have g4 : ¬ (pz : Int) + 4 ≤ (s.size : Int) := by omega
        have HI3 : Hid (Sums.bytes64 H ((Sums.bl s).drop pz) = Sums.tail64 H0 ((Sums.bl s).drop 0)) := by
          show _ = _
          rw [← HI2.out, Sums.four64, if_neg (by rw [List.length_drop, Sums.bl_length]; omega)]
        clear HI2
        go_wp2_with fail
        go_loopw [5, 6] (fun x y wr => ∃ G q : Nat, G < 18446744073709551616 ∧ q ≤ s.size ∧ x = .int .u64 (G : Int) ∧ y = .int .i64 (q : Int) ∧ Hid (Sums.bytes64 G ((Sums.bl s).drop q) = Sums.tail64 H0 ((Sums.bl s).drop 0)) ∧ Hid (Below w.heap.size w wr)) (fun _ y _ => s.size - (intOf y).toNat)
        case atStart => exact ⟨H, pz, hH, hpz, rfl, rfl, HI3, HB⟩
        case round =>
          clear HB HI3
          obtain ⟨G, q, hG, hq2, rfl, rfl, HG, HB⟩ := hrel
          by_cases hlt : q < s.size
          · have g5 : (q : Int) < (s.size : Int) := by omega
            have hby := UInt8.toNat_lt s[q]
            have HG2 : Hid (Sums.bytes64 (Sums.mixW1 G s[q].toNat) ((Sums.bl s).drop (q + 1)) = Sums.tail64 H0 ((Sums.bl s).drop 0)) := by
              show _ = _
              rw [← bytes64_cons, ← drop_at s q hlt]
              exact HG.out
            have hm1 := Sums.mixW1_lt G s[q].toNat
            have hx0 : s[q].toNat * 2870177450012600261 % 18446744073709551616 < 18446744073709551616 := Nat.mod_lt _ (by decide)
            have hx := Sums.xor64_lt hG hx0
            have HM : Hid (Sums.mixW1 G s[q].toNat = Sums.rot64 (G ^^^ s[q].toNat * 2870177450012600261 % 18446744073709551616) 11 * 11400714785074694791 % 18446744073709551616) := by show _ = _; rw [Sums.mixW1]
            have HX : Hid (bits .xor .u64 (G : Int) (IntKind.u64.wrap ((s[q].toNat : Int) * 2870177450012600261)) = ((G ^^^ s[q].toNat * 2870177450012600261 % 18446744073709551616 : Nat) : Int)) := by
              show _ = _
              rw [show IntKind.u64.wrap ((s[q].toNat : Int) * 2870177450012600261) = ((s[q].toNat * 2870177450012600261 % 18446744073709551616 : Nat) : Int) by rw [IntKind.wrap_u64]; omega, u64_xor_nat _ _ hG hx0]
            clear HG
            go_wp2_with fail
            refine (wide_i _ (G ^^^ s[q].toNat * 2870177450012600261 % 18446744073709551616) 11 _ HX.out hx (by omega) (by omega) 11 rfl).mono ?_
            rintro e w1 ⟨rfl, n1, rfl⟩
            go_wp2_with fail
            go_roundw
            case rel => exact ⟨_, q + 1, hm1, hlt, int_u64 (by rw [HM.out]; simp only [IntKind.wrap_u64]; omega), by go_num, HG2, HB.out.drewN' _⟩
            case measure => simp [intOf]; omega
          · have g5 : ¬ (q : Int) < (s.size : Int) := by omega
            have A1 := Hid.mk' (stirWA_bits G hG)
            have A2 := Hid.mk' (stirWB_bits _ (Sums.stirWA_lt G))
            have A3 := Hid.mk' (stirWC_bits _ (Sums.stirWB_lt (Sums.stirWA G)))
            have HE : Hid (Sums.xx64 seed (Sums.bl s) = Sums.stirWB (Sums.stirWA G) ^^^ Sums.stirWB (Sums.stirWA G) / 4294967296) := by
              show _ = _
              have e1 : G = Sums.tail64 H0 ((Sums.bl s).drop 0) := by
                rw [← HG.out, List.drop_eq_nil_of_le (by rw [Sums.bl_length]; omega), Sums.bytes64, List.foldl_nil]
              rw [HX.out, ← e1, Sums.stir64]
            have l1 := Sums.stirWA_lt G
            have l2 := Sums.stirWB_lt (Sums.stirWA G)
            generalize Sums.stirWB (Sums.stirWA G) = Z at *
            generalize Sums.stirWA G = Y at *
            clear HG
            go_wp2_with fail
            go_ret
            rw [A1.out, A2.out, A3.out]
            exact ⟨ret_u64 (by rw [HE.out]), HB.out⟩
end Go.Proofs.YtnbcmobdenjjfaaDoor
