/-
  What the document's XX32 does. Conditions: the seed is of 32 bits, the text no longer than any text can be.
-/
import Derived.Test.YtapphnkddjchkaaDoorRefA
namespace Go.Proofs.YtapphnkddjchkaaDoor
open Go.RowKit
set_option linter.unusedVariables false
theorem bytes32_cons (h b : Nat) (l : List Nat) : Sums.bytes32 h (b :: l) = Sums.bytes32 (Sums.mix1 h b) l := by unfold Sums.bytes32; rw [List.foldl_cons]
theorem drop_at (s : ByteArray) (q : Nat) (h : q < s.size) : (Sums.bl s).drop q = s[q].toNat :: (Sums.bl s).drop (q + 1) := by
  have hl : q < (Sums.bl s).length := by rw [Sums.bl_length]; exact h
  rw [List.drop_eq_getElem_cons hl, ← Sums.bl_get s q h, List.getD_eq_getElem?_getD, List.getElem?_eq_getElem hl]
  rfl
set_option maxHeartbeats 2000000 in
theorem refXX32_less (seed : Nat) (s : ByteArray) (w : World) (hq : seed < 4294967296) (h : s.size < 16) :
    Calls Tryd.prog 20 #[.int .u32 (seed : Int), .string s] w fun e w' => e = .returned (.int .u32 (Sums.xx32 seed (Sums.bl s) : Nat)) ∧ Below w.heap.size w w' := by
  have g : ¬ (16 : Int) ≤ (s.size : Int) := by omega
  have hmx : s.size ≤ maxLen := by unfold maxLen; omega
  have hm2 : (s.size : Int) ≤ 9223372036854775000 := by omega
  have HB0 : Hid (Below w.heap.size w w) := Below.refl _ _
  have HX : Hid (Sums.xx32 seed (Sums.bl s) = Sums.stir32 (Sums.tail32 (((seed + 374761393) % 4294967296 + s.size) % 4294967296) ((Sums.bl s).drop 0))) := by
    show _ = _
    rw [xx32_short _ _ (by rw [Sums.bl_length]; exact h), Sums.bl_length, Sums.last32, List.drop_zero]
  go_enter Tryd.func20, Tryd.ntmps20
  go_wp2_with fail
  obtain ⟨H0, HH0⟩ : ∃ H0, Hid (H0 = ((seed + 374761393) % 4294967296 + s.size) % 4294967296) := ⟨_, Hid.mk' rfl⟩
  rw [← HH0.out] at HX
  have e0 : ((seed : Int) + 374761393 + (s.size : Int)) % 4294967296 = (H0 : Int) := by have := HH0.out; omega
  have hH0 : H0 < 4294967296 := by have := HH0.out; omega
  first | rw [e0] | (trace_state; fail)
  clear e0
  go_loopw [5, 6] (fun x y wr => ∃ H pz : Nat, H < 4294967296 ∧ pz ≤ s.size ∧ x = .int .u32 (H : Int) ∧ y = .int .i64 (pz : Int) ∧ Hid (Sums.tail32 H ((Sums.bl s).drop pz) = Sums.tail32 H0 ((Sums.bl s).drop 0)) ∧ Hid (Below w.heap.size w wr)) (fun _ y _ => s.size - (intOf y).toNat)
  case atStart => exact ⟨H0, 0, hH0, by omega, rfl, rfl, rfl, HB0⟩
  case round =>
    clear HB0
    obtain ⟨H, pz, hH, hpz, rfl, rfl, HI, HB⟩ := hrel
    by_cases h4 : pz + 4 ≤ s.size
    · have g4 : (pz : Int) + 4 ≤ (s.size : Int) := by omega
      have hw4 := Sums.w4_lt ((Sums.bl s).drop pz) (fun z hz => Sums.bl_byt s z (List.mem_of_mem_drop hz))
      have HI2 : Hid (Sums.tail32 (Sums.mix4 H (Sums.w4 ((Sums.bl s).drop pz))) ((Sums.bl s).drop (pz + 4)) = Sums.tail32 H0 ((Sums.bl s).drop 0)) := by
        show _ = _
        rw [← List.drop_drop, ← Sums.tail32_more _ _ (by rw [List.length_drop, Sums.bl_length]; omega)]
        exact HI.out
      have hm4 := Sums.mix4_lt H (Sums.w4 ((Sums.bl s).drop pz))
      have HM : Hid (Sums.mix4 H (Sums.w4 ((Sums.bl s).drop pz)) = Sums.rot32 ((H + Sums.w4 ((Sums.bl s).drop pz) * 3266489917) % 4294967296) 17 * 668265263 % 4294967296) := by show _ = _; rw [Sums.mix4]
      clear HI
      go_wp2_with fail
      refine (refWord_any s pz _ hmx h4).mono ?_
      rintro e w1 ⟨rfl, n1, rfl⟩
      go_wp2_with fail
      refine (left_i _ ((H + Sums.w4 ((Sums.bl s).drop pz) * 3266489917) % 4294967296) 17 _ (by omega) (by omega) (by omega) (by omega) 17 rfl).mono ?_
      rintro e w1 ⟨rfl, n2, rfl⟩
      go_wp2_with fail
      go_roundw
      case rel => exact ⟨_, pz + 4, hm4, h4, int_u32 (by rw [HM.out]; omega), by go_num, HI2, HB.out.drewN' _⟩
      case measure => simp [intOf]; omega
    · have g4 : ¬ (pz : Int) + 4 ≤ (s.size : Int) := by omega
      have HI2 : Hid (Sums.bytes32 H ((Sums.bl s).drop pz) = Sums.tail32 H0 ((Sums.bl s).drop 0)) := by
        show _ = _
        rw [← Sums.tail32_end _ _ (by rw [List.length_drop, Sums.bl_length]; omega)]
        exact HI.out
      clear HI
      go_wp2_with fail
      go_loopw [5, 6] (fun x y wr => ∃ G q : Nat, G < 4294967296 ∧ q ≤ s.size ∧ x = .int .u32 (G : Int) ∧ y = .int .i64 (q : Int) ∧ Hid (Sums.bytes32 G ((Sums.bl s).drop q) = Sums.tail32 H0 ((Sums.bl s).drop 0)) ∧ Hid (Below w.heap.size w wr)) (fun _ y _ => s.size - (intOf y).toNat)
      case atStart => exact ⟨H, pz, hH, hpz, rfl, rfl, HI2, HB⟩
      case round =>
        clear HB HI2
        obtain ⟨G, q, hG, hq2, rfl, rfl, HG, HB⟩ := hrel
        by_cases hlt : q < s.size
        · have g5 : (q : Int) < (s.size : Int) := by omega
          have hby := UInt8.toNat_lt s[q]
          have HG2 : Hid (Sums.bytes32 (Sums.mix1 G s[q].toNat) ((Sums.bl s).drop (q + 1)) = Sums.tail32 H0 ((Sums.bl s).drop 0)) := by
            show _ = _
            rw [← bytes32_cons, ← drop_at s q hlt]
            exact HG.out
          have hm1 := Sums.mix1_lt G s[q].toNat
          have HM : Hid (Sums.mix1 G s[q].toNat = Sums.rot32 ((G + s[q].toNat * 374761393) % 4294967296) 11 * 2654435761 % 4294967296) := by show _ = _; rw [Sums.mix1]
          clear HG
          go_wp2_with fail
          refine (left_i _ ((G + s[q].toNat * 374761393) % 4294967296) 11 _ (by omega) (by omega) (by omega) (by omega) 11 rfl).mono ?_
          rintro e w1 ⟨rfl, n1, rfl⟩
          go_wp2_with fail
          go_roundw
          case rel => exact ⟨_, q + 1, hm1, hlt, int_u32 (by rw [HM.out]; omega), by go_num, HG2, HB.out.drewN' _⟩
          case measure => simp [intOf]; omega
        · have g5 : ¬ (q : Int) < (s.size : Int) := by omega
          have A1 := stirA_bits G hG
          have A2 := stirB_bits _ (Sums.stirA_lt G)
          have A3 := stirC_bits _ (Sums.stirB_lt (Sums.stirA G))
          have HE : Hid (Sums.xx32 seed (Sums.bl s) = Sums.stirB (Sums.stirA G) ^^^ Sums.stirB (Sums.stirA G) / 65536) := by
            show _ = _
            have e1 : G = Sums.tail32 H0 ((Sums.bl s).drop 0) := by
              rw [← HG.out, List.drop_eq_nil_of_le (by rw [Sums.bl_length]; omega), Sums.bytes32, List.foldl_nil]
            rw [HX.out, ← e1, Sums.stir32]
          have l1 := Sums.stirA_lt G
          have l2 := Sums.stirB_lt (Sums.stirA G)
          generalize Sums.stirB (Sums.stirA G) = Z at *
          generalize Sums.stirA G = Y at *
          clear HG
          go_wp2_with fail
          go_ret
          exact ⟨ret_u32 (by rw [HE.out]), HB.out⟩
end Go.Proofs.YtapphnkddjchkaaDoor
