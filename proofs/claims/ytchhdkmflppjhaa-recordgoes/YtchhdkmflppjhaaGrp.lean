/-
  What a Reader's groups does. Conditions: as it says.
-/
import Derived.Test.YtchhdkmflppjhaaRdr
namespace Go.Proofs.Ytchhdkmflppjhaa
open Go.RowKit
set_option linter.unusedVariables false
theorem drop_cons (s : ByteArray) (i : Nat) (h : i < s.size) : (Sums.bl s).drop i = (Sums.bl s).getD i 0 :: (Sums.bl s).drop (i + 1) := by
  have hl : i < (Sums.bl s).length := by rw [Sums.bl_length]; exact h
  rw [List.drop_eq_getElem_cons hl, List.getD_eq_getElem?_getD, List.getElem?_eq_getElem hl]
  rfl
theorem drop_end (s : ByteArray) (i : Nat) (h : s.size ≤ i) : (Sums.bl s).drop i = [] := List.drop_eq_nil_of_le (by rw [Sums.bl_length]; exact h)
theorem bl_lt (s : ByteArray) (i : Nat) : (Sums.bl s).getD i 0 < 256 := by
  by_cases h : i < s.size
  · rw [Sums.bl_get s i h]; exact UInt8.toNat_lt _
  · rw [List.getD_eq_getElem?_getD, List.getElem?_eq_none (by rw [Sums.bl_length]; omega)]; decide
theorem andNot_128 (b : Nat) (hb : b < 256) : bits .andNot .u8 (b : Int) 128 = ((b % 128 : Nat) : Int) := by
  rw [show (128 : Int) = ((128 : Nat) : Int) from rfl, u8_andNot_nat b 128 hb (by decide)]
  congr 1
  exact (show ∀ b < 256, b &&& (255 - 128) = b % 128 by decide +kernel) b hb
theorem grp_lt (m c i : Nat) (hm : m < 2 ^ (7 * i)) (hc : c < 128) : m + c * 2 ^ (7 * i) < 2 ^ (7 * (i + 1)) := by
  rw [Code.pow7]
  have h : (c + 1) * 2 ^ (7 * i) ≤ 128 * 2 ^ (7 * i) := Nat.mul_le_mul_right _ (by omega)
  rw [Nat.add_mul] at h
  omega
theorem grp_64n (m c i : Nat) (hi : i ≤ 9) (hm : m < 2 ^ (7 * i)) (hc : c < 128) (h9 : i = 9 → c ≤ 1) : m + c * 2 ^ (7 * i) < 18446744073709551616 := by
  by_cases h : i = 9
  · subst h
    have := h9 rfl
    simp at hm ⊢
    omega
  · have h1 := grp_lt m c i hm hc
    have h2 : 2 ^ (7 * (i + 1)) ≤ 2 ^ 63 := Nat.pow_le_pow_right (by decide) (by omega)
    omega
theorem grp_64 (m c i : Nat) (hi : i ≤ 9) (hm : m < 2 ^ (7 * i)) (hc : c < 128) (h9 : i = 9 → c ≤ 1) : ((m + c * 2 ^ (7 * i) : Nat) : Int) < 18446744073709551616 := by
  have := grp_64n m c i hi hm hc h9
  omega
theorem grp_or (m c i : Nat) (hi : i ≤ 9) (hm : m < 2 ^ (7 * i)) (hc : c < 128) (h9 : i = 9 → c ≤ 1) : bits .or .u64 (m : Int) ((c : Int) * 2 ^ (7 * i)) = ((m + c * 2 ^ (7 * i) : Nat) : Int) := by
  have h := grp_64n m c i hi hm hc h9
  rw [show (c : Int) * 2 ^ (7 * i) = ((c * 2 ^ (7 * i) : Nat) : Int) by simp, u64_or_nat _ _ (by omega) (by omega)]
  congr 1
  have := Nat.two_pow_add_eq_or_of_lt hm c
  rw [Nat.or_comm, Nat.mul_comm c, ← this, Nat.add_comm]
def grpPost (g : Nat) (s : ByteArray) (a : Nat) (w : World) (e : Ending) (w' : World) : Prop :=
  e = .returned (.tuple #[.int .u64 ((Code.rd ((Sums.bl s).drop a)).1 : Int), .int .i64 ((Code.rd ((Sums.bl s).drop a)).2.1 : Int)]) ∧ ∃ a', a' ≤ s.size ∧ Rdr g s a' w' ∧ Only g w w' ∧ ((Code.rd ((Sums.bl s).drop a)).2.1 = 0 → a' = a + (Code.rd ((Sums.bl s).drop a)).2.2)
set_option maxHeartbeats 1000000 in
theorem groups_any (g : Nat) (s : ByteArray) (a : Nat) (w : World) (h : Rdr g s a w) (ha : a ≤ s.size) (hs : s.size ≤ 1125899906842624) :
    Calls Try.prog 49 #[.pointer (some ⟨g, 0, none⟩)] w (grpPost g s a w) := by
  have HS := Hid.mk' hs
  have HA := Hid.mk' ha
  have HH := Hid.mk' h
  clear hs ha h
  obtain ⟨R, HRD⟩ : ∃ R, Hid (R = Code.rd ((Sums.bl s).drop a)) := ⟨_, rfl⟩
  go_enter Try.func49, Try.ntmps49
  go_wp2_with fail
  go_loopw [4, 5] (fun n' i' wr => ∃ (i m : Nat), i ≤ 9 ∧ n' = .int .u64 (m : Int) ∧ i' = .int .i64 (i : Int) ∧ m < 2 ^ (7 * i) ∧ a + i ≤ s.size ∧ Code.rdF (10 - i) i m ((Sums.bl s).drop (a + i)) = Code.rd ((Sums.bl s).drop a) ∧ Rdr g s (a + i) wr ∧ Only g w wr) (fun _ i' _ => 10 - (intOf i').toNat)
  case atStart => exact ⟨0, 0, by omega, rfl, rfl, by simp, HA.out, rfl, HH.out, Only.refl _ _⟩
  case round =>
    obtain ⟨i, m, hi, rfl, rfl, hm, hai, hrd, hr, ho⟩ := hrel
    have HI := Hid.mk' hi
    have HM := Hid.mk' hm
    have HAI := Hid.mk' hai
    have HRF := Hid.mk' hrd
    have HR := Hid.mk' hr
    have HO := Hid.mk' ho
    clear hi hm hai hrd hr ho
    by_cases hlt : a + i < s.size
    · obtain ⟨b, HB⟩ : ∃ b, Hid (b = (Sums.bl s).getD (a + i) 0) := ⟨_, rfl⟩
      have hb256 : b < 256 := by rw [HB.out]; exact bl_lt _ _
      have HQ : Hid ((if i = 9 ∧ 1 < b then (0, 32, 0) else if 0 < i ∧ b = 0 then (0, 31, 0) else if b < 128 then (m + b % 128 * 2 ^ (7 * i), 0, i + 1) else Code.rdF (9 - i) (i + 1) (m + b % 128 * 2 ^ (7 * i)) ((Sums.bl s).drop (a + i + 1))) = Code.rd ((Sums.bl s).drop a)) := by
        unfold Hid
        rw [← HRF.out, drop_cons s _ hlt, ← HB.out, show 10 - i = (9 - i) + 1 by have := HI.out; omega, Code.rdF_cons]
      have HL := Hid.mk' hlt
      have H256 := Hid.mk' hb256
      clear hlt hb256
      go_wp2_with fail
      refine (next_some g s (a + i) wr HR.out HL.out HS.out).mono ?_
      rintro e w1 ⟨rfl, hr1, ho1⟩
      rw [← HB.out]
      have HR1 := Hid.mk' hr1
      have HO1 := Hid.mk' (HO.out.trans ho1)
      clear hr1 ho1
      have b0 : (0 : Int) ≤ (b : Int) := by omega
      have b1 : (b : Int) < 256 := by have := H256.out; omega
      have i0 : (0 : Int) ≤ (i : Int) := by omega
      have i9 : (i : Int) ≤ 9 := by have := HI.out; omega
      by_cases h1 : i = 9 ∧ 1 < b
      · obtain ⟨rfl, h1⟩ := h1
        have h1' : decide ((1 : Int) < (b : Int)) = true := decide_eq_true (by omega)
        have h1'' : (1 : Int) < (b : Int) := by omega
        have HQ' : Hid (Code.rd ((Sums.bl s).drop a) = (0, 32, 0)) := by unfold Hid; rw [← HQ.out, if_pos ⟨rfl, h1⟩]
        clear h1
        go_wp2_with fail
        go_ret2
        unfold grpPost
        rw [HQ'.out]
        exact ⟨rfl, a + 9 + 1, HL.out, HR1.out, HO1.out, fun h => by simp at h⟩
      · by_cases h2 : 0 < i ∧ b = 0
        · obtain ⟨h2, rfl⟩ := h2
          have HQ' : Hid (Code.rd ((Sums.bl s).drop a) = (0, 31, 0)) := by unfold Hid; rw [← HQ.out, if_neg h1, if_pos ⟨h2, rfl⟩]
          have h3 : decide ((0 : Int) < (i : Int)) = true := decide_eq_true (by omega)
          have h3' : (0 : Int) < (i : Int) := by omega
          clear h1
          by_cases h9 : i = 9
          · subst h9
            go_wp2_with fail
            go_ret2
            unfold grpPost
            rw [HQ'.out]
            exact ⟨rfl, a + 9 + 1, HL.out, HR1.out, HO1.out, fun h => by simp at h⟩
          · have h9' : ((i : Int) == 9) = false := by simp; omega
            go_wp2_with fail
            go_ret2
            unfold grpPost
            rw [HQ'.out]
            exact ⟨rfl, a + i + 1, HL.out, HR1.out, HO1.out, fun h => by simp at h⟩
        · obtain ⟨c, HC⟩ : ∃ c, Hid (c = b % 128) := ⟨_, rfl⟩
          have c0 : (0 : Int) ≤ (c : Int) := by omega
          have c1 : (c : Int) < 128 := by have := HC.out; omega
          have hand : bits .andNot .u8 (b : Int) 128 = (c : Int) := by rw [HC.out]; exact andNot_128 b H256.out
          obtain ⟨r, HRr⟩ : ∃ r, Hid (r = m + c * 2 ^ (7 * i)) := ⟨_, rfl⟩
          have hc9 : i = 9 → c ≤ 1 := by have := HC.out; have := H256.out; omega
          have HRL := Hid.mk' (grp_lt m c i HM.out (by have := HC.out; omega))
          have hor : bits .or .u64 (m : Int) ((c : Int) * 2 ^ (7 * i)) = (r : Int) := by rw [HRr.out]; exact grp_or m c i HI.out HM.out (by have := HC.out; omega) hc9
          have r64 : (r : Int) < 18446744073709551616 := by rw [HRr.out]; exact grp_64 m c i HI.out HM.out (by have := HC.out; omega) hc9
          by_cases hb : b < 128
          · have HQ' : Hid (Code.rd ((Sums.bl s).drop a) = (r, 0, i + 1)) := by unfold Hid; rw [← HQ.out, if_neg h1, if_neg h2, if_pos hb, HRr.out, HC.out]
            have b2 : (b : Int) < 128 := by omega
            have hz : 0 < i → ((b : Int) == 0) = false := fun h => by simp; omega
            have hz9 : i = 9 → (b : Int) ≤ 1 := fun h => by omega
            have HI2 := HI.out
            clear hb h1 h2 hc9
            by_cases h9 : i = 9
            · subst h9
              have hz2 := hz (by omega)
              have hb1 := hz9 rfl
              obtain rfl : b = 1 := by simp at hz2; omega
              obtain rfl : c = 1 := HC.out
              clear hz hz9 HI2 hz2 hb1 b0 b1 b2 c0 c1 i0 i9
              simp only [Nat.reduceMul, Int.reducePow, Int.one_mul, Int.cast_ofNat_Int] at hor hand
              go_wp2_with fail
              go_ret2
              unfold grpPost
              rw [HQ'.out]
              exact ⟨rfl, _, HL.out, HR1.out, HO1.out, fun _ => rfl⟩
            by_cases h0 : i = 0
            · subst h0
              obtain rfl : m = 0 := by have := HM.out; simp at this; exact this
              simp only [Nat.mul_zero, Int.pow_zero, Int.mul_one, Int.cast_ofNat_Int] at hor
              clear hz hz9 HI2
              go_wp2_with fail
              go_ret2
              unfold grpPost
              rw [HQ'.out]
              exact ⟨rfl, _, HL.out, HR1.out, HO1.out, fun _ => rfl⟩
            have hz2 := hz (by omega)
            clear hz hz9
            rcases (show i = 1 ∨ i = 2 ∨ i = 3 ∨ i = 4 ∨ i = 5 ∨ i = 6 ∨ i = 7 ∨ i = 8 by omega) with rfl | rfl | rfl | rfl | rfl | rfl | rfl | rfl
            all_goals
              clear HI2 h9 h0
              simp only [Nat.reduceMul, Int.reducePow] at hor
              go_wp2_with fail
              go_ret2
              unfold grpPost
              rw [HQ'.out]
              exact ⟨rfl, _, HL.out, HR1.out, HO1.out, fun _ => rfl⟩
          · have HQ' : Hid (Code.rdF (9 - i) (i + 1) r ((Sums.bl s).drop (a + i + 1)) = Code.rd ((Sums.bl s).drop a)) := by unfold Hid; rw [← HQ.out, if_neg h1, if_neg h2, if_neg hb, HRr.out, HC.out]
            have b2 : decide ((b : Int) < 128) = false := decide_eq_false (by omega)
            have b3 : ¬ (b : Int) < 128 := by omega
            have hz2 : ((b : Int) == 0) = false := by simp; omega
            have hi8 : i ≤ 8 := by have := HI.out; omega
            have FIN : Hid (i + 1 ≤ 9 ∧ r < 2 ^ (7 * (i + 1)) ∧ a + (i + 1) ≤ s.size ∧ Code.rdF (10 - (i + 1)) (i + 1) r ((Sums.bl s).drop (a + (i + 1))) = Code.rd ((Sums.bl s).drop a) ∧ Rdr g s (a + (i + 1)) w1) := by
              refine ⟨by omega, by rw [HRr.out]; exact HRL.out, HL.out, ?_, HR1.out⟩
              rw [show 10 - (i + 1) = 9 - i by omega]
              exact HQ'.out
            clear hb h1 h2 hc9
            by_cases h0 : i = 0
            · subst h0
              obtain rfl : m = 0 := by have := HM.out; simp at this; exact this
              simp only [Nat.mul_zero, Int.pow_zero, Int.mul_one, Int.cast_ofNat_Int] at hor
              clear hi8
              go_wp2_with fail
              go_roundw
              case rel => exact ⟨_, r, FIN.out.1, rfl, rfl, FIN.out.2.1, FIN.out.2.2.1, FIN.out.2.2.2.1, FIN.out.2.2.2.2, HO1.out⟩
              case measure => simp [intOf]
            rcases (show i = 1 ∨ i = 2 ∨ i = 3 ∨ i = 4 ∨ i = 5 ∨ i = 6 ∨ i = 7 ∨ i = 8 by omega) with rfl | rfl | rfl | rfl | rfl | rfl | rfl | rfl
            all_goals
              clear hi8 h0
              simp only [Nat.reduceMul, Int.reducePow] at hor
              go_wp2_with fail
              go_roundw
              case rel => exact ⟨_, r, FIN.out.1, rfl, rfl, FIN.out.2.1, FIN.out.2.2.1, FIN.out.2.2.2.1, FIN.out.2.2.2.2, HO1.out⟩
              case measure => simp [intOf]
    · have he : a + i = s.size := by have := HAI.out; omega
      have HE := Hid.mk' he
      have hR2 : Rdr g s s.size wr := by rw [← he]; exact HR.out
      have HR2 := Hid.mk' hR2
      have HQ : Hid (Code.rd ((Sums.bl s).drop a) = (0, 30, 0)) := by
        unfold Hid
        rw [← HRF.out, drop_end s _ (by omega), show 10 - i = (9 - i) + 1 by have := HI.out; omega]
        rfl
      clear hlt he hR2
      go_wp2_with fail
      refine (next_none g s wr HR2.out HS.out).mono ?_
      rintro e w1 ⟨rfl, n, rfl⟩
      go_wp2_with fail
      go_ret2
      unfold grpPost
      rw [HQ.out]
      exact ⟨rfl, s.size, Nat.le_refl _, HR2.out, HO.out.drewN n, fun h => by simp at h⟩
end Go.Proofs.Ytchhdkmflppjhaa
