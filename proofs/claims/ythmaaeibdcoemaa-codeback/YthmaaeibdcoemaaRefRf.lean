/-
  What the document's Reader's Fixed does. Conditions: as each says.
-/
import Derived.Test.YthmaaeibdcoemaaRefRe
namespace Go.Proofs.Ythmaaeibdcoemaa
open Go.RowKit
set_option linter.unusedVariables false
/-- the number that the bytes from j to k on say -/
def leTo (s : ByteArray) (a k j : Nat) : Nat := leV ((((Sums.bl s).drop a).take k).drop j)
theorem leTo_zero (s : ByteArray) (a k : Nat) : leTo s a k 0 = leAt s a k := by unfold leTo leAt; rw [List.drop_zero]
theorem leTo_end (s : ByteArray) (a k : Nat) : leTo s a k k = 0 := by
  unfold leTo
  rw [List.drop_eq_nil_of_le (by rw [List.length_take]; omega)]
  rfl
theorem leTo_step (s : ByteArray) (a k i : Nat) (hi : i < k) (hk : a + k ≤ s.size) : leTo s a k i = (Sums.bl s).getD (a + i) 0 + 256 * leTo s a k (i + 1) := by
  unfold leTo
  have hl : i < (((Sums.bl s).drop a).take k).length := by rw [List.length_take, List.length_drop, Sums.bl_length]; omega
  rw [List.drop_eq_getElem_cons hl, leV, List.getElem_take, List.getElem_drop, List.getD_eq_getElem?_getD, List.getElem?_eq_getElem (by rw [Sums.bl_length]; omega)]
  rfl
theorem leTo_lt (s : ByteArray) (a k j : Nat) : leTo s a k j < 2 ^ (8 * (k - j)) := by
  unfold leTo
  have h1 := leV_lt ((((Sums.bl s).drop a).take k).drop j) (fun z hz => byt_drop s a z (List.mem_of_mem_take (List.mem_of_mem_drop hz)))
  have h2 : 2 ^ (8 * ((((Sums.bl s).drop a).take k).drop j).length) ≤ 2 ^ (8 * (k - j)) := Nat.pow_le_pow_right (by decide) (by rw [List.length_drop, List.length_take]; omega)
  omega
set_option maxHeartbeats 1000000 in
theorem refFixR_bad (g : Nat) (k : Int) (w : World) (h : k < 1 ∨ 8 < k) :
    Calls Try.prog 49 #[.pointer (some ⟨g, 0, none⟩), .int .i64 k] w fun e w' => e = .returned (.tuple #[.int .u64 0, .int .i64 1]) ∧ w' = w := by
  rcases h with h | h
  · go_enter Try.func49, Try.ntmps49
    go_wp2_with fail
    go_ret2
    exact ⟨rfl, rfl⟩
  · have h' : ¬ k < 1 := by omega
    go_enter Try.func49, Try.ntmps49
    go_wp2_with fail
    go_ret2
    exact ⟨rfl, rfl⟩
set_option maxRecDepth 100000 in
set_option maxHeartbeats 2000000 in
theorem refFixR_short (g : Nat) (s : ByteArray) (a k : Nat) (w : World) (h : Rd2 g s a w) (ha : a ≤ s.size) (hs : s.size ≤ 281474976710656) (hk1 : 1 ≤ k) (hk8 : k ≤ 8) (hc : ¬ a + k ≤ s.size) :
    Calls Try.prog 49 #[.pointer (some ⟨g, 0, none⟩), .int .i64 (k : Int)] w fun e w' => e = .returned (.tuple #[.int .u64 0, .int .i64 30]) ∧ ∃ n, w' = w.drewN n := by
  have c0 := h.c0
  have c1 := h.c1
  have g1 : ¬ (k : Int) < 1 := by omega
  have g8 : ¬ (8 : Int) < (k : Int) := by omega
  have s1 : (s.size : Int) ≤ 281474976710656 := by omega
  have a1 : (a : Int) ≤ (s.size : Int) := by omega
  have h1 : decide ((s.size : Int) - (a : Int) < (k : Int)) = true := decide_eq_true (by omega)
  have h2 : (s.size : Int) - (a : Int) < (k : Int) := by omega
  clear h ha hs hc hk1 hk8
  go_enter Try.func49, Try.ntmps49
  go_wp2_with fail
  go_quiet (fail)
  go_wp2_with fail
  go_ret2
  exact ⟨rfl, nq, rfl⟩
set_option maxRecDepth 100000 in
set_option maxHeartbeats 4000000 in
theorem refFixR_in (g : Nat) (s : ByteArray) (a k : Nat) (w : World) (h : Rd2 g s a w) (hs : s.size ≤ 281474976710656) (hk1 : 1 ≤ k) (hk8 : k ≤ 8) (hc : a + k ≤ s.size) :
    Calls Try.prog 49 #[.pointer (some ⟨g, 0, none⟩), .int .i64 (k : Int)] w fun e w' => e = .returned (.tuple #[.int .u64 (leAt s a k : Int), .int .i64 0]) ∧ Rd2 g s (a + k) w' ∧ Only g w w' := by
  have c0 := h.c0
  have c1 := h.c1
  have g1 : ¬ (k : Int) < 1 := by omega
  have g8 : ¬ (8 : Int) < (k : Int) := by omega
  have s1 : (s.size : Int) ≤ 281474976710656 := by omega
  have a1 : (a : Int) + (k : Int) ≤ (s.size : Int) := by omega
  have h1 : decide ((s.size : Int) - (a : Int) < (k : Int)) = false := decide_eq_false (by omega)
  have h2 : ¬ (s.size : Int) - (a : Int) < (k : Int) := by omega
  have HH := Hid.mk' h
  have HC := Hid.mk' hc
  have HK := Hid.mk' hk8
  clear h hs hc hk1 hk8
  go_enter Try.func49, Try.ntmps49
  go_wp2_with fail
  go_quiet (fail)
  go_wp2_with fail
  clear c0 c1
  go_loopw [6, 7] (fun n' i' wr => ∃ (j m : Nat), j ≤ k ∧ n' = .int .u64 (m : Int) ∧ i' = .int .i64 ((j : Int) - 1) ∧ m = leTo s a k j ∧ Rd2 g s a wr ∧ Only g w wr) (fun _ i' _ => (intOf i' + 1).toNat)
  case atStart => exact ⟨k, 0, Nat.le_refl _, rfl, rfl, (leTo_end s a k).symm, HH.out, (Only.refl _ _).drewN nq⟩
  case round =>
    obtain ⟨j, m, hj, rfl, rfl, hm, hr, ho⟩ := hrel
    have d0 := hr.c0
    have d1 := hr.c1
    have f1 : wr.frozen? ⟨g, 1, none⟩ = false := hr.fz
    have HR := Hid.mk' hr
    have HO := Hid.mk' ho
    have HM := Hid.mk' hm
    have HJ := Hid.mk' hj
    clear hj hm hr ho
    by_cases h0 : j = 0
    · subst h0
      have HM2 : Hid (m = leAt s a k) := by unfold Hid; rw [HM.out, leTo_zero]
      have hm1 : ((0 : Nat) : Int) - 1 = -1 := rfl
      rw [hm1]
      go_wp2_with fail
      go_ret2
      have hf := HR.out.set (a + k)
      exact ⟨ret_tup2 (val_int (by rw [HM2.out])) rfl, hf.1, HO.out.trans hf.2⟩
    · obtain ⟨i, rfl⟩ : ∃ i, j = i + 1 := ⟨j - 1, by omega⟩
      have hji : (((i + 1 : Nat) : Int) - 1) = (i : Int) := by omega
      rw [hji]
      obtain ⟨p, HP⟩ : ∃ p, Hid (p = a + i) := ⟨_, Hid.mk' rfl⟩
      obtain ⟨b, HB⟩ : ∃ b, Hid (b = (Sums.bl s).getD p 0) := ⟨_, Hid.mk' rfl⟩
      have hlt : p < s.size := by have := HP.out; have := HJ.out; have := HC.out; omega
      have hidx := idx_any s p b hlt HB.out
      have H256 : Hid (b < 256) := by rw [HB.out]; exact bl_lt _ _
      have hpi : (a : Int) + (i : Int) = (p : Int) := by have := HP.out; omega
      have hpw : IntKind.i64.wrap (p : Int) = (p : Int) := by rw [IntKind.wrap_i64]; omega
      have i1 : (0 : Int) ≤ (i : Int) := by omega
      have i8 : (i : Int) < 8 := by have := HJ.out; have := HK.out; omega
      have b1 : (b : Int) < 256 := by have := H256.out; omega
      have hml : m < 72057594037927936 := by
        have h3 := leTo_lt s a k (i + 1)
        rw [← HM.out] at h3
        have h4 : 2 ^ (8 * (k - (i + 1))) ≤ 2 ^ 56 := Nat.pow_le_pow_right (by decide) (by have := HK.out; omega)
        omega
      have m1 : (m : Int) < 72057594037927936 := by omega
      obtain ⟨r, HRr⟩ : ∃ r, Hid (r = 256 * m + b) := ⟨_, Hid.mk' rfl⟩
      have e1 : 256 * (m : Int) + (b : Int) = (r : Int) := by have := HRr.out; omega
      have e2 : IntKind.u64.wrap (256 * (m : Int)) = 256 * (m : Int) := by rw [IntKind.wrap_u64]; omega
      have r1 : (r : Int) < 18446744073709551616 := by omega
      have e3 : IntKind.u64.wrap (r : Int) = (r : Int) := by rw [IntKind.wrap_u64]; omega
      have FIN : Hid (i ≤ k ∧ r = leTo s a k i) := by
        have h3 := HJ.out
        refine ⟨by omega, ?_⟩
        rw [leTo_step s a k i (by omega) HC.out, ← HP.out, ← HB.out, ← HM.out, HRr.out]
        omega
      clear h0 hji hlt hml
      go_wp2_with fail
      go_quiet (fail)
      go_wp2_with fail
      go_roundw
      case rel => exact ⟨i, r, FIN.out.1, rfl, rfl, FIN.out.2, HR.out, HO.out.drewN _⟩
      case measure => simp [intOf]
theorem refFixR_any (g : Nat) (s : ByteArray) (a : Nat) (k : Int) (w : World) (h : Rd2 g s a w) (ha : a ≤ s.size) (hs : s.size ≤ 281474976710656) :
    Calls Try.prog 49 #[.pointer (some ⟨g, 0, none⟩), .int .i64 k] w fun e w' => e = .returned (.tuple #[.int .u64 ((rfixR s a k).1 : Int), .int .i64 ((rfixR s a k).2.1 : Int)]) ∧ Rd2 g s (a + (rfixR s a k).2.2) w' ∧ Only g w w' := by
  unfold rfixR
  by_cases hk : k < 1 ∨ 8 < k
  · rw [if_pos hk]
    refine (refFixR_bad g k w hk).mono ?_
    rintro e w' ⟨rfl, rfl⟩
    exact ⟨rfl, h, Only.refl _ _⟩
  · rw [if_neg hk]
    obtain ⟨k, rfl⟩ := Int.eq_ofNat_of_zero_le (show 0 ≤ k by omega)
    rw [Int.toNat_natCast]
    by_cases hc : a + k ≤ s.size
    · rw [if_pos hc]
      exact refFixR_in g s a k w h hs (by omega) (by omega) hc
    · rw [if_neg hc]
      refine (refFixR_short g s a k w h ha hs (by omega) (by omega) hc).mono ?_
      rintro e w' ⟨rfl, n, rfl⟩
      exact ⟨rfl, h, (Only.refl _ _).drewN n⟩
theorem mod_nat (x : Int) (n : Nat) (h : 0 ≤ x) : x % (n : Int) = ((x.toNat % n : Nat) : Int) := by
  obtain ⟨k, rfl⟩ := Int.eq_ofNat_of_zero_le h
  simp
def pickN (c : Int) (n : Nat) : Nat := (if c < 0 then -(c + 1) else c).toNat % n
set_option maxHeartbeats 1000000 in
theorem pick_any (c : Int) (n : Nat) (w : World) (h0 : -9223372036854775808 ≤ c) (h1 : c ≤ 9223372036854775807) (hn : 1 ≤ n) (hn8 : n ≤ 8) :
    Calls Try.prog 24 #[.int .i64 c, .int .i64 (n : Int)] w fun e w' => e = .returned (.int .i64 (pickN c n : Int)) ∧ w' = w := by
  have n1 : (1 : Int) ≤ (n : Int) := by omega
  have n8 : (n : Int) ≤ 8 := by omega
  by_cases hc : c < 0
  · have HP : Hid (pickN c n = (-(c + 1)).toNat % n) := by unfold Hid pickN; rw [if_pos hc]
    clear hn hn8
    go_enter Try.func24, Try.ntmps24
    go_wp2_with fail
    go_ret
    refine ⟨ret_int ?_, rfl⟩
    rw [HP.out]
    rw [← Int.neg_tmod, Int.tmod_eq_emod_of_nonneg (by omega)]
    exact mod_nat (-(c + 1)) n (by omega)
  · have HP : Hid (pickN c n = c.toNat % n) := by unfold Hid pickN; rw [if_neg hc]
    have hc' : 0 ≤ c := by omega
    clear hn hn8
    go_enter Try.func24, Try.ntmps24
    go_wp2_with fail
    go_ret
    refine ⟨ret_int ?_, rfl⟩
    rw [HP.out]
    exact mod_nat c n (by omega)
end Go.Proofs.Ythmaaeibdcoemaa
