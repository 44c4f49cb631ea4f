/-
  What the document's Reader's calls do. Conditions: as each says.
-/
import Derived.Test.YthmaaeibdcoemaaKnown
import Derived.Test.YthmaaeibdcoemaaRFix
namespace Go.Proofs.Ythmaaeibdcoemaa
open Go.RowKit
set_option linter.unusedVariables false
/-- block g holds the document's Reader of s at the place a -/
def Rd2 (g : Nat) (s : ByteArray) (a : Nat) (w : World) : Prop := w.heap[g]? = some (.cells (rdrC s a).toArray 85 (0, 0))
theorem Rd2.put {g : Nat} {s : ByteArray} {a : Nat} {w : World} (h : Rd2 g s a w) : Put g 85 (rdrC s a) w w := Put.refl h
theorem Rd2.c0 {g : Nat} {s : ByteArray} {a : Nat} {w : World} (h : Rd2 g s a w) : w.cell? ⟨g, 0, none⟩ = some (.string s) := h.put.cell _ rfl
theorem Rd2.c1 {g : Nat} {s : ByteArray} {a : Nat} {w : World} (h : Rd2 g s a w) : w.cell? ⟨g, 1, none⟩ = some (.int .i64 (a : Int)) := h.put.cell _ rfl
theorem Rd2.fz {g o : Nat} {s : ByteArray} {a : Nat} {w : World} (h : Rd2 g s a w) : w.frozen? ⟨g, o, none⟩ = false := h.put.frozen
theorem Rd2.lt {g : Nat} {s : ByteArray} {a : Nat} {w : World} (h : Rd2 g s a w) : g < w.heap.size := h.put.lt
theorem Rd2.below {g B : Nat} {s : ByteArray} {a : Nat} {w w' : World} (h : Rd2 g s a w) (hb : Below B w w') (hg : g < B) : Rd2 g s a w' := (hb.block g hg).trans h
theorem Rd2.other {g k : Nat} {s : ByteArray} {a : Nat} {w w' : World} (h : Rd2 g s a w) (ho : Only k w w') (hg : g ≠ k) : Rd2 g s a w' := (ho.block g h.lt hg).trans h
theorem Rd2.set {g : Nat} {s : ByteArray} {a : Nat} {w : World} (h : Rd2 g s a w) (b : Nat) : Rd2 g s b (w.setCell ⟨g, 1, none⟩ (.int .i64 (b : Int))) ∧ Only g w (w.setCell ⟨g, 1, none⟩ (.int .i64 (b : Int))) := by
  have := h.put.setCell (o := 1) (.int .i64 (b : Int))
  exact ⟨this.row, this.only⟩
theorem refRead_any (s : ByteArray) (w : World) :
    Calls Try.prog 23 #[.string s] w fun e w' => ∃ g, w.heap.size ≤ g ∧ e = .returned (.pointer (some ⟨g, 0, none⟩)) ∧ Rd2 g s 0 w' ∧ Below w.heap.size w w' := by
  go_enter Try.func23, Try.ntmps23
  go_wp2_with fail
  go_ret
  refine ⟨w.heap.size, Nat.le_refl _, rfl, ?_, (Below.refl _ _).alloc (Nat.le_refl _) _⟩
  exact heap_alloc_new w _
theorem refAt_any (g : Nat) (s : ByteArray) (a : Nat) (w : World) (h : Rd2 g s a w) :
    Calls Try.prog 27 #[.pointer (some ⟨g, 0, none⟩)] w fun e w' => e = .returned (.int .i64 (a : Int)) ∧ w' = w := by
  have c1 := h.c1
  have HH := Hid.mk' h
  clear h
  go_enter Try.func27, Try.ntmps27
  go_wp2_with fail
  go_ret
  exact ⟨rfl, rfl⟩
theorem refLeft_any (g : Nat) (s : ByteArray) (a : Nat) (w : World) (h : Rd2 g s a w) (ha : a ≤ s.size) (hs : s.size ≤ 1125899906842624) :
    Calls Try.prog 51 #[.pointer (some ⟨g, 0, none⟩)] w fun e w' => e = .returned (.int .i64 ((s.size - a : Nat) : Int)) ∧ ∃ n, w' = w.drewN n := by
  have c0 := h.c0
  have c1 := h.c1
  have HH := Hid.mk' h
  have HE : Hid ((s.size : Int) - (a : Int) = ((s.size - a : Nat) : Int)) := by unfold Hid; omega
  clear h
  go_enter Try.func51, Try.ntmps51
  go_wp2_with fail
  go_quiet (fail)
  go_wp2_with fail
  go_ret
  exact ⟨ret_int HE.out, _, rfl⟩
theorem refEnd_any (g : Nat) (s : ByteArray) (a : Nat) (w : World) (h : Rd2 g s a w) (ha : a ≤ s.size) (hs : s.size ≤ 1125899906842624) :
    Calls Try.prog 52 #[.pointer (some ⟨g, 0, none⟩)] w fun e w' => e = .returned (.int .i64 (if a < s.size then 34 else 0)) ∧ ∃ n, w' = w.drewN n := by
  have c0 := h.c0
  have c1 := h.c1
  have HH := Hid.mk' h
  clear h
  by_cases hlt : a < s.size
  · have hx : (a : Int) < (s.size : Int) := by omega
    have HI : Hid ((if a < s.size then (34 : Int) else 0) = 34) := if_pos hlt
    go_enter Try.func52, Try.ntmps52
    go_wp2_with fail
    go_quiet (fail)
    go_wp2_with fail
    go_ret
    refine ⟨?_, _, rfl⟩
    first | rfl | exact ret_int HI.out.symm
  · have hx : ¬ (a : Int) < (s.size : Int) := by omega
    have HI : Hid ((if a < s.size then (34 : Int) else 0) = 0) := if_neg hlt
    go_enter Try.func52, Try.ntmps52
    go_wp2_with fail
    go_quiet (fail)
    go_wp2_with fail
    go_ret
    refine ⟨?_, _, rfl⟩
    first | rfl | exact ret_int HI.out.symm
theorem idx_any (s : ByteArray) (i c : Nat) (hi : i < s.size) (hc : c = (Sums.bl s).getD i 0) (W : World) : (Instr.index 9 (.string s) (.int .i64 (i : Int))).run Try.prog W = .ok (.int .u8 (c : Int)) W := by
  have hg := Sums.bl_get s i hi
  rw [run_index_string W 9 _ .i64 (i : Int) Try.underlying9, dif_pos ⟨by omega, by omega⟩]
  simp only [Int.toNat_natCast]
  rw [hc, hg]
set_option maxRecDepth 100000 in
set_option maxHeartbeats 4000000 in
theorem refUintR_any (g : Nat) (s : ByteArray) (a : Nat) (w : World) (h : Rd2 g s a w) (ha : a ≤ s.size) (hs : s.size ≤ 1125899906842624) :
    Calls Try.prog 45 #[.pointer (some ⟨g, 0, none⟩)] w fun e w' => e = .returned (.tuple #[.int .u64 ((rdAt s a).1 : Int), .int .i64 ((rdAt s a).2.1 : Int)]) ∧ Rd2 g s (a + (rdAt s a).2.2) w' ∧ Only g w w' := by
  have HS := Hid.mk' hs
  have HA := Hid.mk' ha
  have HH := Hid.mk' h
  have c0 := h.c0
  have c1 := h.c1
  have f1 : w.frozen? ⟨g, 1, none⟩ = false := h.fz
  have s1 : (s.size : Int) ≤ 1125899906842624 := by omega
  have a1 : (a : Int) ≤ (s.size : Int) := by omega
  clear hs ha h
  obtain ⟨R, HRD⟩ : ∃ R, Hid (R = rdAt s a) := ⟨_, Hid.mk' rfl⟩
  rw [← HRD.out]
  go_enter Try.func45, Try.ntmps45
  go_wp2_with fail
  go_loop [4, 5, 6] (fun n' t' i' => ∃ (i m : Nat), i ≤ 9 ∧ n' = .int .u64 (m : Int) ∧ t' = .int .i64 ((a + i : Nat) : Int) ∧ i' = .int .i64 (i : Int) ∧ m < 2 ^ (7 * i) ∧ a + i ≤ s.size ∧ Code.rdF (10 - i) i m ((Sums.bl s).drop (a + i)) = R) (fun _ _ i' => 10 - (intOf i').toNat)
  case atStart => exact ⟨0, 0, by omega, rfl, by simp, rfl, by simp, HA.out, HRD.out.symm⟩
  case round =>
    obtain ⟨i, m, hi, rfl, rfl, rfl, hm, hai, hrd⟩ := hrel
    have HI := Hid.mk' hi
    have HM := Hid.mk' hm
    have HAI := Hid.mk' hai
    have HRF := Hid.mk' hrd
    obtain ⟨p, HP⟩ : ∃ p, Hid (p = a + i) := ⟨_, Hid.mk' rfl⟩
    rw [← HP.out] at HAI HRF ⊢
    have p1 : (p : Int) ≤ (s.size : Int) := by have := HAI.out; omega
    have i9 : (i : Int) ≤ 9 := by omega
    have i10 : (i : Int) < 10 := by omega
    clear hi hm hai hrd
    by_cases hlt : p < s.size
    · obtain ⟨b, HB⟩ : ∃ b, Hid (b = (Sums.bl s).getD p 0) := ⟨_, Hid.mk' rfl⟩
      have H256 : Hid (b < 256) := by rw [HB.out]; exact bl_lt _ _
      have HQ : Hid ((if i = 9 ∧ 1 < b then (0, 32, 0) else if 0 < i ∧ b = 0 then (0, 31, 0) else if b < 128 then (m + b % 128 * 2 ^ (7 * i), 0, i + 1) else Code.rdF (9 - i) (i + 1) (m + b % 128 * 2 ^ (7 * i)) ((Sums.bl s).drop (p + 1))) = R) := by
        unfold Hid
        rw [← HRF.out, drop_cons s _ hlt, ← HB.out, show 10 - i = (9 - i) + 1 by have := HI.out; omega, Code.rdF_cons]
      have hidx := idx_any s p b hlt HB.out
      have hge : ¬ (s.size : Int) ≤ (p : Int) := by omega
      have HL := Hid.mk' hlt
      have b0 : (0 : Int) ≤ (b : Int) := by omega
      have b1 : (b : Int) < 256 := by have := H256.out; omega
      have i0 : (0 : Int) ≤ (i : Int) := by omega
      clear hlt HB HRF
      by_cases h1 : i = 9 ∧ 1 < b
      · obtain ⟨rfl, h1⟩ := h1
        have h1' : decide ((1 : Int) < (b : Int)) = true := decide_eq_true (by omega)
        have h1'' : (1 : Int) < (b : Int) := by omega
        have HQ' : Hid (R = (0, 32, 0)) := by unfold Hid; rw [← HQ.out, if_pos ⟨rfl, h1⟩]
        clear h1
        go_wp2_with fail
        go_ret2
        rw [HQ'.out]
        exact ⟨rfl, HH.out, Only.refl _ _⟩
      · by_cases h2 : 0 < i ∧ b = 0
        · obtain ⟨h2, rfl⟩ := h2
          have HQ' : Hid (R = (0, 31, 0)) := by unfold Hid; rw [← HQ.out, if_neg h1, if_pos ⟨h2, rfl⟩]
          have h3 : decide ((0 : Int) < (i : Int)) = true := decide_eq_true (by omega)
          have h3' : (0 : Int) < (i : Int) := by omega
          clear h1
          by_cases h9 : i = 9
          · subst h9
            go_wp2_with fail
            go_ret2
            rw [HQ'.out]
            exact ⟨rfl, HH.out, Only.refl _ _⟩
          · have h9' : ((i : Int) == 9) = false := by simp; omega
            clear h9
            go_wp2_with fail
            go_ret2
            rw [HQ'.out]
            exact ⟨rfl, HH.out, Only.refl _ _⟩
        · obtain ⟨c, HC⟩ : ∃ c, Hid (c = b % 128) := ⟨_, Hid.mk' rfl⟩
          have c2 : (0 : Int) ≤ (c : Int) := by omega
          have c3 : (c : Int) < 128 := by have := HC.out; omega
          have hand : (b : Int) % 128 = (c : Int) := by rw [HC.out]; omega
          obtain ⟨r, HRr⟩ : ∃ r, Hid (r = m + c * 2 ^ (7 * i)) := ⟨_, Hid.mk' rfl⟩
          have hc9 : i = 9 → c ≤ 1 := by have := HC.out; have := H256.out; omega
          have HRL := Hid.mk' (grp_lt m c i HM.out (by have := HC.out; omega))
          have hor : (m : Int) + (c : Int) * 2 ^ (7 * i) = (r : Int) := by rw [HRr.out]; simp
          have r64 : (r : Int) < 18446744073709551616 := by rw [HRr.out]; exact grp_64 m c i HI.out HM.out (by have := HC.out; omega) hc9
          by_cases hb : b < 128
          · have HQ' : Hid (R = (r, 0, i + 1)) := by unfold Hid; rw [← HQ.out, if_neg h1, if_neg h2, if_pos hb, HRr.out, HC.out]
            have b2 : (b : Int) < 128 := by omega
            have hz : 0 < i → ((b : Int) == 0) = false := fun h => by simp; omega
            have hz9 : i = 9 → (b : Int) ≤ 1 := fun h => by omega
            have HI2 := HI.out
            have HF := Hid.mk' (HH.out.set (a + (i + 1)))
            have hpi : (p : Int) + 1 = ((a + (i + 1) : Nat) : Int) := by have := HP.out; omega
            have HPI := Hid.mk' hpi
            clear hb h1 h2 hc9 hpi
            by_cases h9 : i = 9
            · subst h9
              have hz2 := hz (by omega)
              have hb1 := hz9 rfl
              obtain rfl : b = 1 := by simp at hz2; omega
              obtain rfl : c = 1 := HC.out
              clear hz hz9 HI2 hz2 hb1 b0 b1 b2 c2 c3 i0 i9 i10 hand
              simp only [Nat.reduceMul, Int.reducePow, Int.one_mul, Int.cast_ofNat_Int] at hor
              go_wp2_with fail
              go_ret2
              rw [HQ'.out]
              refine ⟨rfl, ?_, ?_⟩
              · rw [HPI.out]
                exact HF.out.1
              · rw [HPI.out]
                exact HF.out.2
            by_cases h0 : i = 0
            · subst h0
              obtain rfl : m = 0 := by have := HM.out; simp at this; exact this
              simp only [Nat.mul_zero, Int.pow_zero, Int.mul_one, Int.cast_ofNat_Int, Int.zero_add] at hor
              clear hz hz9 HI2
              go_wp2_with fail
              go_ret2
              rw [HQ'.out]
              refine ⟨rfl, ?_, ?_⟩
              · rw [HPI.out]
                exact HF.out.1
              · rw [HPI.out]
                exact HF.out.2
            have hz2 := hz (by omega)
            clear hz hz9
            rcases (show i = 1 ∨ i = 2 ∨ i = 3 ∨ i = 4 ∨ i = 5 ∨ i = 6 ∨ i = 7 ∨ i = 8 by omega) with rfl | rfl | rfl | rfl | rfl | rfl | rfl | rfl
            all_goals
              clear HI2 h9 h0
              simp only [Nat.reduceMul, Int.reducePow] at hor
              go_wp2_with fail
              go_ret2
              rw [HQ'.out]
              refine ⟨rfl, ?_, ?_⟩
              · rw [HPI.out]
                exact HF.out.1
              · rw [HPI.out]
                exact HF.out.2
          · have HQ' : Hid (Code.rdF (9 - i) (i + 1) r ((Sums.bl s).drop (p + 1)) = R) := by unfold Hid; rw [← HQ.out, if_neg h1, if_neg h2, if_neg hb, HRr.out, HC.out]
            have b2 : decide ((b : Int) < 128) = false := decide_eq_false (by omega)
            have b3 : ¬ (b : Int) < 128 := by omega
            have hz2 : ((b : Int) == 0) = false := by simp; omega
            have hi8 : i ≤ 8 := by have := HI.out; omega
            have FIN : Hid (i + 1 ≤ 9 ∧ (p : Int) + 1 = ((a + (i + 1) : Nat) : Int) ∧ r < 2 ^ (7 * (i + 1)) ∧ a + (i + 1) ≤ s.size ∧ Code.rdF (10 - (i + 1)) (i + 1) r ((Sums.bl s).drop (a + (i + 1))) = R) := by
              have hp := HP.out
              have hl := HL.out
              refine ⟨by omega, by omega, by rw [HRr.out]; exact HRL.out, by omega, ?_⟩
              rw [show 10 - (i + 1) = 9 - i by omega, show a + (i + 1) = p + 1 by omega]
              exact HQ'.out
            clear hb h1 h2 hc9
            by_cases h0 : i = 0
            · subst h0
              obtain rfl : m = 0 := by have := HM.out; simp at this; exact this
              simp only [Nat.mul_zero, Int.pow_zero, Int.mul_one, Int.cast_ofNat_Int, Int.zero_add] at hor
              clear hi8
              go_wp2_with fail
              go_round
              case rel => exact ⟨_, r, FIN.out.1, rfl, by rw [FIN.out.2.1], rfl, FIN.out.2.2.1, FIN.out.2.2.2.1, FIN.out.2.2.2.2⟩
              case measure => simp [intOf]
            rcases (show i = 1 ∨ i = 2 ∨ i = 3 ∨ i = 4 ∨ i = 5 ∨ i = 6 ∨ i = 7 ∨ i = 8 by omega) with rfl | rfl | rfl | rfl | rfl | rfl | rfl | rfl
            all_goals
              clear hi8 h0
              simp only [Nat.reduceMul, Int.reducePow] at hor
              go_wp2_with fail
              go_round
              case rel => exact ⟨_, r, FIN.out.1, rfl, by rw [FIN.out.2.1], rfl, FIN.out.2.2.1, FIN.out.2.2.2.1, FIN.out.2.2.2.2⟩
              case measure => simp [intOf]
    · have hge : (s.size : Int) ≤ (p : Int) := by omega
      have HQ : Hid (R = (0, 30, 0)) := by
        unfold Hid
        rw [← HRF.out, drop_end s _ (by omega), show 10 - i = (9 - i) + 1 by have := HI.out; omega]
        rfl
      clear hlt
      go_wp2_with fail
      go_ret2
      rw [HQ.out]
      exact ⟨rfl, HH.out, Only.refl _ _⟩
end Go.Proofs.Ythmaaeibdcoemaa
