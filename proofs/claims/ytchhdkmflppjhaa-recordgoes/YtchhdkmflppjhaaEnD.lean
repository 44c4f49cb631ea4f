/-
  The document's own Reader of chapter 17: a number, a stamp. Conditions: as each says.
-/
import Derived.Test.YtchhdkmflppjhaaEnB
import Derived.Test.YtchhdkmflppjhaaRcM
import Derived.BigQuiet
namespace Go.Proofs.Ytchhdkmflppjhaa
open Go.RowKit
set_option linter.unusedVariables false
set_option linter.unusedSimpArgs false
/-- block g holds the document's Reader of s at the place a -/
def Rd7 (g : Nat) (s : ByteArray) (a : Nat) (w : World) : Prop := w.heap[g]? = some (.cells (rdrC s a).toArray 66 (0, 0))
theorem Rd7.put {g : Nat} {s : ByteArray} {a : Nat} {w : World} (h : Rd7 g s a w) : Put g 66 (rdrC s a) w w := Put.refl h
theorem Rd7.c0 {g : Nat} {s : ByteArray} {a : Nat} {w : World} (h : Rd7 g s a w) : w.cell? ⟨g, 0, none⟩ = some (.string s) := h.put.cell _ rfl
theorem Rd7.c1 {g : Nat} {s : ByteArray} {a : Nat} {w : World} (h : Rd7 g s a w) : w.cell? ⟨g, 1, none⟩ = some (.int .i64 (a : Int)) := h.put.cell _ rfl
theorem Rd7.fz {g o : Nat} {s : ByteArray} {a : Nat} {w : World} (h : Rd7 g s a w) : w.frozen? ⟨g, o, none⟩ = false := h.put.frozen
theorem Rd7.lt {g : Nat} {s : ByteArray} {a : Nat} {w : World} (h : Rd7 g s a w) : g < w.heap.size := h.put.lt
theorem Rd7.below {g B : Nat} {s : ByteArray} {a : Nat} {w w' : World} (h : Rd7 g s a w) (hb : Below B w w') (hg : g < B) : Rd7 g s a w' := (hb.block g hg).trans h
theorem Rd7.set {g : Nat} {s : ByteArray} {a : Nat} {w : World} (h : Rd7 g s a w) (b : Nat) : Rd7 g s b (w.setCell ⟨g, 1, none⟩ (.int .i64 (b : Int))) ∧ Only g w (w.setCell ⟨g, 1, none⟩ (.int .i64 (b : Int))) := by
  have := h.put.setCell (o := 1) (.int .i64 (b : Int))
  exact ⟨this.row, this.only⟩
theorem ix7 (s : ByteArray) (i c : Nat) (hi : i < s.size) (hc : c = (Sums.bl s).getD i 0) (W : World) : (Instr.index 9 (.string s) (.int .i64 (i : Int))).run Try.prog W = .ok (.int .u8 (c : Int)) W := by
  have hg := Sums.bl_get s i hi
  rw [run_index_string W 9 _ .i64 (i : Int) Try.underlying9, dif_pos ⟨by omega, by omega⟩]
  simp only [Int.toNat_natCast]
  rw [hc, hg]
set_option maxRecDepth 100000 in
set_option maxHeartbeats 4000000 in
theorem dUint_any (g : Nat) (s : ByteArray) (a : Nat) (w : World) (h : Rd7 g s a w) (ha : a ≤ s.size) (hs : s.size ≤ 1125899906842624) :
    Calls Try.prog 28 #[.pointer (some ⟨g, 0, none⟩)] w fun e w' => e = .returned (.tuple #[.int .u64 ((rdAt s a).1 : Int), .int .i64 ((rdAt s a).2.1 : Int)]) ∧ Rd7 g s (a + (rdAt s a).2.2) w' ∧ Only g w w' := by
  have HS := Hid.mk' hs
  have HA := Hid.mk' ha
  have HH := Hid.mk' h
  have c0 := h.c0
  have c1 := h.c1
  have f1 : w.frozen? ⟨g, 1, none⟩ = false := h.fz
  have s1 : (s.size : Int) ≤ 1125899906842624 := by omega
  have a1 : (a : Int) ≤ (s.size : Int) := by omega
  clear hs ha h
  obtain ⟨R, HRD⟩ : ∃ R, Hid (R = rdAt s a) := ⟨_, Hid.mk' rfl⟩
  rw [← HRD.out]
  go_enter Try.func28, Try.ntmps28
  go_wp2_with fail
  go_loopw [4, 5] (fun n' i' wr => ∃ (i m kk : Nat), i ≤ 9 ∧ n' = .int .u64 (m : Int) ∧ i' = .int .i64 (i : Int) ∧ Hid (m < 2 ^ (7 * i) ∧ Code.rdF (10 - i) i m ((Sums.bl s).drop (a + i)) = R) ∧ a + i ≤ s.size ∧ wr = w.drewN kk) (fun _ i' _ => 10 - (intOf i').toNat)
  case atStart => exact ⟨0, 0, 0, by omega, rfl, rfl, ⟨by simp, HRD.out.symm⟩, HA.out, rfl⟩
  case round =>
    obtain ⟨i, m, kk, hi, rfl, rfl, HX, hai, rfl⟩ := hrel
    have HI := Hid.mk' hi
    have HAI := Hid.mk' hai
    obtain ⟨p, HP⟩ : ∃ p, Hid (p = a + i) := ⟨_, Hid.mk' rfl⟩
    have p1 : (p : Int) ≤ (s.size : Int) := by have := HP.out; omega
    have hpe : (a : Int) + (i : Int) = (p : Int) := by have := HP.out; omega
    have hpw : IntKind.i64.wrap ((a : Int) + (i : Int)) = (p : Int) := by rw [IntKind.wrap_i64]; omega
    have i9 : (i : Int) ≤ 9 := by omega
    have i10 : (i : Int) < 10 := by omega
    clear hi hai
    by_cases hlt : p < s.size
    · obtain ⟨b, HB⟩ : ∃ b, Hid (b = (Sums.bl s).getD p 0) := ⟨_, Hid.mk' rfl⟩
      have H256 : Hid (b < 256) := by rw [HB.out]; exact bl_lt _ _
      have HQ : Hid ((if i = 9 ∧ 1 < b then (0, 32, 0) else if 0 < i ∧ b = 0 then (0, 31, 0) else if b < 128 then (m + b % 128 * 2 ^ (7 * i), 0, i + 1) else Code.rdF (9 - i) (i + 1) (m + b % 128 * 2 ^ (7 * i)) ((Sums.bl s).drop (p + 1))) = R) := by
        unfold Hid
        rw [← HX.out.2, ← HP.out, drop_cons s _ hlt, ← HB.out, show 10 - i = (9 - i) + 1 by have := HI.out; omega, Code.rdF_cons]
      have hidx := ix7 s p b hlt HB.out
      have hge : ¬ (s.size : Int) ≤ (p : Int) := by omega
      have hgd : decide ((s.size : Int) ≤ (p : Int)) = false := decide_eq_false hge
      have HL := Hid.mk' hlt
      have b0 : (0 : Int) ≤ (b : Int) := by omega
      have b1 : (b : Int) < 256 := by have := H256.out; omega
      have i0 : (0 : Int) ≤ (i : Int) := by omega
      clear hlt HB
      go_wp2_with fail
      go_quiet (fail)
      go_wp2_with fail
      go_quiet (fail)
      by_cases h1 : i = 9 ∧ 1 < b
      · obtain ⟨rfl, h1⟩ := h1
        have h1' : decide ((1 : Int) < (b : Int)) = true := decide_eq_true (by omega)
        have h1'' : (1 : Int) < (b : Int) := by omega
        have HQ' : Hid (R = (0, 32, 0)) := by unfold Hid; rw [← HQ.out, if_pos ⟨rfl, h1⟩]
        clear h1
        go_wp2_with fail
        go_ret2
        rw [HQ'.out]
        exact ⟨rfl, HH.out, ⟨rfl, rfl, rfl, Nat.le_refl _, fun _ _ _ => rfl⟩⟩
      · by_cases h2 : 0 < i ∧ b = 0
        · obtain ⟨h2, rfl⟩ := h2
          have HQ' : Hid (R = (0, 31, 0)) := by unfold Hid; rw [← HQ.out, if_neg h1, if_pos ⟨h2, rfl⟩]
          have h3 : decide ((0 : Int) < (i : Int)) = true := decide_eq_true (by omega)
          have h3' : (0 : Int) < (i : Int) := by omega
          clear h1
          by_cases h9 : i = 9
          · subst h9
            go_wp2_with fail
            go_ret2
            rw [HQ'.out]
            exact ⟨rfl, HH.out, ⟨rfl, rfl, rfl, Nat.le_refl _, fun _ _ _ => rfl⟩⟩
          · have h9' : ((i : Int) == 9) = false := by simp; omega
            clear h9
            go_wp2_with fail
            go_ret2
            rw [HQ'.out]
            exact ⟨rfl, HH.out, ⟨rfl, rfl, rfl, Nat.le_refl _, fun _ _ _ => rfl⟩⟩
        · obtain ⟨c, HC⟩ : ∃ c, Hid (c = b % 128) := ⟨_, Hid.mk' rfl⟩
          have c2 : (0 : Int) ≤ (c : Int) := by omega
          have c3 : (c : Int) < 128 := by have := HC.out; omega
          have hand : (b : Int) % 128 = (c : Int) := by rw [HC.out]; omega
          obtain ⟨r, HRr⟩ : ∃ r, Hid (r = m + c * 2 ^ (7 * i)) := ⟨_, Hid.mk' rfl⟩
          have hc9 : i = 9 → c ≤ 1 := by have := HC.out; have := H256.out; omega
          have HRL := Hid.mk' (grp_lt m c i HX.out.1 (by have := HC.out; omega))
          have hor : (m : Int) + (c : Int) * 2 ^ (7 * i) = (r : Int) := by rw [HRr.out]; simp
          have r64 : (r : Int) < 18446744073709551616 := by rw [HRr.out]; exact grp_64 m c i HI.out HX.out.1 (by have := HC.out; omega) hc9
          have m0 : (0 : Int) ≤ (m : Int) := by omega
          by_cases hb : b < 128
          · have HQ' : Hid (R = (r, 0, i + 1)) := by unfold Hid; rw [← HQ.out, if_neg h1, if_neg h2, if_pos hb, HRr.out, HC.out]
            have b2 : (b : Int) < 128 := by omega
            have hz : 0 < i → ((b : Int) == 0) = false := fun h => by simp; omega
            have hz9 : i = 9 → (b : Int) ≤ 1 := fun h => by omega
            have HI2 := HI.out
            have HF := Hid.mk' (HH.out.set (a + (i + 1)))
            have hpi : (p : Int) + 1 = ((a + (i + 1) : Nat) : Int) := by have := HP.out; omega
            have HPI := Hid.mk' hpi
            clear hb h1 h2 hc9 hpi
            by_cases h9 : i = 9
            · subst h9
              have hz2 := hz (by omega)
              have hb1 := hz9 rfl
              obtain rfl : b = 1 := by simp at hz2; omega
              obtain rfl : c = 1 := HC.out
              clear hz hz9 HI2 hz2 hb1 b0 b1 b2 c2 c3 i0 i9 i10 hand
              simp only [Nat.reduceMul, Int.reducePow, Int.one_mul, Int.cast_ofNat_Int] at hor
              have hpe : (a : Int) + 9 = (p : Int) := hpe
              go_wp2_with fail
              go_ret2
              rw [HQ'.out]
              have hfo := HF.out
              rw [← HPI.out] at hfo
              exact ⟨rfl, hfo.1, ⟨hfo.2.os, hfo.2.tape, hfo.2.output, hfo.2.size, hfo.2.block⟩⟩
            by_cases h0 : i = 0
            · subst h0
              obtain rfl : m = 0 := by have := HX.out.1; simp at this; exact this
              simp only [Nat.mul_zero, Int.pow_zero, Int.mul_one, Int.cast_ofNat_Int, Int.zero_add] at hor
              have hpe : (a : Int) = (p : Int) := by omega
              clear hz hz9 HI2
              go_wp2_with fail
              go_ret2
              rw [HQ'.out]
              have hfo := HF.out
              rw [← HPI.out] at hfo
              exact ⟨rfl, hfo.1, ⟨hfo.2.os, hfo.2.tape, hfo.2.output, hfo.2.size, hfo.2.block⟩⟩
            have hz2 := hz (by omega)
            clear hz hz9
            rcases (show i = 1 ∨ i = 2 ∨ i = 3 ∨ i = 4 ∨ i = 5 ∨ i = 6 ∨ i = 7 ∨ i = 8 by omega) with rfl | rfl | rfl | rfl | rfl | rfl | rfl | rfl
            all_goals
              clear HI2 h9 h0
              simp only [Nat.reduceMul, Int.reducePow] at hor
              simp only [Int.cast_ofNat_Int] at hpe
              go_wp2_with fail
              go_ret2
              rw [HQ'.out]
              have hfo := HF.out
              rw [← HPI.out] at hfo
              exact ⟨rfl, hfo.1, ⟨hfo.2.os, hfo.2.tape, hfo.2.output, hfo.2.size, hfo.2.block⟩⟩
          · have HQ' : Hid (Code.rdF (9 - i) (i + 1) r ((Sums.bl s).drop (p + 1)) = R) := by unfold Hid; rw [← HQ.out, if_neg h1, if_neg h2, if_neg hb, HRr.out, HC.out]
            have b2 : decide ((b : Int) < 128) = false := decide_eq_false (by omega)
            have b3 : ¬ (b : Int) < 128 := by omega
            have hz2 : ((b : Int) == 0) = false := by simp; omega
            have hi8 : i ≤ 8 := by have := HI.out; omega
            have FIN : Hid (i + 1 ≤ 9 ∧ r < 2 ^ (7 * (i + 1)) ∧ a + (i + 1) ≤ s.size ∧ Code.rdF (10 - (i + 1)) (i + 1) r ((Sums.bl s).drop (a + (i + 1))) = R) := by
              have hp := HP.out
              have hl := HL.out
              refine ⟨by omega, by rw [HRr.out]; exact HRL.out, by omega, ?_⟩
              rw [show 10 - (i + 1) = 9 - i by omega, show a + (i + 1) = p + 1 by omega]
              exact HQ'.out
            clear hb h1 h2 hc9
            by_cases h0 : i = 0
            · subst h0
              obtain rfl : m = 0 := by have := HX.out.1; simp at this; exact this
              simp only [Nat.mul_zero, Int.pow_zero, Int.mul_one, Int.cast_ofNat_Int, Int.zero_add] at hor
              clear hi8
              go_wp2_with fail
              go_roundw
              case rel => exact ⟨_, r, _, FIN.out.1, rfl, rfl, ⟨FIN.out.2.1, FIN.out.2.2.2⟩, FIN.out.2.2.1, rfl⟩
              case measure => simp [intOf]
            rcases (show i = 1 ∨ i = 2 ∨ i = 3 ∨ i = 4 ∨ i = 5 ∨ i = 6 ∨ i = 7 ∨ i = 8 by omega) with rfl | rfl | rfl | rfl | rfl | rfl | rfl | rfl
            all_goals
              clear hi8 h0
              simp only [Nat.reduceMul, Int.reducePow] at hor
              go_wp2_with fail
              go_roundw
              case rel => exact ⟨_, r, _, FIN.out.1, rfl, rfl, ⟨FIN.out.2.1, FIN.out.2.2.2⟩, FIN.out.2.2.1, rfl⟩
              case measure => simp [intOf]
    · have hge : (s.size : Int) ≤ (p : Int) := by omega
      have hgd : decide ((s.size : Int) ≤ (p : Int)) = true := decide_eq_true hge
      have HQ' : Hid (R = (0, 30, 0)) := by
        unfold Hid
        rw [← HX.out.2, ← HP.out, drop_end s _ (by omega), show 10 - i = (9 - i) + 1 by have := HI.out; omega]
        rfl
      clear hlt
      go_wp2_with fail
      go_quiet (fail)
      go_wp2_with fail
      go_ret2
      rw [HQ'.out]
      exact ⟨rfl, HH.out, ⟨rfl, rfl, rfl, Nat.le_refl _, fun _ _ _ => rfl⟩⟩
end Go.Proofs.Ytchhdkmflppjhaa
