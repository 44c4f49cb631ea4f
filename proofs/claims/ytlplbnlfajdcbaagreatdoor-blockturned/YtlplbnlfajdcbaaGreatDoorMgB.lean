/-
  The reader of package code. Conditions: as each says.
-/
import Derived.Test.YtlplbnlfajdcbaaGreatDoorMgA
import Derived.Defers
namespace Go.Proofs.YtlplbnlfajdcbaaGreatDoor
open Go.RowKit
set_option linter.unusedVariables false
def rdrC (s : ByteArray) (a : Nat) : List Value := [.string s, .int .i64 (a : Int)]
/-- block g holds a Reader of s at the place a -/
def Rdr (g : Nat) (s : ByteArray) (a : Nat) (w : World) : Prop := w.heap[g]? = some (.cells (rdrC s a).toArray 168 (0, 0))
theorem Rdr.put {g : Nat} {s : ByteArray} {a : Nat} {w : World} (h : Rdr g s a w) : Put g 168 (rdrC s a) w w := Put.refl h
theorem Rdr.c0 {g : Nat} {s : ByteArray} {a : Nat} {w : World} (h : Rdr g s a w) : w.cell? ⟨g, 0, none⟩ = some (.string s) := h.put.cell _ rfl
theorem Rdr.c1 {g : Nat} {s : ByteArray} {a : Nat} {w : World} (h : Rdr g s a w) : w.cell? ⟨g, 1, none⟩ = some (.int .i64 (a : Int)) := h.put.cell _ rfl
theorem Rdr.fz {g o : Nat} {s : ByteArray} {a : Nat} {w : World} (h : Rdr g s a w) : w.frozen? ⟨g, o, none⟩ = false := h.put.frozen
theorem Rdr.lt {g : Nat} {s : ByteArray} {a : Nat} {w : World} (h : Rdr g s a w) : g < w.heap.size := h.put.lt
theorem Rdr.below {g B : Nat} {s : ByteArray} {a : Nat} {w w' : World} (h : Rdr g s a w) (hb : Below B w w') (hg : g < B) : Rdr g s a w' := (hb.block g hg).trans h
theorem Rdr.other {g k : Nat} {s : ByteArray} {a : Nat} {w w' : World} (h : Rdr g s a w) (ho : Only k w w') (hg : g ≠ k) : Rdr g s a w' := (ho.block g h.lt hg).trans h
theorem Rdr.set {g : Nat} {s : ByteArray} {a : Nat} {w : World} (h : Rdr g s a w) (b : Nat) : Rdr g s b (w.setCell ⟨g, 1, none⟩ (.int .i64 (b : Int))) ∧ Only g w (w.setCell ⟨g, 1, none⟩ (.int .i64 (b : Int))) := by
  have := h.put.setCell (o := 1) (.int .i64 (b : Int))
  exact ⟨this.row, this.only⟩
theorem ret_int {k : IntKind} {a b : Int} (h : a = b) : Ending.returned (.int k a) = .returned (.int k b) := by rw [h]
theorem read_any (s : ByteArray) (w : World) :
    Calls Tryz.prog 62 #[.string s] w fun e w' => ∃ g, w.heap.size ≤ g ∧ e = .returned (.pointer (some ⟨g, 0, none⟩)) ∧ Rdr g s 0 w' ∧ Below w.heap.size w w' := by
  go_enter Tryz.func62, Tryz.ntmps62
  go_wp2_with fail
  go_ret
  refine ⟨w.heap.size, Nat.le_refl _, rfl, ?_, (Below.refl _ _).alloc (Nat.le_refl _) _⟩
  exact heap_alloc_new w _
theorem at_any (g : Nat) (s : ByteArray) (a : Nat) (w : World) (h : Rdr g s a w) :
    Calls Tryz.prog 131 #[.pointer (some ⟨g, 0, none⟩)] w fun e w' => e = .returned (.int .i64 (a : Int)) ∧ w' = w := by
  have c1 := h.c1
  have HH := Hid.mk' h
  clear h
  go_enter Tryz.func131, Tryz.ntmps131
  go_wp2_with fail
  go_ret
  exact ⟨rfl, rfl⟩
theorem left_any (g : Nat) (s : ByteArray) (a : Nat) (w : World) (h : Rdr g s a w) (ha : a ≤ s.size) (hs : s.size ≤ 1125899906842624) :
    Calls Tryz.prog 127 #[.pointer (some ⟨g, 0, none⟩)] w fun e w' => e = .returned (.int .i64 ((s.size - a : Nat) : Int)) ∧ ∃ n, w' = w.drewN n := by
  have c0 := h.c0
  have c1 := h.c1
  have HH := Hid.mk' h
  have HE : Hid ((s.size : Int) - (a : Int) = ((s.size - a : Nat) : Int)) := by unfold Hid; omega
  clear h
  go_enter Tryz.func127, Tryz.ntmps127
  go_wp2_with fail
  go_quiet (fail)
  go_wp2_with fail
  go_ret
  exact ⟨ret_int HE.out, _, rfl⟩
theorem end_any (g : Nat) (s : ByteArray) (a : Nat) (w : World) (h : Rdr g s a w) (ha : a ≤ s.size) (hs : s.size ≤ 1125899906842624) :
    Calls Tryz.prog 136 #[.pointer (some ⟨g, 0, none⟩)] w fun e w' => e = .returned (.int .i64 (if a < s.size then 34 else 0)) ∧ ∃ n, w' = w.drewN n := by
  by_cases hlt : a < s.size
  · have HI : Hid ((if a < s.size then (34 : Int) else 0) = 34) := if_pos hlt
    have hx : decide ((0 : Int) < ((s.size - a : Nat) : Int)) = true := decide_eq_true (by omega)
    have hy : 0 < s.size - a := by omega
    go_enter Tryz.func136, Tryz.ntmps136
    go_wp2_with fail
    refine (left_any g s a w h ha hs).mono ?_
    rintro e w1 ⟨rfl, n, rfl⟩
    generalize s.size - a = r at *
    clear hs ha
    go_wp2_with fail
    go_ret
    refine ⟨?_, n, rfl⟩
    first | rfl | exact ret_int HI.out.symm
  · have HI : Hid ((if a < s.size then (34 : Int) else 0) = 0) := if_neg hlt
    obtain rfl : a = s.size := by omega
    go_enter Tryz.func136, Tryz.ntmps136
    go_wp2_with fail
    refine (left_any g s s.size w h ha hs).mono ?_
    rintro e w1 ⟨rfl, n, rfl⟩
    rw [Nat.sub_self]
    go_wp2_with fail
    go_ret
    refine ⟨?_, n, rfl⟩
    first | rfl | exact ret_int HI.out.symm
theorem next_none (g : Nat) (s : ByteArray) (w : World) (h : Rdr g s s.size w) (hs : s.size ≤ 1125899906842624) :
    Calls Tryz.prog 101 #[.pointer (some ⟨g, 0, none⟩)] w fun e w' => e = .returned (.tuple #[.int .u8 0, .int .i64 30]) ∧ ∃ n, w' = w.drewN n := by
  go_enter Tryz.func101, Tryz.ntmps101
  go_wp2_with fail
  refine (left_any g s s.size w h (Nat.le_refl _) hs).mono ?_
  rintro e w1 ⟨rfl, n, rfl⟩
  rw [Nat.sub_self]
  go_wp2_with fail
  go_ret2
  exact ⟨rfl, n, rfl⟩
set_option maxHeartbeats 1000000 in
theorem next_some (g : Nat) (s : ByteArray) (a : Nat) (w : World) (h : Rdr g s a w) (ha : a < s.size) (hs : s.size ≤ 1125899906842624) :
    Calls Tryz.prog 101 #[.pointer (some ⟨g, 0, none⟩)] w fun e w' => e = .returned (.tuple #[.int .u8 (((Sums.bl s).getD a 0 : Nat) : Int), .int .i64 0]) ∧ Rdr g s (a + 1) w' ∧ Only g w w' := by
  have HB := Hid.mk' (Sums.bl_get s a ha)
  have HH := Hid.mk' h
  have hx : (((s.size - a : Nat) : Int) == 0) = false := by simp; omega
  have hy : ¬ s.size - a = 0 := by omega
  go_enter Tryz.func101, Tryz.ntmps101
  go_wp2_with fail
  refine (left_any g s a w h (by omega) hs).mono ?_
  rintro e w1 ⟨rfl, n, rfl⟩
  clear h
  obtain ⟨w1, hw1⟩ : ∃ w1, w1 = w.drewN n := ⟨_, rfl⟩
  have hr1 : Rdr g s a w1 := by rw [hw1]; exact HH.out
  have ho1 : Only g w w1 := by rw [hw1]; exact (Only.refl g w).drewN n
  rw [← hw1]
  have c0 := hr1.c0
  have c1 := hr1.c1
  have f1 : w1.frozen? ⟨g, 1, none⟩ = false := hr1.fz
  have HR := Hid.mk' hr1
  have HO := Hid.mk' ho1
  clear hw1 hr1 ho1
  have i0 : (0 : Int) ≤ (a : Int) := by omega
  have i1 : (a : Int) < (s.size : Int) := by omega
  generalize hq : s.size - a = r at *
  clear hq
  go_wp2_with fail
  go_quiet (fail)
  go_wp2_with fail
  go_ret2
  have hs2 := (show Rdr g s a (w1.drewN nq) from HR.out).set (a + 1)
  refine ⟨ret_tup2 ?_ rfl, ?_, ?_⟩
  · rw [HB.out]; rfl
  · exact hs2.1
  · exact (HO.out.drewN nq).trans hs2.2
end Go.Proofs.YtlplbnlfajdcbaaGreatDoor

namespace Go.Proofs.YtlplbnlfajdcbaaGreatDoor
open Go.RowKit
set_option linter.unusedVariables false
theorem drop_cons (s : ByteArray) (i : Nat) (h : i < s.size) : (Sums.bl s).drop i = (Sums.bl s).getD i 0 :: (Sums.bl s).drop (i + 1) := by
  have hl : i < (Sums.bl s).length := by rw [Sums.bl_length]; exact h
  rw [List.drop_eq_getElem_cons hl, List.getD_eq_getElem?_getD, List.getElem?_eq_getElem hl]
  rfl
theorem drop_end (s : ByteArray) (i : Nat) (h : s.size ≤ i) : (Sums.bl s).drop i = [] := List.drop_eq_nil_of_le (by rw [Sums.bl_length]; exact h)
theorem bl_lt (s : ByteArray) (i : Nat) : (Sums.bl s).getD i 0 < 256 := by
  by_cases h : i < s.size
  · rw [Sums.bl_get s i h]; exact UInt8.toNat_lt _
  · rw [List.getD_eq_getElem?_getD, List.getElem?_eq_none (by rw [Sums.bl_length]; omega)]; decide
theorem andNot_128 (b : Nat) (hb : b < 256) : bits .andNot .u8 (b : Int) 128 = ((b % 128 : Nat) : Int) := by
  rw [show (128 : Int) = ((128 : Nat) : Int) from rfl, u8_andNot_nat b 128 hb (by decide)]
  congr 1
  exact (show ∀ b < 256, b &&& (255 - 128) = b % 128 by decide +kernel) b hb
theorem grp_lt (m c i : Nat) (hm : m < 2 ^ (7 * i)) (hc : c < 128) : m + c * 2 ^ (7 * i) < 2 ^ (7 * (i + 1)) := by
  rw [Code.pow7]
  have h : (c + 1) * 2 ^ (7 * i) ≤ 128 * 2 ^ (7 * i) := Nat.mul_le_mul_right _ (by omega)
  rw [Nat.add_mul] at h
  omega
theorem grp_64n (m c i : Nat) (hi : i ≤ 9) (hm : m < 2 ^ (7 * i)) (hc : c < 128) (h9 : i = 9 → c ≤ 1) : m + c * 2 ^ (7 * i) < 18446744073709551616 := by
  by_cases h : i = 9
  · subst h
    have := h9 rfl
    simp at hm ⊢
    omega
  · have h1 := grp_lt m c i hm hc
    have h2 : 2 ^ (7 * (i + 1)) ≤ 2 ^ 63 := Nat.pow_le_pow_right (by decide) (by omega)
    omega
theorem grp_64 (m c i : Nat) (hi : i ≤ 9) (hm : m < 2 ^ (7 * i)) (hc : c < 128) (h9 : i = 9 → c ≤ 1) : ((m + c * 2 ^ (7 * i) : Nat) : Int) < 18446744073709551616 := by
  have := grp_64n m c i hi hm hc h9
  omega
theorem grp_or (m c i : Nat) (hi : i ≤ 9) (hm : m < 2 ^ (7 * i)) (hc : c < 128) (h9 : i = 9 → c ≤ 1) : bits .or .u64 (m : Int) ((c : Int) * 2 ^ (7 * i)) = ((m + c * 2 ^ (7 * i) : Nat) : Int) := by
  have h := grp_64n m c i hi hm hc h9
  rw [show (c : Int) * 2 ^ (7 * i) = ((c * 2 ^ (7 * i) : Nat) : Int) by simp, u64_or_nat _ _ (by omega) (by omega)]
  congr 1
  have := Nat.two_pow_add_eq_or_of_lt hm c
  rw [Nat.or_comm, Nat.mul_comm c, ← this, Nat.add_comm]
def grpPost (g : Nat) (s : ByteArray) (a : Nat) (w : World) (e : Ending) (w' : World) : Prop :=
  e = .returned (.tuple #[.int .u64 ((Code.rd ((Sums.bl s).drop a)).1 : Int), .int .i64 ((Code.rd ((Sums.bl s).drop a)).2.1 : Int)]) ∧ ∃ a', a' ≤ s.size ∧ Rdr g s a' w' ∧ Only g w w' ∧ ((Code.rd ((Sums.bl s).drop a)).2.1 = 0 → a' = a + (Code.rd ((Sums.bl s).drop a)).2.2)
set_option maxHeartbeats 1000000 in
theorem groups_any (g : Nat) (s : ByteArray) (a : Nat) (w : World) (h : Rdr g s a w) (ha : a ≤ s.size) (hs : s.size ≤ 1125899906842624) :
    Calls Tryz.prog 130 #[.pointer (some ⟨g, 0, none⟩)] w (grpPost g s a w) := by
  have HS := Hid.mk' hs
  have HA := Hid.mk' ha
  have HH := Hid.mk' h
  clear hs ha h
  obtain ⟨R, HRD⟩ : ∃ R, Hid (R = Code.rd ((Sums.bl s).drop a)) := ⟨_, rfl⟩
  go_enter Tryz.func130, Tryz.ntmps130
  go_wp2_with fail
  go_loopw [4, 5] (fun n' i' wr => ∃ (i m : Nat), i ≤ 9 ∧ n' = .int .u64 (m : Int) ∧ i' = .int .i64 (i : Int) ∧ m < 2 ^ (7 * i) ∧ a + i ≤ s.size ∧ Code.rdF (10 - i) i m ((Sums.bl s).drop (a + i)) = Code.rd ((Sums.bl s).drop a) ∧ Rdr g s (a + i) wr ∧ Only g w wr) (fun _ i' _ => 10 - (intOf i').toNat)
  case atStart => exact ⟨0, 0, by omega, rfl, rfl, by simp, HA.out, rfl, HH.out, Only.refl _ _⟩
  case round =>
    obtain ⟨i, m, hi, rfl, rfl, hm, hai, hrd, hr, ho⟩ := hrel
    have HI := Hid.mk' hi
    have HM := Hid.mk' hm
    have HAI := Hid.mk' hai
    have HRF := Hid.mk' hrd
    have HR := Hid.mk' hr
    have HO := Hid.mk' ho
    clear hi hm hai hrd hr ho
    by_cases hlt : a + i < s.size
    · obtain ⟨b, HB⟩ : ∃ b, Hid (b = (Sums.bl s).getD (a + i) 0) := ⟨_, rfl⟩
      have hb256 : b < 256 := by rw [HB.out]; exact bl_lt _ _
      have HQ : Hid ((if i = 9 ∧ 1 < b then (0, 32, 0) else if 0 < i ∧ b = 0 then (0, 31, 0) else if b < 128 then (m + b % 128 * 2 ^ (7 * i), 0, i + 1) else Code.rdF (9 - i) (i + 1) (m + b % 128 * 2 ^ (7 * i)) ((Sums.bl s).drop (a + i + 1))) = Code.rd ((Sums.bl s).drop a)) := by
        unfold Hid
        rw [← HRF.out, drop_cons s _ hlt, ← HB.out, show 10 - i = (9 - i) + 1 by have := HI.out; omega, Code.rdF_cons]
      have HL := Hid.mk' hlt
      have H256 := Hid.mk' hb256
      clear hlt hb256
      go_wp2_with fail
      refine (next_some g s (a + i) wr HR.out HL.out HS.out).mono ?_
      rintro e w1 ⟨rfl, hr1, ho1⟩
      rw [← HB.out]
      have HR1 := Hid.mk' hr1
      have HO1 := Hid.mk' (HO.out.trans ho1)
      clear hr1 ho1
      have b0 : (0 : Int) ≤ (b : Int) := by omega
      have b1 : (b : Int) < 256 := by have := H256.out; omega
      have i0 : (0 : Int) ≤ (i : Int) := by omega
      have i9 : (i : Int) ≤ 9 := by have := HI.out; omega
      by_cases h1 : i = 9 ∧ 1 < b
      · obtain ⟨rfl, h1⟩ := h1
        have h1' : decide ((1 : Int) < (b : Int)) = true := decide_eq_true (by omega)
        have h1'' : (1 : Int) < (b : Int) := by omega
        have HQ' : Hid (Code.rd ((Sums.bl s).drop a) = (0, 32, 0)) := by unfold Hid; rw [← HQ.out, if_pos ⟨rfl, h1⟩]
        clear h1
        go_wp2_with fail
        go_ret2
        unfold grpPost
        rw [HQ'.out]
        exact ⟨rfl, a + 9 + 1, HL.out, HR1.out, HO1.out, fun h => by simp at h⟩
      · by_cases h2 : 0 < i ∧ b = 0
        · obtain ⟨h2, rfl⟩ := h2
          have HQ' : Hid (Code.rd ((Sums.bl s).drop a) = (0, 31, 0)) := by unfold Hid; rw [← HQ.out, if_neg h1, if_pos ⟨h2, rfl⟩]
          have h3 : decide ((0 : Int) < (i : Int)) = true := decide_eq_true (by omega)
          have h3' : (0 : Int) < (i : Int) := by omega
          clear h1
          by_cases h9 : i = 9
          · subst h9
            go_wp2_with fail
            go_ret2
            unfold grpPost
            rw [HQ'.out]
            exact ⟨rfl, a + 9 + 1, HL.out, HR1.out, HO1.out, fun h => by simp at h⟩
          · have h9' : ((i : Int) == 9) = false := by simp; omega
            go_wp2_with fail
            go_ret2
            unfold grpPost
            rw [HQ'.out]
            exact ⟨rfl, a + i + 1, HL.out, HR1.out, HO1.out, fun h => by simp at h⟩
        · obtain ⟨c, HC⟩ : ∃ c, Hid (c = b % 128) := ⟨_, rfl⟩
          have c0 : (0 : Int) ≤ (c : Int) := by omega
          have c1 : (c : Int) < 128 := by have := HC.out; omega
          have hand : bits .andNot .u8 (b : Int) 128 = (c : Int) := by rw [HC.out]; exact andNot_128 b H256.out
          obtain ⟨r, HRr⟩ : ∃ r, Hid (r = m + c * 2 ^ (7 * i)) := ⟨_, rfl⟩
          have hc9 : i = 9 → c ≤ 1 := by have := HC.out; have := H256.out; omega
          have HRL := Hid.mk' (grp_lt m c i HM.out (by have := HC.out; omega))
          have hor : bits .or .u64 (m : Int) ((c : Int) * 2 ^ (7 * i)) = (r : Int) := by rw [HRr.out]; exact grp_or m c i HI.out HM.out (by have := HC.out; omega) hc9
          have r64 : (r : Int) < 18446744073709551616 := by rw [HRr.out]; exact grp_64 m c i HI.out HM.out (by have := HC.out; omega) hc9
          by_cases hb : b < 128
          · have HQ' : Hid (Code.rd ((Sums.bl s).drop a) = (r, 0, i + 1)) := by unfold Hid; rw [← HQ.out, if_neg h1, if_neg h2, if_pos hb, HRr.out, HC.out]
            have b2 : (b : Int) < 128 := by omega
            have hz : 0 < i → ((b : Int) == 0) = false := fun h => by simp; omega
            have hz9 : i = 9 → (b : Int) ≤ 1 := fun h => by omega
            have HI2 := HI.out
            clear hb h1 h2 hc9
            by_cases h9 : i = 9
            · subst h9
              have hz2 := hz (by omega)
              have hb1 := hz9 rfl
              obtain rfl : b = 1 := by simp at hz2; omega
              obtain rfl : c = 1 := HC.out
              clear hz hz9 HI2 hz2 hb1 b0 b1 b2 c0 c1 i0 i9
              simp only [Nat.reduceMul, Int.reducePow, Int.one_mul, Int.cast_ofNat_Int] at hor hand
              go_wp2_with fail
              go_ret2
              unfold grpPost
              rw [HQ'.out]
              exact ⟨rfl, _, HL.out, HR1.out, HO1.out, fun _ => rfl⟩
            by_cases h0 : i = 0
            · subst h0
              obtain rfl : m = 0 := by have := HM.out; simp at this; exact this
              simp only [Nat.mul_zero, Int.pow_zero, Int.mul_one, Int.cast_ofNat_Int] at hor
              clear hz hz9 HI2
              go_wp2_with fail
              go_ret2
              unfold grpPost
              rw [HQ'.out]
              exact ⟨rfl, _, HL.out, HR1.out, HO1.out, fun _ => rfl⟩
            have hz2 := hz (by omega)
            clear hz hz9
            rcases (show i = 1 ∨ i = 2 ∨ i = 3 ∨ i = 4 ∨ i = 5 ∨ i = 6 ∨ i = 7 ∨ i = 8 by omega) with rfl | rfl | rfl | rfl | rfl | rfl | rfl | rfl
            all_goals
              clear HI2 h9 h0
              simp only [Nat.reduceMul, Int.reducePow] at hor
              go_wp2_with fail
              go_ret2
              unfold grpPost
              rw [HQ'.out]
              exact ⟨rfl, _, HL.out, HR1.out, HO1.out, fun _ => rfl⟩
          · have HQ' : Hid (Code.rdF (9 - i) (i + 1) r ((Sums.bl s).drop (a + i + 1)) = Code.rd ((Sums.bl s).drop a)) := by unfold Hid; rw [← HQ.out, if_neg h1, if_neg h2, if_neg hb, HRr.out, HC.out]
            have b2 : decide ((b : Int) < 128) = false := decide_eq_false (by omega)
            have b3 : ¬ (b : Int) < 128 := by omega
            have hz2 : ((b : Int) == 0) = false := by simp; omega
            have hi8 : i ≤ 8 := by have := HI.out; omega
            have FIN : Hid (i + 1 ≤ 9 ∧ r < 2 ^ (7 * (i + 1)) ∧ a + (i + 1) ≤ s.size ∧ Code.rdF (10 - (i + 1)) (i + 1) r ((Sums.bl s).drop (a + (i + 1))) = Code.rd ((Sums.bl s).drop a) ∧ Rdr g s (a + (i + 1)) w1) := by
              refine ⟨by omega, by rw [HRr.out]; exact HRL.out, HL.out, ?_, HR1.out⟩
              rw [show 10 - (i + 1) = 9 - i by omega]
              exact HQ'.out
            clear hb h1 h2 hc9
            by_cases h0 : i = 0
            · subst h0
              obtain rfl : m = 0 := by have := HM.out; simp at this; exact this
              simp only [Nat.mul_zero, Int.pow_zero, Int.mul_one, Int.cast_ofNat_Int] at hor
              clear hi8
              go_wp2_with fail
              go_roundw
              case rel => exact ⟨_, r, FIN.out.1, rfl, rfl, FIN.out.2.1, FIN.out.2.2.1, FIN.out.2.2.2.1, FIN.out.2.2.2.2, HO1.out⟩
              case measure => simp [intOf]
            rcases (show i = 1 ∨ i = 2 ∨ i = 3 ∨ i = 4 ∨ i = 5 ∨ i = 6 ∨ i = 7 ∨ i = 8 by omega) with rfl | rfl | rfl | rfl | rfl | rfl | rfl | rfl
            all_goals
              clear hi8 h0
              simp only [Nat.reduceMul, Int.reducePow] at hor
              go_wp2_with fail
              go_roundw
              case rel => exact ⟨_, r, FIN.out.1, rfl, rfl, FIN.out.2.1, FIN.out.2.2.1, FIN.out.2.2.2.1, FIN.out.2.2.2.2, HO1.out⟩
              case measure => simp [intOf]
    · have he : a + i = s.size := by have := HAI.out; omega
      have HE := Hid.mk' he
      have hR2 : Rdr g s s.size wr := by rw [← he]; exact HR.out
      have HR2 := Hid.mk' hR2
      have HQ : Hid (Code.rd ((Sums.bl s).drop a) = (0, 30, 0)) := by
        unfold Hid
        rw [← HRF.out, drop_end s _ (by omega), show 10 - i = (9 - i) + 1 by have := HI.out; omega]
        rfl
      clear hlt he hR2
      go_wp2_with fail
      refine (next_none g s wr HR2.out HS.out).mono ?_
      rintro e w1 ⟨rfl, n, rfl⟩
      go_wp2_with fail
      go_ret2
      unfold grpPost
      rw [HQ.out]
      exact ⟨rfl, s.size, Nat.le_refl _, HR2.out, HO.out.drewN n, fun h => by simp at h⟩
end Go.Proofs.YtlplbnlfajdcbaaGreatDoor

namespace Go.Proofs.YtlplbnlfajdcbaaGreatDoor
open Go.RowKit
set_option linter.unusedVariables false
theorem Only.cell {g k o : Nat} {a b : World} (h : Only g a b) (hk : k < a.heap.size) (hg : k ≠ g) : b.cell? ⟨k, o, none⟩ = a.cell? ⟨k, o, none⟩ := by
  simp [World.cell?, h.block k hk hg]
theorem Only.frozen {g k o : Nat} {a b : World} (h : Only g a b) (hk : k < a.heap.size) (hg : k ≠ g) : b.frozen? ⟨k, o, none⟩ = a.frozen? ⟨k, o, none⟩ := by
  simp [World.frozen?, h.block k hk hg]
/-- the deferred function, nothing was refused -/
theorem back_u0 (be bf br : Nat) (u : FrameMode) (w : World) (ce : w.cell? ⟨be, 0, none⟩ = some (.int .i64 0)) :
    CallsD Tryz.prog 126 #[.pointer (some ⟨be, 0, none⟩), .pointer (some ⟨bf, 0, none⟩), .pointer (some ⟨br, 0, none⟩)] u w fun e u' w' => u' = u ∧ (e = .returned (.tuple #[]) ∧ w' = w) := by
  go_enter_d Tryz.func126, Tryz.ntmps126
  go_wp2
  go_end0
  exact ⟨rfl, rfl⟩
theorem back_u1 (be bf br g : Nat) (E : Int) (a : Nat) (u : FrameMode) (w : World) (v : Value) (hE : (E != 0) = true) (ce : w.cell? ⟨be, 0, none⟩ = some (.int .i64 E)) (cf : w.cell? ⟨bf, 0, none⟩ = some (.int .i64 (a : Int))) (cr : w.cell? ⟨br, 0, none⟩ = some (.pointer (some ⟨g, 0, none⟩))) (cg : w.cell? ⟨g, 1, none⟩ = some v) (fg : w.frozen? ⟨g, 1, none⟩ = false) :
    CallsD Tryz.prog 126 #[.pointer (some ⟨be, 0, none⟩), .pointer (some ⟨bf, 0, none⟩), .pointer (some ⟨br, 0, none⟩)] u w fun e u' w' => u' = u ∧ (e = .returned (.tuple #[]) ∧ w' = w.setCell ⟨g, 1, none⟩ (.int .i64 (a : Int))) := by
  go_enter_d Tryz.func126, Tryz.ntmps126
  go_wp2
  go_end0
  exact ⟨rfl, rfl⟩
theorem att_end {w w1 w2 : World} {g p n : Nat} {s : ByteArray} {v : Value} (hb : Below w.heap.size w w1) (ho : Only g w1 w2) (hr : Rdr g s p w2) (hg : g < w.heap.size) (hn : w.heap.size ≤ n) :
    Rdr g s p (w2.setCell ⟨n, 0, none⟩ v) ∧ Only g w (w2.setCell ⟨n, 0, none⟩ v) := by
  have hb2 : Below w.heap.size w2 (w2.setCell ⟨n, 0, none⟩ v) := (Below.refl _ _).setCell (p := ⟨n, 0, none⟩) hn _
  have h2 : Only g w w2 := (Only.of_below hb).trans ho
  exact ⟨hr.below hb2 hg, ⟨hb2.os.trans h2.os, hb2.tape.trans h2.tape, hb2.output.trans h2.output, Nat.le_trans h2.size hb2.size, fun k hk hkg => (hb2.block k hk).trans (h2.block k hk hkg)⟩⟩
set_option maxHeartbeats 1000000 in
theorem attempt_u (F : FuncId) (first cap : Array Value) (g : Nat) (s : ByteArray) (a p : Nat) (v E : Nat) (w : World) (h : Rdr g s a w) (hp : E ≠ 0 → p = a) (hent : ∀ w, (callFunc F (first ++ cap)).run Tryz.prog w = .ok (.enter F (first ++ cap)) w)
    (hcall : ∀ w1, Rdr g s a w1 → Only g w w1 → Calls Tryz.prog F (first ++ cap) w1 fun e w' => e = .returned (.tuple #[.int .u64 (v : Int), .int .i64 (E : Int)]) ∧ ∃ a', Rdr g s a' w' ∧ Only g w1 w' ∧ (E = 0 → a' = p)) :
    Calls Tryz.prog 99 #[.pointer (some ⟨g, 0, none⟩), .func (.func F) first cap] w fun e w' => e = .returned (.tuple #[.int .u64 (v : Int), .int .i64 (E : Int)]) ∧ Rdr g s p w' ∧ Only g w w' := by
  have hmf : ∀ (fn : Fn) (first cap : Array Value) (w : World), (Instr.makeFunc fn first cap).run Tryz.prog w = .ok (.func fn first cap) w := fun _ _ _ _ => rfl
  have HC := Hid.mk' hcall
  have HH := Hid.mk' h
  have hg := h.lt
  have HPP := Hid.mk' hp
  have c1 := h.c1
  clear hcall h hp
  go_enter_defers Tryz.func99, Tryz.ntmps99
  go_wp2_with fail
  obtain ⟨w1, hw1⟩ : ∃ w1, w1 = (((w.alloc (.cells #[.pointer (some ⟨g, 0, none⟩)] 113)).alloc (.cells #[.int .i64 0] 29)).alloc (.cells #[.int .i64 (a : Int)] 3)) := ⟨_, rfl⟩
  have RW : Below w.heap.size w w1 := by rw [hw1]; exact (((Below.refl _ _).alloc (Nat.le_refl _) _).alloc (by simp) _).alloc (by simp; omega) _
  have hz1 : w1.heap.size = w.heap.size + 3 := by rw [hw1]; simp
  have d0 : w1.cell? ⟨w.heap.size, 0, none⟩ = some (.pointer (some ⟨g, 0, none⟩)) := by rw [hw1]; simp [go_sem]
  have d1 : w1.cell? ⟨w.heap.size + 1, 0, none⟩ = some (.int .i64 0) := by rw [hw1]; simp [go_sem]
  have d2 : w1.cell? ⟨w.heap.size + 1 + 1, 0, none⟩ = some (.int .i64 (a : Int)) := by rw [hw1]; simp [go_sem]
  have f1 : w1.frozen? ⟨w.heap.size + 1, 0, none⟩ = false := by rw [hw1]; simp [go_sem]
  rw [← hw1]
  clear hw1
  refine (HC.out w1 (HH.out.below RW hg) (Only.of_below RW)).mono ?_
  rintro e w2 ⟨rfl, a', hr2, ho2, hE⟩
  have x0 : w2.cell? ⟨w.heap.size, 0, none⟩ = some (.pointer (some ⟨g, 0, none⟩)) := (ho2.cell (by omega) (by omega)).trans d0
  have x1 : w2.cell? ⟨w.heap.size + 1, 0, none⟩ = some (.int .i64 0) := (ho2.cell (by omega) (by omega)).trans d1
  have x2 : w2.cell? ⟨w.heap.size + 1 + 1, 0, none⟩ = some (.int .i64 (a : Int)) := (ho2.cell (by omega) (by omega)).trans d2
  have y1 : w2.frozen? ⟨w.heap.size + 1, 0, none⟩ = false := (ho2.frozen (by omega) (by omega)).trans f1
  have HRW := Hid.mk' RW
  have HO2 := Hid.mk' ho2
  have HR2 := Hid.mk' hr2
  have HE := Hid.mk' hE
  clear RW ho2 hr2 hE d0 d1 d2 f1 c1
  by_cases hE0 : E = 0
  · subst hE0
    obtain rfl : a' = p := HE.out rfl
    go_wp2_with fail
    refine leaves_cons (f := 126) (args := #[.pointer (some ⟨w.heap.size + 1, 0, none⟩), .pointer (some ⟨w.heap.size + 1 + 1, 0, none⟩), .pointer (some ⟨w.heap.size, 0, none⟩)]) (by simp) (by simp [go_sem]) ?_
    refine (back_u0 _ _ _ .returning _ ?_).mono ?_
    · simp [go_sem, x1]
    rintro e u' w'' ⟨rfl, rfl, rfl⟩
    have hfin : Rdr g s a' (w2.setCell ⟨w.heap.size + 1, 0, none⟩ (.int .i64 0)) ∧ Only g w (w2.setCell ⟨w.heap.size + 1, 0, none⟩ (.int .i64 0)) := att_end HRW.out HO2.out HR2.out hg (by omega)
    simp [Leaves, settle, results, Tryz.results99, go_sem, x1]
    exact hfin
  · have hne : ((E : Int) != 0) = true := by simp; exact hE0
    obtain rfl : p = a := HPP.out hE0
    have HE0 := Hid.mk' hE0
    clear hE0
    go_wp2_with fail
    refine leaves_cons (f := 126) (args := #[.pointer (some ⟨w.heap.size + 1, 0, none⟩), .pointer (some ⟨w.heap.size + 1 + 1, 0, none⟩), .pointer (some ⟨w.heap.size, 0, none⟩)]) (by simp) (by simp [go_sem]) ?_
    have hr3 : Rdr g s a' (w2.setCell ⟨w.heap.size + 1, 0, none⟩ (.int .i64 (E : Int))) ∧ Only g w (w2.setCell ⟨w.heap.size + 1, 0, none⟩ (.int .i64 (E : Int))) := att_end HRW.out HO2.out HR2.out hg (by omega)
    refine (back_u1 _ _ _ g (E : Int) p .returning _ _ hne ?_ ?_ ?_ hr3.1.c1 hr3.1.fz).mono ?_
    · simp [go_sem, x1]
    · simp [go_sem, x2]
    · simp [go_sem, x0]
    rintro e u' w'' ⟨rfl, rfl, rfl⟩
    have hfin := hr3.1.set p
    have hcl : (World.setCell (w2.setCell ⟨w.heap.size + 1, 0, none⟩ (.int .i64 (E : Int))) ⟨g, 1, none⟩ (.int .i64 (p : Int))).cell? ⟨w.heap.size + 1, 0, none⟩ = some (.int .i64 (E : Int)) := by
      rw [hfin.2.cell (by simp [World.setCell]; have := HO2.out.size; omega) (by omega)]
      simp [go_sem, x1]
    simp [Leaves, settle, results, Tryz.results99, go_sem, hcl]
    exact ⟨hfin.1, hr3.2.trans hfin.2⟩
end Go.Proofs.YtlplbnlfajdcbaaGreatDoor

namespace Go.Proofs.YtlplbnlfajdcbaaGreatDoor
open Go.RowKit
set_option linter.unusedVariables false
theorem val_int {k : IntKind} {a b : Int} (h : a = b) : Value.int k a = Value.int k b := by rw [h]
theorem call_enter {f : FuncId} {fn : Func} {c : Code} (hf : Tryz.prog.funcs[f]? = some fn) (hname : (fn.name == "runtime.NumGoroutine") = false) (hb : fn.body = some c) (args : Array Value) (w : World) :
    (callFunc f args).run Tryz.prog w = .ok (.enter f args) w := by
  have h1 : fn.name ≠ "runtime.NumGoroutine" := by simpa using hname
  simp [callFunc, hf, h1, hb]
theorem ent_groups (args : Array Value) (w : World) : (callFunc 130 args).run Tryz.prog w = .ok (.enter 130 args) w :=
  call_enter Tryz.func130 (by kernel_rfl) rfl args w
/-- what is read of a number from the place a on -/
def rdAt (s : ByteArray) (a : Nat) : Nat × Nat × Nat := Code.rd ((Sums.bl s).drop a)
theorem byt_drop (s : ByteArray) (a : Nat) : ∀ z ∈ (Sums.bl s).drop a, z < 256 := fun z hz => Sums.bl_byt s z (List.mem_of_mem_drop hz)
theorem rdAt_lt (s : ByteArray) (a : Nat) (ha : a ≤ s.size) : (rdAt s a).1 < 18446744073709551616 ∧ a + (rdAt s a).2.2 ≤ s.size := by
  have h := Code.rd_lt ((Sums.bl s).drop a) (byt_drop s a)
  rw [List.length_drop, Sums.bl_length] at h
  unfold rdAt
  exact ⟨h.1, by omega⟩
theorem ruint_any (g : Nat) (s : ByteArray) (a : Nat) (w : World) (h : Rdr g s a w) (ha : a ≤ s.size) (hs : s.size ≤ 1125899906842624) :
    Calls Tryz.prog 104 #[.pointer (some ⟨g, 0, none⟩)] w fun e w' => e = .returned (.tuple #[.int .u64 ((rdAt s a).1 : Int), .int .i64 ((rdAt s a).2.1 : Int)]) ∧ Rdr g s (a + (rdAt s a).2.2) w' ∧ Only g w w' := by
  have hmf : ∀ (fn : Fn) (first cap : Array Value) (w : World), (Instr.makeFunc fn first cap).run Tryz.prog w = .ok (.func fn first cap) w := fun _ _ _ _ => rfl
  have HH := Hid.mk' h
  have HA := Hid.mk' ha
  have HS := Hid.mk' hs
  clear h ha hs
  go_enter Tryz.func104, Tryz.ntmps104
  go_wp2_with fail
  refine (attempt_u 130 #[.pointer (some ⟨g, 0, none⟩)] #[] g s a (a + (rdAt s a).2.2) (rdAt s a).1 (rdAt s a).2.1 w HH.out ?_ (fun w => ent_groups _ w) ?_).mono ?_
  · intro hE
    have := (Code.rd_err _ hE).2
    unfold rdAt
    omega
  · intro w1 hr1 ho1
    refine (groups_any g s a w1 hr1 HA.out HS.out).mono ?_
    rintro e w' ⟨he, a', ha', hr, ho, hE⟩
    exact ⟨he, a', hr, ho, hE⟩
  rintro e w2 ⟨rfl, hr2, ho2⟩
  have HR2 := Hid.mk' hr2
  have HO2 := Hid.mk' ho2
  clear hr2 ho2
  go_wp2_with fail
  go_ret2
  exact ⟨rfl, HR2.out, HO2.out⟩
set_option maxHeartbeats 1000000 in
theorem rint_any (g : Nat) (s : ByteArray) (a : Nat) (w : World) (h : Rdr g s a w) (ha : a ≤ s.size) (hs : s.size ≤ 1125899906842624) :
    Calls Tryz.prog 133 #[.pointer (some ⟨g, 0, none⟩)] w fun e w' => e = .returned (.tuple #[.int .i64 (Code.zag (rdAt s a).1), .int .i64 ((rdAt s a).2.1 : Int)]) ∧ Rdr g s (a + (rdAt s a).2.2) w' ∧ Only g w w' := by
  have hl := (rdAt_lt s a ha).1
  go_enter Tryz.func133, Tryz.ntmps133
  go_wp2_with fail
  refine (ruint_any g s a w h ha hs).mono ?_
  rintro e w2 ⟨rfl, hr2, ho2⟩
  have HR2 := Hid.mk' hr2
  have HO2 := Hid.mk' ho2
  obtain ⟨n, HN⟩ : ∃ n, Hid (n = (rdAt s a).1) := ⟨_, rfl⟩
  rw [← HN.out] at hl ⊢
  have n64 : (n : Int) < 18446744073709551616 := by omega
  have HL := Hid.mk' hl
  clear hr2 ho2 hl ha hs h
  obtain ⟨E, HE⟩ : ∃ E, Hid (E = (rdAt s a).2.1) := ⟨_, rfl⟩
  rw [← HE.out]
  by_cases h1 : n % 2 = 1
  · have hand : bits .and .u64 (n : Int) 1 = 1 := by
      rw [show (1 : Int) = ((1 : Nat) : Int) from rfl, u64_and_nat _ _ HL.out (by omega), Nat.and_one_is_mod, h1]
    have HZ : Hid (Code.zag n = -((n / 2 : Nat) : Int) - 1) := if_pos h1
    clear h1
    go_wp2_with fail
    go_ret2
    exact ⟨ret_tup2 (val_int (by rw [← HN.out, HZ.out]; omega)) (val_int (by rw [HE.out])), HR2.out, HO2.out⟩
  · have hand : bits .and .u64 (n : Int) 1 = 0 := by
      rw [show (1 : Int) = ((1 : Nat) : Int) from rfl, u64_and_nat _ _ HL.out (by omega), Nat.and_one_is_mod, show n % 2 = 0 by omega]
      rfl
    have HZ : Hid (Code.zag n = ((n / 2 : Nat) : Int)) := if_neg h1
    clear h1
    go_wp2_with fail
    go_ret2
    exact ⟨ret_tup2 (val_int (by rw [← HN.out, HZ.out]; omega)) (val_int (by rw [HE.out])), HR2.out, HO2.out⟩
end Go.Proofs.YtlplbnlfajdcbaaGreatDoor
