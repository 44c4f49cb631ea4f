/-
  The walk of the law SumsPieces: whatever it is given it returns true, and of what was there nothing turns. Conditions: the seed is of 32 bits, texts and lists are no longer than what is read can be, the table of package sums lies as its text lays it.
-/
import Derived.Test.YtnbcmobdenjjfabDoorHashZ
import Derived.Test.YtnbcmobdenjjfabDoorPick2
import Derived.Deep.RegionHeld
import Derived.Laws.Strings
namespace Go.Proofs.YtnbcmobdenjjfabDoor
open Go.RowKit
set_option linter.unusedVariables false
theorem extract_all (s : ByteArray) : s.extract 0 s.size = s := by
  apply Sums.bl_inj
  rw [Sums.bl_drop, List.drop_zero]
theorem ex_some (s : ByteArray) (P : Nat) (h : P < s.size) : ((s.extract P s.size).toList == []) = false := by
  apply beq_eq_false_iff_ne.2
  intro e
  have : (s.extract P s.size).size = 0 := by
    rw [ByteArray.toList_eq] at e
    have h2 : (s.extract P s.size).data = #[] := Array.toList_eq_nil_iff.1 e
    show (s.extract P s.size).data.size = 0
    rw [h2]; rfl
  simp at this
  omega
theorem ex_none (s : ByteArray) (P : Nat) (h : ¬ P < s.size) : ((s.extract P s.size).toList == []) = true := by
  have : (s.extract P s.size).size = 0 := by simp; omega
  rw [ByteArray.toList_eq]
  have h2 : (s.extract P s.size).data = #[] := Array.eq_empty_of_size_eq_zero this
  rw [h2]; rfl
theorem ex_ex (s : ByteArray) (P k n : Nat) (h : n = s.size - P) : (s.extract P s.size).extract k n = s.extract (P + k) s.size := by
  apply Sums.bl_inj
  subst h
  rw [Sums.bl_extract, Sums.bl_drop, Sums.bl_drop, List.take_of_length_le (by rw [List.length_drop, Sums.bl_length]; omega), List.drop_drop]
theorem ex_to (s : ByteArray) (P k : Nat) : (Sums.bl s).take P ++ Sums.bl ((s.extract P s.size).extract 0 k) = (Sums.bl s).take (P + k) := by
  rw [Sums.bl_take, Sums.bl_drop, List.take_add]
set_option maxRecDepth 100000 in
set_option maxHeartbeats 20000000 in
theorem sumsPieces_any (seed : Nat) (b s : ByteArray) (p : Option Addr) (cap : Nat) (L : List Int) (q : Option Addr) (qcap : Nat) (A : List Bool) (w : World) (hq : seed < 4294967296) (hb : b.size ≤ 140737488351232) (hs : s.size ≤ 140737488351232) (hL : L.length ≤ 140737488351232)
    (hz : ∀ z ∈ L, -9223372036854775808 ≤ z ∧ z ≤ 9223372036854775807) (hc : ∀ i, i < L.length → ∃ g off, p = some ⟨g, off, none⟩ ∧ w.cell? ⟨g, off + i, none⟩ = some (.int .i64 (L.getD i 0)))
    (hA : A.length ≤ 140737488351232) (hd : ∀ i, i < A.length → ∃ g off, q = some ⟨g, off, none⟩ ∧ w.cell? ⟨g, off + i, none⟩ = some (.bool (A.getD i false))) (ht : Tab w) :
    Calls Tryd.prog 6 #[.int .u32 (seed : Int), .string b, .string s, .slice p L.length cap, .slice q A.length qcap] w fun e w' => e = .returned (.bool true) ∧ Below w.heap.size w w' := by
  have HC := Hid.mk' hc
  have HZ := Hid.mk' hz
  have HD := Hid.mk' hd
  clear hc hz hd
  go_enter Tryd.func6, Tryd.ntmps6
  go_wp2_with fail
  refine (examples_any _ ht).mono ?_
  rintro e w1 ⟨rfl, B1⟩
  have HB1 := Hid.mk' B1
  clear B1
  go_wp2_with fail
  refine (hnew_any seed _ hq).mono ?_
  rintro e w2 ⟨g, hg0, rfl, hi2, B2⟩
  have hg : w.heap.size ≤ g := Nat.le_trans HB1.out.size hg0
  have HB2 : Hid (Below w.heap.size w w2) := HB1.out.trans (B2.mono HB1.out.size)
  have HI2 := Hid.mk' hi2
  clear B2 HB1 hi2 hg0
  go_wp2_with fail
  refine (write_any g seed [] b _ hq (by simp; omega) HI2.out).mono ?_
  rintro e w3 ⟨rfl, hi3, O3⟩
  rw [List.nil_append] at hi3
  have HB3 : Hid (Below w.heap.size w w3) := HB2.out.trans (O3.below hg HB2.out.size)
  have HI3 := Hid.mk' hi3
  clear O3 hi3 HB2 HI2
  go_wp2_with fail
  refine (sum_any g seed (Sums.bl b) _ hq (by rw [Sums.bl_length]; omega) HI3.out).mono ?_
  rintro e w4 ⟨rfl, n4, rfl⟩
  go_wp2_with fail
  refine (xx32_any seed b _ hq (by unfold maxLen; omega)).mono ?_
  rintro e w5 ⟨rfl, B5⟩
  have HB5 : Hid (Below w.heap.size w w5) := (HB3.out.drewN' n4).trans (B5.mono HB3.out.size)
  have HI5 : Hid (HashIs g seed (Sums.bl b) w5) := (HI3.out.drewN n4).below B5 HI3.out.lt
  clear B5 HB3 HI3
  go_wp2_with fail
  refine (reset_any g seed _ _ hq HI5.out).mono ?_
  rintro e w6 ⟨rfl, hi6, O6⟩
  have HB6 : Hid (Below w.heap.size w w6) := HB5.out.trans (O6.below hg HB5.out.size)
  have HI6 := Hid.mk' hi6
  clear O6 hi6 HB5 HI5
  go_wp2_with fail
  go_loopw [13, 14] (fun x y wr => ∃ i P : Nat, i ≤ L.length ∧ P ≤ s.size ∧ x = .string (s.extract P s.size) ∧ y = .int .i64 (i : Int) ∧ Hid (HashIs g seed ((Sums.bl s).take P) wr) ∧ Hid (Below w.heap.size w wr)) (fun _ y _ => L.length - (intOf y).toNat)
  case atStart => exact ⟨0, 0, by omega, by omega, by rw [extract_all], rfl, HI6, HB6⟩
  case round =>
    clear HI6 HB6
    obtain ⟨i, P, hi, hP, rfl, rfl, HI, HB⟩ := hrel
    by_cases q1 : i < L.length
    · have r1 : (i : Int) < (L.length : Int) := by omega
      by_cases q2 : P < s.size
      · have r2 : ((s.extract P s.size).toList == []) = false := ex_some s P q2
        have r3 : (s.extract P s.size).size = s.size - P := by simp
        obtain ⟨pg, off, rfl, hcell⟩ := HC.out i q1
        have hpb : pg < w.heap.size := World.block_lt_of_cell? w _ hcell
        have c1 : wr.cell? ⟨pg, off + i, none⟩ = some (.int .i64 (L.getD i 0)) := by rw [HB.out.cell hpb]; exact hcell
        have hzi := HZ.out (L.getD i 0) (by rw [List.getD_eq_getElem?_getD, List.getElem?_eq_getElem q1]; exact List.getElem_mem q1)
        generalize L.getD i 0 = z at *
        clear hcell
        go_wp2_with fail
        refine (pick_any z _ _ (by omega) (by omega) hzi.1 hzi.2).mono ?_
        rintro e w7 ⟨⟨k, hk, rfl⟩, rfl⟩
        clear c1 hzi
        have hk2 : k ≤ s.size - P := by omega
        have hk3 : (k : Int) ≤ ((s.size - P : Nat) : Int) := by omega
        have hk4 : (0 : Int) ≤ (k : Int) := by omega
        have hk5 : k ≤ (s.extract P s.size).size := by rw [r3]; exact hk2
        go_wp2_with fail
        refine (write_any g seed ((Sums.bl s).take P) ((s.extract P s.size).extract 0 k) _ hq (by rw [List.length_take, Sums.bl_length]; simp only [ByteArray.size_extract]; omega) HI.out).mono ?_
        rintro e w8 ⟨rfl, hi8, O8⟩
        rw [ex_to] at hi8
        have HB8 : Hid (Below w.heap.size w w8) := HB.out.trans (O8.below hg HB.out.size)
        have HI8 := Hid.mk' hi8
        have EX := Hid.mk' (ex_ex s P k (s.size - P) rfl)
        have hPk : P + k ≤ s.size := by omega
        clear O8 hi8 HB HI
        obtain ⟨M, hM⟩ : ∃ M, M = P + k := ⟨_, rfl⟩
        obtain ⟨R, HR⟩ : ∃ R, Hid (R = s.extract M s.size) := ⟨_, Hid.mk' rfl⟩
        have HEX : Hid ((s.extract P s.size).extract k (s.size - P) = R) := by
          show _ = _
          rw [HR.out, hM]; exact EX.out
        rw [← hM] at HI8 hPk
        have HRS : Hid (R.size = s.size - M) := by
          show _ = _
          rw [HR.out]; simp
        have HFR : Hid (Sums.bl (s.extract 0 M) = (Sums.bl s).take M) := Sums.bl_take s M
        clear EX hM
        have hMl : ((Sums.bl s).take M).length < 9223372036854775808 := by rw [List.length_take, Sums.bl_length]; omega
        have hMlen : Hid (((Sums.bl s).take M).length = M) := by
          show _ = _
          rw [List.length_take, Sums.bl_length]; omega
        have hwrap : IntKind.i64.wrap ((s.size : Int) - (R.size : Int)) = (M : Int) := by
          have := HRS.out
          rw [IntKind.wrap_i64]; omega
        have hsub : (s.size : Int) - (R.size : Int) = (M : Int) := by have := HRS.out; omega
        have hzM : (s.extract 0 M).size ≤ maxLen := by unfold maxLen; simp only [ByteArray.size_extract]; omega
        have hwrapM : IntKind.i64.wrap (M : Int) = (M : Int) := by rw [IntKind.wrap_i64]; omega
        have hM0 : (0 : Int) ≤ (M : Int) := by omega
        have hM1 : (M : Int) ≤ (s.size : Int) := by omega
        by_cases q3 : i < A.length
        · have r4 : (i : Int) < (A.length : Int) := by omega
          obtain ⟨qg, qoff, rfl, hcell2⟩ := HD.out i q3
          have hqb : qg < w.heap.size := World.block_lt_of_cell? w _ hcell2
          have c2 : w8.cell? ⟨qg, qoff + i, none⟩ = some (.bool (A.getD i false)) := by rw [HB8.out.cell hqb]; exact hcell2
          clear hcell2
          cases hv : A.getD i false with
          | false =>
              rw [hv] at c2
              clear hv
              go_wp2_with fail
              rw [HEX.out]
              go_quiet (fail)
              go_wp2_with fail
              go_roundw
              case rel => exact ⟨i + 1, M, by omega, hPk, by rw [HR.out], by go_num, HI8.out.drewN _, HB8.out.drewN' _⟩
              case measure => simp [intOf]; omega
          | true =>
              rw [hv] at c2
              clear hv
              go_wp2_with fail
              rw [HEX.out]
              have hqb8 : qg < w8.heap.size := Nat.lt_of_lt_of_le hqb HB8.out.size
              go_region_held (fun W => W.cell? ⟨qg, qoff + i, none⟩ = some (.bool true)) (first | exact c2 | exact c2x) ((first | (go_at_call 15; refine (sum_any g seed ((Sums.bl s).take M) _ hq hMl (by exact HI8.out.heap rfl)).mono ?_; rintro e w9 ⟨rfl, n9, rfl⟩) | (go_at_call 10; refine (xx32_any seed (s.extract 0 M) _ hq hzM).mono ?_; rintro e wA ⟨rfl, BA⟩; rw [HFR.out]; have c2x : wA.cell? ⟨qg, qoff + i, none⟩ = some (.bool true) := (BA.cell (by exact hqb8)).trans c2; have HIA : Hid (HashIs g seed ((Sums.bl s).take M) wA) := HashIs.below (HashIs.heap (w' := w8) HI8.out rfl) (B := w8.heap.size) (by exact ⟨BA.os, BA.tape, BA.output, BA.size, BA.block⟩) HI8.out.lt; have HBA : Hid (Below w.heap.size w wA) := HB8.out.trans (Below.mono (by exact ⟨BA.os, BA.tape, BA.output, BA.size, BA.block⟩) HB8.out.size); clear BA) | (go_at_call 17; refine (hlen_any g seed ((Sums.bl s).take M) _ HIA.out).mono ?_; rintro e wB ⟨rfl, rfl⟩; rw [hMlen.out])))
              all_goals
                go_wp2_with fail
                go_roundw
                case rel => exact ⟨i + 1, M, by omega, hPk, by rw [HR.out], by go_num, HIA, HBA⟩
                case measure => simp [intOf]; omega
        · have r4 : ¬ (i : Int) < (A.length : Int) := by omega
          go_wp2_with fail
          rw [HEX.out]
          go_quiet (fail)
          go_wp2_with fail
          go_roundw
          case rel => exact ⟨i + 1, M, by omega, hPk, by rw [HR.out], by go_num, HI8.out.drewN _, HB8.out.drewN' _⟩
          case measure => simp [intOf]; omega
      · have r2 : ((s.extract P s.size).toList == []) = true := ex_none s P q2
        go_wp2_with fail
        refine (write_any g seed ((Sums.bl s).take P) (s.extract P s.size) _ hq (by rw [List.length_take, Sums.bl_length]; simp only [ByteArray.size_extract]; omega) HI.out).mono ?_
        rintro e w7 ⟨rfl, hi7, O7⟩
        rw [Sums.bl_drop, List.take_append_drop] at hi7
        have HB7 : Hid (Below w.heap.size w w7) := HB.out.trans (O7.below hg HB.out.size)
        have HI7 := Hid.mk' hi7
        clear O7 hi7 HB HI
        go_wp2_with fail
        refine (sum_any g seed (Sums.bl s) _ hq (by rw [Sums.bl_length]; omega) HI7.out).mono ?_
        rintro e w8 ⟨rfl, n8, rfl⟩
        go_wp2_with fail
        refine (xx32_any seed s _ hq (by unfold maxLen; omega)).mono ?_
        rintro e w9 ⟨rfl, B9⟩
        have HB9 : Hid (Below w.heap.size w w9) := (HB7.out.drewN' n8).trans (B9.mono HB7.out.size)
        have HI9 : Hid (HashIs g seed (Sums.bl s) w9) := (HI7.out.drewN n8).below B9 HI7.out.lt
        clear B9 HB7 HI7
        go_wp2_with fail
        refine (hlen_any g seed _ _ HI9.out).mono ?_
        rintro e w9 ⟨rfl, rfl⟩
        rw [Sums.bl_length]
        go_wp2_with fail
        go_ret
        exact ⟨rfl, HB9.out⟩
    · have r1 : ¬ (i : Int) < (L.length : Int) := by omega
      go_wp2_with fail
      refine (write_any g seed ((Sums.bl s).take P) (s.extract P s.size) _ hq (by rw [List.length_take, Sums.bl_length]; simp only [ByteArray.size_extract]; omega) HI.out).mono ?_
      rintro e w7 ⟨rfl, hi7, O7⟩
      rw [Sums.bl_drop, List.take_append_drop] at hi7
      have HB7 : Hid (Below w.heap.size w w7) := HB.out.trans (O7.below hg HB.out.size)
      have HI7 := Hid.mk' hi7
      clear O7 hi7 HB HI
      go_wp2_with fail
      refine (sum_any g seed (Sums.bl s) _ hq (by rw [Sums.bl_length]; omega) HI7.out).mono ?_
      rintro e w8 ⟨rfl, n8, rfl⟩
      go_wp2_with fail
      refine (xx32_any seed s _ hq (by unfold maxLen; omega)).mono ?_
      rintro e w9 ⟨rfl, B9⟩
      have HB9 : Hid (Below w.heap.size w w9) := (HB7.out.drewN' n8).trans (B9.mono HB7.out.size)
      have HI9 : Hid (HashIs g seed (Sums.bl s) w9) := (HI7.out.drewN n8).below B9 HI7.out.lt
      clear B9 HB7 HI7
      go_wp2_with fail
      refine (hlen_any g seed _ _ HI9.out).mono ?_
      rintro e w9 ⟨rfl, rfl⟩
      rw [Sums.bl_length]
      go_wp2_with fail
      go_ret
      exact ⟨rfl, HB9.out⟩
end Go.Proofs.YtnbcmobdenjjfabDoor
