/-
  The walk of the law SwarMirror: whatever it is given it returns true, and of what was there nothing turns. Conditions: the text is no longer than any text that is read can be, the place is an int, bytes are bytes, the table of package math/bits lies as its text lays it.
-/
import Derived.Test.YthiabdpihnjkcaaDoorMirror
import Derived.Test.YthiabdpihnjkcaaDoorLast
import Derived.Test.YthiabdpihnjkcaaDoorCount
import Derived.Test.YthiabdpihnjkcaaDoorIndexOf
import Derived.Test.YthiabdpihnjkcaaDoorTurned
import Derived.Test.YthiabdpihnjkcaaDoorPick
namespace Go.Proofs.YthiabdpihnjkcaaDoor
open Go.RowKit
set_option linter.unusedVariables false
theorem bool_neq (w : World) (a b : Bool) : (binOp .neq 4 (.bool a) (.bool b)).run Tryd.prog w = .ok (.bool (a != b)) w := by
  cases a <;> cases b <;> kernel_rfl
theorem two_cells (b c : Nat) (w : World) (T : TypeId) (i : Nat) (hi : i < [b, c].length) : (w.alloc (.cells #[.int .u8 (b : Int), .int .u8 (c : Int)] T)).cell? ⟨w.heap.size, 0 + i, none⟩ = some (.int .u8 (([b, c].getD i 0 : Nat) : Int)) := by
  have h : i = 0 ∨ i = 1 := by simp at hi; omega
  rcases h with rfl | rfl <;> simp [go_sem]
theorem byte_same (a c : Nat) (h : a = c) : ((a : Int) != (c : Int)) = false := by simp [h]
set_option maxRecDepth 100000 in
set_option maxHeartbeats 4000000 in
theorem swarMirror_any (s : ByteArray) (b c : Nat) (a : Int) (w : World) (hs : s.size ≤ 140737488351232) (hbb : b < 256) (hcc : c < 256) (ha0 : -9223372036854775808 ≤ a) (ha : a ≤ 9223372036854775807) (ht : Tab w) :
    Calls Tryd.prog 8 #[.string s, .int .u8 (b : Int), .int .u8 (c : Int), .int .i64 a] w fun e w' => e = .returned (.bool true) ∧ Below w.heap.size w w' := by
  have hbn := bool_neq
  have hz2 : ∀ z ∈ [b, c], z < 256 := by intro z hz; simp at hz; omega
  go_enter Tryd.func8, Tryd.ntmps8
  go_wp2_with fail
  refine (turned_any s _ hs).mono ?_
  rintro e w1 ⟨⟨r, hr, HR, rfl⟩, hb1⟩
  have HRS : Hid (r.size = s.size) := hr
  have hrs : r.size ≤ 140737488351232 := by omega
  clear hr
  have ht1 : Tab w1 := ht.below hb1
  go_wp2_with fail
  refine (pick_any a ((s.size : Int) + 1) _ (by omega) (by omega) ha0 ha).mono ?_
  rintro e V ⟨⟨m, hm, rfl⟩, rfl⟩
  go_wp2_with fail
  refine (last_any s b (m : Int) _ (by omega) hbb (by omega) (by omega)).mono ?_
  rintro e w2 ⟨rfl, k1, rfl⟩
  have hmm : (min (m : Int) (s.size : Int)).toNat = m := by omega
  rw [hmm]
  clear hmm
  go_wp2_with fail
  refine (index_any r b ((s.size : Int) - (m : Int)) _ (by omega) hbb (by omega) (by omega) (ht1.drewN _)).mono ?_
  rintro e w2 ⟨rfl, k2, rfl⟩
  have hsm : ((s.size : Int) - (m : Int)).toNat = s.size - m := by omega
  rw [hsm]
  clear hsm
  rcases Swar.mirror s r b m HRS.out HR.out (by omega) with ⟨f1, f2⟩ | ⟨p, q, hp, f1, f2, hq⟩
  · rw [f1, f2]
    clear f1 f2
    go_wp2_with fail
    refine (index_any s b 0 _ (by omega) hbb (by omega) (by omega) (ht1.drewN _)).mono ?_
    rintro e w' ⟨rfl, k0, rfl⟩
    rw [show Int.toNat 0 = 0 from rfl]
    go_wp2_with fail
    go_loopw [13, 14] (fun t i wr => ∃ p n : Nat, p ≤ s.size ∧ t = .int .i64 (Swar.cntL s b p : Nat) ∧ i = .int .i64 (Swar.idxL s b p) ∧ wr = V.drewN n) (fun t _ _ => s.size + 1 - (intOf t).toNat)
    case atStart => exact ⟨0, k1 + k2 + k0, by omega, rfl, rfl, rfl⟩
    case round =>
      obtain ⟨p', n, hp', rfl, rfl, rfl⟩ := hrel
      have hcl := Swar.cnt_le s b p'
      rcases Swar.next_one s b p' hp' with ⟨f1, f2⟩ | ⟨q9, r1, r2, f1, f3, f4⟩
      · rw [f1]
        have HCN : Hid (Swar.cntL s b s.size = Swar.cntL s b p') := f2
        have HC2 : Hid (Swar.cntL (s ++ r) b (s ++ r).size = 2 * Swar.cntL s b p') := by
          show _ = _
          rw [show (s ++ r).size = s.size + r.size by simp, Swar.cnt_app s r b r.size, Swar.cnt_rev s r b HRS.out HR.out, f2]
          omega
        obtain ⟨t, t1, t0, hcv1⟩ := conv_one b hbb
        have HC3 : Hid (Swar.cntL (s ++ t) b (s ++ t).size = Swar.cntL s b p' + 1) := by show _ = _; rw [Swar.cnt_more s t b t1 t0, f2]
        have hcv0 : Hid (∀ (n : Nat) (w : World), (convert 29 9 (.slice (some ⟨w.heap.size, 0, none⟩) 1 1)).run Tryd.prog ((w.drewN n).alloc (.cells #[.int .u8 (b : Int)] 5)) = .ok (.string t) ((w.drewN n).alloc (.cells #[.int .u8 (b : Int)] 5))) := hcv1
        have y1 : (s ++ r).size ≤ 1125899906842624 := by simp; omega
        have y2 : (s ++ t).size ≤ 1125899906842624 := by simp; omega
        have a1 : s.size + r.size ≤ 9223372036854775807 := by omega
        have a2 : s.size + t.size ≤ 9223372036854775807 := by omega
        clear f1 f2 t1 t0 hcv1
        generalize Swar.cntL s b p' = N at *
        go_wp2_with fail
        refine (index_any s b (m : Int) _ (by omega) hbb (by omega) (by omega) (ht1.drewN _)).mono ?_
        rintro e w' ⟨rfl, k3, rfl⟩
        rw [Int.toNat_natCast]
        go_wp2_with fail
        refine (index_any s c (m : Int) _ (by omega) hcc (by omega) (by omega) (ht1.drewN _)).mono ?_
        rintro e w' ⟨rfl, k4, rfl⟩
        rw [Int.toNat_natCast]
        have hbV : Below w.heap.size w (V.drewN (n + k3 + k4)) := below_drewN hb1 _
        go_wp2_with fail
        refine (indexOf_any s (m : Int) V.heap.size 0 2 [b, c] _ (by omega) (by omega) (by omega) hz2 (by simp) (by exact fun i hi => two_cells b c (V.drewN (n + k3 + k4)) 5 i hi)).mono ?_
        rintro e U ⟨rfl, hbU0⟩
        rw [Int.toNat_natCast]
        have hbU : Below w.heap.size w U := (hbV.alloc hbV.size _).trans (hbU0.mono (Nat.le_trans hbV.size (by simp)))
        clear hbU0 hbV
        have HZ : Hid (idxS s [b, c] m = if Swar.idxL s b m < 0 ∨ (0 ≤ Swar.idxL s c m ∧ Swar.idxL s c m < Swar.idxL s b m) then Swar.idxL s c m else Swar.idxL s b m) := Swar.first_of_two s b c (s.size - m) m
        generalize Swar.idxL s b m = X at *
        generalize Swar.idxL s c m = Y at *
        by_cases x1 : X < 0
        · have HZ1 : Hid (idxS s [b, c] m = Y) := by show _ = _; rw [HZ.out, if_pos (.inl x1)]
          rw [HZ1.out]
          have d1 : decide (X < 0) = true := decide_eq_true x1
          clear HZ HZ1
          go_wp2_with fail
          refine (count_any s b _ (by omega) hbb).mono ?_
          rintro e w' ⟨rfl, k5, rfl⟩
          rw [HCN.out]
          go_wp2_with fail
          refine (count_any (s ++ r) b _ y1 hbb).mono ?_
          rintro e w' ⟨rfl, k6, rfl⟩
          rw [HC2.out]
          have hcv := hcv0.out (k5 + k6) U
          go_wp2_with fail
          refine (count_any (s ++ t) b _ y2 hbb).mono ?_
          rintro e w' ⟨rfl, k7, rfl⟩
          rw [HC3.out]
          go_wp2_with fail
          go_ret
          exact ⟨rfl, below_drewN ((below_drewN hbU _).alloc hbU.size _) _⟩
        · have d1 : decide (X < 0) = false := decide_eq_false x1
          by_cases y0 : 0 ≤ Y
          · have d2 : decide (0 ≤ Y) = true := decide_eq_true y0
            by_cases yx : Y < X
            · have HZ1 : Hid (idxS s [b, c] m = Y) := by show _ = _; rw [HZ.out, if_pos (.inr ⟨y0, yx⟩)]
              rw [HZ1.out]
              have d3 : decide (Y < X) = true := decide_eq_true yx
              clear HZ HZ1
              go_wp2_with fail
              refine (count_any s b _ (by omega) hbb).mono ?_
              rintro e w' ⟨rfl, k5, rfl⟩
              rw [HCN.out]
              go_wp2_with fail
              refine (count_any (s ++ r) b _ y1 hbb).mono ?_
              rintro e w' ⟨rfl, k6, rfl⟩
              rw [HC2.out]
              have hcv := hcv0.out (k5 + k6) U
              go_wp2_with fail
              refine (count_any (s ++ t) b _ y2 hbb).mono ?_
              rintro e w' ⟨rfl, k7, rfl⟩
              rw [HC3.out]
              go_wp2_with fail
              go_ret
              exact ⟨rfl, below_drewN ((below_drewN hbU _).alloc hbU.size _) _⟩
            · have HZ1 : Hid (idxS s [b, c] m = X) := by show _ = _; rw [HZ.out, if_neg (by omega)]
              rw [HZ1.out]
              have d3 : decide (Y < X) = false := decide_eq_false yx
              clear HZ HZ1
              go_wp2_with fail
              refine (count_any s b _ (by omega) hbb).mono ?_
              rintro e w' ⟨rfl, k5, rfl⟩
              rw [HCN.out]
              go_wp2_with fail
              refine (count_any (s ++ r) b _ y1 hbb).mono ?_
              rintro e w' ⟨rfl, k6, rfl⟩
              rw [HC2.out]
              have hcv := hcv0.out (k5 + k6) U
              go_wp2_with fail
              refine (count_any (s ++ t) b _ y2 hbb).mono ?_
              rintro e w' ⟨rfl, k7, rfl⟩
              rw [HC3.out]
              go_wp2_with fail
              go_ret
              exact ⟨rfl, below_drewN ((below_drewN hbU _).alloc hbU.size _) _⟩
          · have HZ1 : Hid (idxS s [b, c] m = X) := by show _ = _; rw [HZ.out, if_neg (by omega)]
            rw [HZ1.out]
            have d2 : decide (0 ≤ Y) = false := decide_eq_false y0
            clear HZ HZ1
            go_wp2_with fail
            refine (count_any s b _ (by omega) hbb).mono ?_
            rintro e w' ⟨rfl, k5, rfl⟩
            rw [HCN.out]
            go_wp2_with fail
            refine (count_any (s ++ r) b _ y1 hbb).mono ?_
            rintro e w' ⟨rfl, k6, rfl⟩
            rw [HC2.out]
            have hcv := hcv0.out (k5 + k6) U
            go_wp2_with fail
            refine (count_any (s ++ t) b _ y2 hbb).mono ?_
            rintro e w' ⟨rfl, k7, rfl⟩
            rw [HC3.out]
            go_wp2_with fail
            go_ret
            exact ⟨rfl, below_drewN ((below_drewN hbU _).alloc hbU.size _) _⟩
      · rw [f1]
        have HF4 : Hid (Swar.cntL s b (q9 + 1) = Swar.cntL s b p' + 1) := f4
        have e1 : (0 : Int) ≤ (q9 : Int) := by omega
        have e2 : ((Swar.cntL s b p' : Nat) : Int) ≤ (s.size : Int) := by omega
        have e3 : ¬ ((s.size : Int) ≤ (q9 : Int)) := by omega
        have e4 := byte_same (s[q9]'r2).toNat b (by rw [← Swar.bt_in r2]; exact f3)
        clear f1 f3 f4
        go_wp2_with fail
        refine (index_any s b ((q9 : Int) + 1) _ (by omega) hbb (by omega) (by omega) (ht1.drewN _)).mono ?_
        rintro e w' ⟨rfl, k3, rfl⟩
        rw [show ((q9 : Int) + 1).toNat = q9 + 1 by omega]
        go_wp2_with fail
        go_roundw
        case rel => exact ⟨q9 + 1, n + k3, by omega, by rw [HF4.out]; go_num, rfl, rfl⟩
        case measure => simp [intOf]; omega
  · rw [f1, f2]
    have g1 : (0 : Int) ≤ (p : Int) := by omega
    have g2 : (0 : Int) ≤ (q : Int) := by omega
    have g3 : ((q : Int) != (s.size : Int) - 1 - (p : Int)) = false := by simp; omega
    have g4 : decide ((q : Int) < 0) = false := decide_eq_false (by omega)
    have g5 : decide ((p : Int) < 0) = false := decide_eq_false (by omega)
    clear f1 f2 hq
    go_wp2_with fail
    refine (index_any s b 0 _ (by omega) hbb (by omega) (by omega) (ht1.drewN _)).mono ?_
    rintro e w' ⟨rfl, k0, rfl⟩
    rw [show Int.toNat 0 = 0 from rfl]
    go_wp2_with fail
    go_loopw [13, 14] (fun t i wr => ∃ p n : Nat, p ≤ s.size ∧ t = .int .i64 (Swar.cntL s b p : Nat) ∧ i = .int .i64 (Swar.idxL s b p) ∧ wr = V.drewN n) (fun t _ _ => s.size + 1 - (intOf t).toNat)
    case atStart => exact ⟨0, k1 + k2 + k0, by omega, rfl, rfl, rfl⟩
    case round =>
      obtain ⟨p', n, hp', rfl, rfl, rfl⟩ := hrel
      have hcl := Swar.cnt_le s b p'
      rcases Swar.next_one s b p' hp' with ⟨f1, f2⟩ | ⟨q9, r1, r2, f1, f3, f4⟩
      · rw [f1]
        have HCN : Hid (Swar.cntL s b s.size = Swar.cntL s b p') := f2
        have HC2 : Hid (Swar.cntL (s ++ r) b (s ++ r).size = 2 * Swar.cntL s b p') := by
          show _ = _
          rw [show (s ++ r).size = s.size + r.size by simp, Swar.cnt_app s r b r.size, Swar.cnt_rev s r b HRS.out HR.out, f2]
          omega
        obtain ⟨t, t1, t0, hcv1⟩ := conv_one b hbb
        have HC3 : Hid (Swar.cntL (s ++ t) b (s ++ t).size = Swar.cntL s b p' + 1) := by show _ = _; rw [Swar.cnt_more s t b t1 t0, f2]
        have hcv0 : Hid (∀ (n : Nat) (w : World), (convert 29 9 (.slice (some ⟨w.heap.size, 0, none⟩) 1 1)).run Tryd.prog ((w.drewN n).alloc (.cells #[.int .u8 (b : Int)] 5)) = .ok (.string t) ((w.drewN n).alloc (.cells #[.int .u8 (b : Int)] 5))) := hcv1
        have y1 : (s ++ r).size ≤ 1125899906842624 := by simp; omega
        have y2 : (s ++ t).size ≤ 1125899906842624 := by simp; omega
        have a1 : s.size + r.size ≤ 9223372036854775807 := by omega
        have a2 : s.size + t.size ≤ 9223372036854775807 := by omega
        clear f1 f2 t1 t0 hcv1
        generalize Swar.cntL s b p' = N at *
        go_wp2_with fail
        refine (index_any s b (m : Int) _ (by omega) hbb (by omega) (by omega) (ht1.drewN _)).mono ?_
        rintro e w' ⟨rfl, k3, rfl⟩
        rw [Int.toNat_natCast]
        go_wp2_with fail
        refine (index_any s c (m : Int) _ (by omega) hcc (by omega) (by omega) (ht1.drewN _)).mono ?_
        rintro e w' ⟨rfl, k4, rfl⟩
        rw [Int.toNat_natCast]
        have hbV : Below w.heap.size w (V.drewN (n + k3 + k4)) := below_drewN hb1 _
        go_wp2_with fail
        refine (indexOf_any s (m : Int) V.heap.size 0 2 [b, c] _ (by omega) (by omega) (by omega) hz2 (by simp) (by exact fun i hi => two_cells b c (V.drewN (n + k3 + k4)) 5 i hi)).mono ?_
        rintro e U ⟨rfl, hbU0⟩
        rw [Int.toNat_natCast]
        have hbU : Below w.heap.size w U := (hbV.alloc hbV.size _).trans (hbU0.mono (Nat.le_trans hbV.size (by simp)))
        clear hbU0 hbV
        have HZ : Hid (idxS s [b, c] m = if Swar.idxL s b m < 0 ∨ (0 ≤ Swar.idxL s c m ∧ Swar.idxL s c m < Swar.idxL s b m) then Swar.idxL s c m else Swar.idxL s b m) := Swar.first_of_two s b c (s.size - m) m
        generalize Swar.idxL s b m = X at *
        generalize Swar.idxL s c m = Y at *
        by_cases x1 : X < 0
        · have HZ1 : Hid (idxS s [b, c] m = Y) := by show _ = _; rw [HZ.out, if_pos (.inl x1)]
          rw [HZ1.out]
          have d1 : decide (X < 0) = true := decide_eq_true x1
          clear HZ HZ1
          go_wp2_with fail
          refine (count_any s b _ (by omega) hbb).mono ?_
          rintro e w' ⟨rfl, k5, rfl⟩
          rw [HCN.out]
          go_wp2_with fail
          refine (count_any (s ++ r) b _ y1 hbb).mono ?_
          rintro e w' ⟨rfl, k6, rfl⟩
          rw [HC2.out]
          have hcv := hcv0.out (k5 + k6) U
          go_wp2_with fail
          refine (count_any (s ++ t) b _ y2 hbb).mono ?_
          rintro e w' ⟨rfl, k7, rfl⟩
          rw [HC3.out]
          go_wp2_with fail
          go_ret
          exact ⟨rfl, below_drewN ((below_drewN hbU _).alloc hbU.size _) _⟩
        · have d1 : decide (X < 0) = false := decide_eq_false x1
          by_cases y0 : 0 ≤ Y
          · have d2 : decide (0 ≤ Y) = true := decide_eq_true y0
            by_cases yx : Y < X
            · have HZ1 : Hid (idxS s [b, c] m = Y) := by show _ = _; rw [HZ.out, if_pos (.inr ⟨y0, yx⟩)]
              rw [HZ1.out]
              have d3 : decide (Y < X) = true := decide_eq_true yx
              clear HZ HZ1
              go_wp2_with fail
              refine (count_any s b _ (by omega) hbb).mono ?_
              rintro e w' ⟨rfl, k5, rfl⟩
              rw [HCN.out]
              go_wp2_with fail
              refine (count_any (s ++ r) b _ y1 hbb).mono ?_
              rintro e w' ⟨rfl, k6, rfl⟩
              rw [HC2.out]
              have hcv := hcv0.out (k5 + k6) U
              go_wp2_with fail
              refine (count_any (s ++ t) b _ y2 hbb).mono ?_
              rintro e w' ⟨rfl, k7, rfl⟩
              rw [HC3.out]
              go_wp2_with fail
              go_ret
              exact ⟨rfl, below_drewN ((below_drewN hbU _).alloc hbU.size _) _⟩
            · have HZ1 : Hid (idxS s [b, c] m = X) := by show _ = _; rw [HZ.out, if_neg (by omega)]
              rw [HZ1.out]
              have d3 : decide (Y < X) = false := decide_eq_false yx
              clear HZ HZ1
              go_wp2_with fail
              refine (count_any s b _ (by omega) hbb).mono ?_
              rintro e w' ⟨rfl, k5, rfl⟩
              rw [HCN.out]
              go_wp2_with fail
              refine (count_any (s ++ r) b _ y1 hbb).mono ?_
              rintro e w' ⟨rfl, k6, rfl⟩
              rw [HC2.out]
              have hcv := hcv0.out (k5 + k6) U
              go_wp2_with fail
              refine (count_any (s ++ t) b _ y2 hbb).mono ?_
              rintro e w' ⟨rfl, k7, rfl⟩
              rw [HC3.out]
              go_wp2_with fail
              go_ret
              exact ⟨rfl, below_drewN ((below_drewN hbU _).alloc hbU.size _) _⟩
          · have HZ1 : Hid (idxS s [b, c] m = X) := by show _ = _; rw [HZ.out, if_neg (by omega)]
            rw [HZ1.out]
            have d2 : decide (0 ≤ Y) = false := decide_eq_false y0
            clear HZ HZ1
            go_wp2_with fail
            refine (count_any s b _ (by omega) hbb).mono ?_
            rintro e w' ⟨rfl, k5, rfl⟩
            rw [HCN.out]
            go_wp2_with fail
            refine (count_any (s ++ r) b _ y1 hbb).mono ?_
            rintro e w' ⟨rfl, k6, rfl⟩
            rw [HC2.out]
            have hcv := hcv0.out (k5 + k6) U
            go_wp2_with fail
            refine (count_any (s ++ t) b _ y2 hbb).mono ?_
            rintro e w' ⟨rfl, k7, rfl⟩
            rw [HC3.out]
            go_wp2_with fail
            go_ret
            exact ⟨rfl, below_drewN ((below_drewN hbU _).alloc hbU.size _) _⟩
      · rw [f1]
        have HF4 : Hid (Swar.cntL s b (q9 + 1) = Swar.cntL s b p' + 1) := f4
        have e1 : (0 : Int) ≤ (q9 : Int) := by omega
        have e2 : ((Swar.cntL s b p' : Nat) : Int) ≤ (s.size : Int) := by omega
        have e3 : ¬ ((s.size : Int) ≤ (q9 : Int)) := by omega
        have e4 := byte_same (s[q9]'r2).toNat b (by rw [← Swar.bt_in r2]; exact f3)
        clear f1 f3 f4
        go_wp2_with fail
        refine (index_any s b ((q9 : Int) + 1) _ (by omega) hbb (by omega) (by omega) (ht1.drewN _)).mono ?_
        rintro e w' ⟨rfl, k3, rfl⟩
        rw [show ((q9 : Int) + 1).toNat = q9 + 1 by omega]
        go_wp2_with fail
        go_roundw
        case rel => exact ⟨q9 + 1, n + k3, by omega, by rw [HF4.out]; go_num, rfl, rfl⟩
        case measure => simp [intOf]; omega
end Go.Proofs.YthiabdpihnjkcaaDoor
