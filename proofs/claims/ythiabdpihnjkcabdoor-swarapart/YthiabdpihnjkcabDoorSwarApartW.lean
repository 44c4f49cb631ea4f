/-
  The walk of the law SwarApart: whatever it is given it returns true, and of what was there nothing turns. Conditions: the text is no longer than any text that is read can be, numbers are ints, bytes are bytes, the table of package math/bits lies as its text lays it.
-/
import Derived.Test.YthiabdpihnjkcabDoorPairB
import Derived.Test.YthiabdpihnjkcabDoorPick
namespace Go.Proofs.YthiabdpihnjkcabDoor
open Go.RowKit
set_option linter.unusedVariables false
theorem byte_nb (a c : Nat) (h : a = c) : ((a : Int) != (c : Int)) = false := by simp [h]
set_option maxHeartbeats 2000000 in
theorem swarApart_any (s : ByteArray) (x y : Nat) (g f a : Int) (w : World) (hs : s.size ≤ 140737488351232) (hx : x < 256) (hy : y < 256) (hg0 : -9223372036854775808 ≤ g) (hg : g ≤ 9223372036854775807) (hl : -9223372036854775808 ≤ f) (hh : f ≤ 9223372036854775807) (ha0 : -9223372036854775808 ≤ a) (ha : a ≤ 9223372036854775807) (ht : Tab w) :
    Calls Tryd.prog 3 #[.string s, .int .u8 (x : Int), .int .u8 (y : Int), .int .i64 g, .int .i64 f, .int .i64 a] w fun e w' => e = .returned (.bool true) ∧ Below w.heap.size w w' := by
  have hP1 : Hid (pairI s x y (s.size : Int) 0 = -1) := by
    show _ = _
    unfold pairI
    rw [if_neg (by omega), Int.toNat_natCast]
    exact Swar.pair_out s x y s.size 0 (by omega)
  have hP2 : Hid (pairI s x y (-1) 0 = -1) := by show _ = _; unfold pairI; rw [if_pos (by omega)]
  go_enter Tryd.func3, Tryd.ntmps3
  go_wp2_with fail
  refine (pair_i s x y g f _ (by omega) hx hy hg hl hh ht).mono ?_
  rintro e w' ⟨rfl, n0, rfl⟩
  rcases pair_cases s x y g f with hR | ⟨p, k, rfl, hR, r1, r2, r3, r4, r5⟩
  · rw [hR]
    clear hR
    go_wp2_with fail
    refine (pair_i s x y (s.size : Int) 0 _ (by omega) hx hy (by omega) (by omega) (by omega) (ht.drewN _)).mono ?_
    rintro e w' ⟨rfl, m1, rfl⟩
    rw [hP1.out]
    go_wp2_with fail
    refine (pair_i s x y (-1) 0 _ (by omega) hx hy (by omega) (by omega) (by omega) (ht.drewN _)).mono ?_
    rintro e w' ⟨rfl, m2, rfl⟩
    rw [hP2.out]
    go_wp2_with fail
    refine (pair_ab _ (ht.drewN _)).mono ?_
    rintro e w' ⟨rfl, m3, rfl⟩
    by_cases h0 : s.size = 0
    · have z0 : s.size = 0 := h0
      go_wp2_with fail
      go_ret
      exact ⟨rfl, below_drewN (Below.refl _ _) _⟩
    · have h0' : ((s.size : Int) == 0) = false := beq_eq_false_iff_ne.2 (by omega)
      go_wp2_with fail
      refine (pick_any a (s.size : Int) _ (by omega) (by omega) ha0 ha).mono ?_
      rintro e w' ⟨⟨i, hi, rfl⟩, rfl⟩
      go_wp2_with fail
      refine (pick_any g ((s.size : Int) - (i : Int)) _ (by omega) (by omega) hg0 hg).mono ?_
      rintro e w' ⟨⟨j, hj, rfl⟩, rfl⟩
      have p1 : i < s.size := by omega
      have p2 : (i : Int) + (j : Int) < (s.size : Int) := by omega
      have p3 : i + j < s.size := by omega
      have p4 : (0 : Int) ≤ (i : Int) + (j : Int) := by omega
      have HQ : Hid (pairI s (s[i]'p1).toNat (s[i + j]'p3).toNat (j : Int) (i : Int) = (i : Int)) := by
        show _ = _
        unfold pairI
        rw [if_neg (by omega), Int.toNat_natCast, Int.toNat_natCast, ← Swar.bt_in p1, ← Swar.bt_in p3]
        exact pair_here s j i p3
      have HZ : Hid (pairI s (s[i]'p1).toNat (s[i]'p1).toNat 0 0 = Swar.idxL s (s[i]'p1).toNat 0) := pair_index s _
      go_wp2_with fail
      generalize hWe0 : w.drewN (n0 + m1 + m2 + m3) = W
      have hWe : Hid (w.drewN (n0 + m1 + m2 + m3) = W) := hWe0
      clear hWe0
      have hb : Below w.heap.size w W := by rw [← hWe.out]; exact below_drewN (Below.refl _ _) _
      have ht2 : Tab W := by rw [← hWe.out]; exact ht.drewN _
      clear hWe
      go_quiet ((go_at_call 5; exact Calls.quiet_of (pair_i s _ _ (j : Int) (i : Int) _ (by omega) (UInt8.toNat_lt _) (UInt8.toNat_lt _) (by omega) (by omega) (by omega) (ht2.drewN _))))
      rw [HQ.out]
      have hb2 : Below w.heap.size w (W.drewN nq) := below_drewN hb nq
      have ht3 : Tab (W.drewN nq) := ht2.drewN _
      generalize W.drewN nq = V at *
      go_wp2_with fail
      go_quiet ((go_at_call 5; exact Calls.quiet_of (pair_i s _ _ 0 0 _ (by omega) (UInt8.toNat_lt _) (UInt8.toNat_lt _) (by omega) (by omega) (by omega) (ht3.drewN _))))
      rw [HZ.out]
      go_wp2_with fail
      refine (index_any s _ 0 _ (by omega) (UInt8.toNat_lt _) (by omega) (by omega) (ht3.drewN _)).mono ?_
      rintro e w' ⟨rfl, m4, rfl⟩
      go_wp2_with fail
      go_ret
      exact ⟨rfl, below_drewN (hb2) _⟩
  · rw [hR]
    clear hR
    have q1 : p < s.size := by omega
    have HA : Hid (pairI (s.extract 0 (p + k)) x y (k : Int) f = -1) := by
      show _ = _
      unfold pairI
      rw [if_neg (by omega), Int.toNat_natCast]
      exact pair_ahead s x y p k f.toNat r2 r5
    have g1 := byte_nb (s[p]'q1).toNat x (by rw [← Swar.bt_in q1]; exact r3)
    have g2 := byte_nb (s[p + k]'r2).toNat y (by rw [← Swar.bt_in r2]; exact r4)
    have g3 : (0 : Int) ≤ (k : Int) := by omega
    have g4 : ¬ ((p : Int) < f) := by omega
    have g5 : ¬ ((s.size : Int) ≤ (p : Int)) := by omega
    have g6 : ¬ ((s.size : Int) - (p : Int) ≤ (k : Int)) := by omega
    have g7 : (0 : Int) ≤ (p : Int) + (k : Int) := by omega
    have g8 : (p : Int) + (k : Int) < (s.size : Int) := by omega
    have g9 : (s.extract 0 (p + k)).size ≤ 1125899906842624 := by simp; omega
    clear r3 r4 r5
    go_wp2_with fail
    refine (pair_i (s.extract 0 (p + k)) x y (k : Int) f _ g9 hx hy hg hl hh (ht.drewN _)).mono ?_
    rintro e w' ⟨rfl, n1, rfl⟩
    rw [HA.out]
    have hpn : ¬ ((p : Int) < -1) := by omega
    go_wp2_with fail
    refine (pair_i s x y (s.size : Int) 0 _ (by omega) hx hy (by omega) (by omega) (by omega) (ht.drewN _)).mono ?_
    rintro e w' ⟨rfl, m1, rfl⟩
    rw [hP1.out]
    go_wp2_with fail
    refine (pair_i s x y (-1) 0 _ (by omega) hx hy (by omega) (by omega) (by omega) (ht.drewN _)).mono ?_
    rintro e w' ⟨rfl, m2, rfl⟩
    rw [hP2.out]
    go_wp2_with fail
    refine (pair_ab _ (ht.drewN _)).mono ?_
    rintro e w' ⟨rfl, m3, rfl⟩
    have h0' : ((s.size : Int) == 0) = false := beq_eq_false_iff_ne.2 (by omega)
    go_wp2_with fail
    refine (pick_any a (s.size : Int) _ (by omega) (by omega) ha0 ha).mono ?_
    rintro e w' ⟨⟨i, hi, rfl⟩, rfl⟩
    go_wp2_with fail
    refine (pick_any (k : Int) ((s.size : Int) - (i : Int)) _ (by omega) (by omega) hg0 hg).mono ?_
    rintro e w' ⟨⟨j, hj, rfl⟩, rfl⟩
    have p1 : i < s.size := by omega
    have p2 : (i : Int) + (j : Int) < (s.size : Int) := by omega
    have p3 : i + j < s.size := by omega
    have p4 : (0 : Int) ≤ (i : Int) + (j : Int) := by omega
    have HQ : Hid (pairI s (s[i]'p1).toNat (s[i + j]'p3).toNat (j : Int) (i : Int) = (i : Int)) := by
      show _ = _
      unfold pairI
      rw [if_neg (by omega), Int.toNat_natCast, Int.toNat_natCast, ← Swar.bt_in p1, ← Swar.bt_in p3]
      exact pair_here s j i p3
    have HZ : Hid (pairI s (s[i]'p1).toNat (s[i]'p1).toNat 0 0 = Swar.idxL s (s[i]'p1).toNat 0) := pair_index s _
    go_wp2_with fail
    generalize hWe0 : w.drewN (n0 + n1 + m1 + m2 + m3) = W
    have hWe : Hid (w.drewN (n0 + n1 + m1 + m2 + m3) = W) := hWe0
    clear hWe0
    have hb : Below w.heap.size w W := by rw [← hWe.out]; exact below_drewN (Below.refl _ _) _
    have ht2 : Tab W := by rw [← hWe.out]; exact ht.drewN _
    clear hWe
    go_quiet ((go_at_call 5; exact Calls.quiet_of (pair_i s _ _ (j : Int) (i : Int) _ (by omega) (UInt8.toNat_lt _) (UInt8.toNat_lt _) (by omega) (by omega) (by omega) (ht2.drewN _))))
    rw [HQ.out]
    have hb2 : Below w.heap.size w (W.drewN nq) := below_drewN hb nq
    have ht3 : Tab (W.drewN nq) := ht2.drewN _
    generalize W.drewN nq = V at *
    go_wp2_with fail
    go_quiet ((go_at_call 5; exact Calls.quiet_of (pair_i s _ _ 0 0 _ (by omega) (UInt8.toNat_lt _) (UInt8.toNat_lt _) (by omega) (by omega) (by omega) (ht3.drewN _))))
    rw [HZ.out]
    go_wp2_with fail
    refine (index_any s _ 0 _ (by omega) (UInt8.toNat_lt _) (by omega) (by omega) (ht3.drewN _)).mono ?_
    rintro e w' ⟨rfl, m4, rfl⟩
    go_wp2_with fail
    go_ret
    exact ⟨rfl, below_drewN (hb2) _⟩
end Go.Proofs.YthiabdpihnjkcabDoor
