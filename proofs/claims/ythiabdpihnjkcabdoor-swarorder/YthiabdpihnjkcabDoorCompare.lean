/-
  What swar.Compare does: the first byte in which the texts differ decides. Conditions: the texts are no longer than two texts that are read can be together, the table of package math/bits lies as its text lays it.
-/
import Derived.Test.YthiabdpihnjkcabDoorCommon
namespace Go.Proofs.YthiabdpihnjkcabDoor
open Go.RowKit
set_option linter.unusedVariables false
set_option maxHeartbeats 400000 in
theorem compare_any (a b : ByteArray) (w : World) (ha : a.size ≤ 1125899906842624) (hb : b.size ≤ 1125899906842624) (ht : Tab w) :
    Calls Tryd.prog 9 #[.string a, .string b] w fun e w' => e = .returned (.int .i64 (Swar.cmpL a b)) ∧ ∃ n, w' = w.drewN n := by
  have s := Swar.com_spec a b
  have HC : Hid (Swar.cmpL a b = if Swar.comL a b = a.size ∧ Swar.comL a b = b.size then 0 else if Swar.comL a b = a.size then -1 else if Swar.comL a b = b.size then 1 else if Swar.bt a (Swar.comL a b) < Swar.bt b (Swar.comL a b) then -1 else 1) := rfl
  go_enter Tryd.func9, Tryd.ntmps9
  go_wp2_with fail
  refine (common_any a b _ ha hb ht).mono ?_
  rintro e w1 ⟨rfl, n0, rfl⟩
  generalize Swar.comL a b = n at *
  obtain ⟨s1, s2, s3, s4⟩ := s
  clear s3
  by_cases h1 : n = a.size
  · have g1 : ((n : Int) == (a.size : Int)) = true := beq_iff_eq.2 (by omega)
    have HV : Hid ((if (a.size : Int) < (b.size : Int) then (-1 : Int) else if (b.size : Int) < (a.size : Int) then 1 else 0) = Swar.cmpL a b) := by
      show _ = _
      rw [HC.out]
      by_cases h2 : n = b.size
      · rw [if_neg (by omega), if_neg (by omega), if_pos ⟨h1, h2⟩]
      · rw [if_pos (by omega), if_neg (fun h => h2 h.2), if_pos h1]
    clear h1 s4 HC
    go_wp2_with fail
    refine (cmpInt_any _ _ _).mono ?_
    rintro e w1 ⟨rfl, rfl⟩
    rw [HV.out]
    go_wp2_with fail
    go_ret
    exact ⟨rfl, n0, rfl⟩
  · by_cases h2 : n = b.size
    · have g1 : ((n : Int) == (a.size : Int)) = false := beq_eq_false_iff_ne.2 (by omega)
      have g2 : ((n : Int) == (b.size : Int)) = true := beq_iff_eq.2 (by omega)
      have HV : Hid ((if (a.size : Int) < (b.size : Int) then (-1 : Int) else if (b.size : Int) < (a.size : Int) then 1 else 0) = Swar.cmpL a b) := by
        show _ = _
        rw [HC.out, if_neg (by omega), if_pos (by omega), if_neg (fun h => h1 h.1), if_neg h1, if_pos h2]
      clear h1 h2 s4 HC
      go_wp2_with fail
      refine (cmpInt_any _ _ _).mono ?_
      rintro e w1 ⟨rfl, rfl⟩
      rw [HV.out]
      go_wp2_with fail
      go_ret
      exact ⟨rfl, n0, rfl⟩
    · have g1 : ((n : Int) == (a.size : Int)) = false := beq_eq_false_iff_ne.2 (by omega)
      have g2 : ((n : Int) == (b.size : Int)) = false := beq_eq_false_iff_ne.2 (by omega)
      have p1 : n < a.size := by omega
      have p2 : n < b.size := by omega
      have HV : Hid ((if (a[n]'p1).toNat < (b[n]'p2).toNat then (-1 : Int) else if (b[n]'p2).toNat < (a[n]'p1).toNat then 1 else 0) = Swar.cmpL a b) := by
        show _ = _
        have hne := s4 p1 p2
        rw [HC.out]
        simp only [h1, h2, false_and, if_false]
        rw [Swar.bt_in p1, Swar.bt_in p2]
        rw [Swar.bt_in p1, Swar.bt_in p2] at hne
        by_cases h3 : (a[n]'p1).toNat < (b[n]'p2).toNat
        · simp only [h3, if_true]
        · have h4 : (b[n]'p2).toNat < (a[n]'p1).toNat := by omega
          simp only [h3, h4, if_false, if_true]
      clear h1 h2 s4 HC
      go_wp2_with fail
      generalize hWe0 : w.drewN n0 = W
      have HWe : Hid (w.drewN n0 = W) := hWe0
      clear hWe0
      go_quiet ((go_at_call 16; exact Calls.quiet_of_same (cmpByte_any _ _ _ (UInt8.toNat_lt _) (UInt8.toNat_lt _))))
      rw [HV.out]
      go_wp2_with fail
      go_ret
      exact ⟨rfl, n0 + nq, by rw [← HWe.out, World.drewN_drewN]⟩
end Go.Proofs.YthiabdpihnjkcabDoor
