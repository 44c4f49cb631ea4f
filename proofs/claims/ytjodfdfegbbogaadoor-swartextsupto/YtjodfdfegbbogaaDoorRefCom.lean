/-
  What the document's Common and Compare do. Conditions: as each says.
-/
import Derived.Test.YtjodfdfegbbogaaDoorRefFoldS
namespace Go.Proofs.YtjodfdfegbbogaaDoor
open Go.RowKit
set_option linter.unusedVariables false
theorem idx_any (s : ByteArray) (i c : Nat) (hi : i < s.size) (hc : c = Swar.bt s i) (W : World) : (Instr.index 9 (.string s) (.int .i64 (i : Int))).run Tryd.prog W = .ok (.int .u8 (c : Int)) W := by
  rw [run_index_string W 9 _ .i64 (i : Int) Tryd.underlying9, dif_pos ⟨by omega, by omega⟩]
  simp only [Int.toNat_natCast]
  rw [hc, Swar.bt_in hi]
set_option maxHeartbeats 1000000 in
theorem refCommon_any (a b : ByteArray) (w : World) (ha : a.size ≤ 1125899906842624) (hb : b.size ≤ 1125899906842624) :
    Calls Tryd.prog 26 #[.string a, .string b] w fun e w' => e = .returned (.int .i64 (Swar.comL a b : Nat)) ∧ ∃ n, w' = w.drewN n := by
  have a1 : (a.size : Int) ≤ 1125899906842624 := by omega
  have b1 : (b.size : Int) ≤ 1125899906842624 := by omega
  go_enter Tryd.func26, Tryd.ntmps26
  go_wp2_with fail
  go_loopw [5] (fun i' wr => ∃ i n : Nat, i' = .int .i64 (i : Int) ∧ i ≤ a.size ∧ i ≤ b.size ∧ Hid (∀ j, j < i → Swar.bt a j = Swar.bt b j) ∧ wr = w.drewN n) (fun i' _ => a.size - (intOf i').toNat)
  case atStart => exact ⟨0, 0, rfl, by omega, by omega, fun j hj => by omega, rfl⟩
  case round =>
    obtain ⟨i, n, rfl, hia, hib, HI, rfl⟩ := hrel
    have i0 : (0 : Int) ≤ (i : Int) := by omega
    by_cases h1 : i < a.size
    · by_cases h2 : i < b.size
      · obtain ⟨c, hc⟩ : ∃ c, c = Swar.bt a i := ⟨_, rfl⟩
        obtain ⟨d, hd⟩ : ∃ d, d = Swar.bt b i := ⟨_, rfl⟩
        have hx := idx_any a i c h1 hc
        have hy := idx_any b i d h2 hd
        have i1 : (i : Int) < (a.size : Int) := by omega
        have i2 : (i : Int) < (b.size : Int) := by omega
        by_cases h3 : c = d
        · have HN : Hid (∀ j, j < i + 1 → Swar.bt a j = Swar.bt b j) := by
            intro j hj
            by_cases e : j = i
            · rw [e, ← hc, ← hd]; exact h3
            · exact HI.out j (by omega)
          subst h3
          clear hc hd
          go_wp2_with fail
          go_quiet (fail)
          go_wp2_with fail
          go_roundw
          case rel => exact ⟨i + 1, n + nq, by go_num, by omega, by omega, HN, by first | rfl | rw [World.drewN_drewN]⟩
          case measure => simp [intOf]; omega
        · have HC : Hid (Swar.comL a b = i) := Swar.com_of a b i hia hib HI.out (fun _ _ => by rw [← hc, ← hd]; exact h3)
          have q3 : ¬ (c : Int) = (d : Int) := by omega
          clear hc hd
          go_wp2_with fail
          go_quiet (fail)
          go_wp2_with fail
          go_ret
          exact ⟨by rw [HC.out]; rfl, n + nq, by first | rfl | rw [World.drewN_drewN]⟩
      · have HC : Hid (Swar.comL a b = i) := Swar.com_of a b i hia hib HI.out (fun _ h => by omega)
        have i1 : (i : Int) < (a.size : Int) := by omega
        have i2 : ¬ (i : Int) < (b.size : Int) := by omega
        go_wp2_with fail
        go_quiet (fail)
        go_wp2_with fail
        go_ret
        exact ⟨by rw [HC.out]; rfl, n + nq, by first | rfl | rw [World.drewN_drewN]⟩
    · have HC : Hid (Swar.comL a b = i) := Swar.com_of a b i hia hib HI.out (fun h _ => by omega)
      have i1 : ¬ (i : Int) < (a.size : Int) := by omega
      go_wp2_with fail
      go_quiet (fail)
      go_wp2_with fail
      go_ret
      exact ⟨by rw [HC.out]; rfl, n + nq, by first | rfl | rw [World.drewN_drewN]⟩
set_option maxHeartbeats 1000000 in
theorem refCompare_any (a b : ByteArray) (w : World) (ha : a.size ≤ 1125899906842624) (hb : b.size ≤ 1125899906842624) :
    Calls Tryd.prog 24 #[.string a, .string b] w fun e w' => e = .returned (.int .i64 (Swar.cmpL a b)) ∧ ∃ n, w' = w.drewN n := by
  have s := Swar.com_spec a b
  have a1 : (a.size : Int) ≤ 1125899906842624 := by omega
  have b1 : (b.size : Int) ≤ 1125899906842624 := by omega
  obtain ⟨m, hm⟩ : ∃ m, m = Swar.comL a b := ⟨_, rfl⟩
  have HM := Hid.mk' hm
  rw [← hm] at s
  have m0 : (0 : Int) ≤ (m : Int) := by omega
  have HCM : Hid (Swar.cmpL a b = if m = a.size ∧ m = b.size then 0 else if m = a.size then -1 else if m = b.size then 1 else if Swar.bt a m < Swar.bt b m then -1 else 1) := by unfold Hid; rw [hm]; rfl
  obtain ⟨r, HR⟩ : ∃ r, Hid (r = Swar.cmpL a b) := ⟨_, Hid.mk' rfl⟩
  rw [← HR.out]
  by_cases h1 : m = a.size
  · by_cases h2 : m = b.size
    · have hr : r = 0 := by rw [HR.out, HCM.out, if_pos ⟨h1, h2⟩]
      rw [hr]
      have q1 : (m : Int) = (a.size : Int) := by omega
      have q2 : (m : Int) = (b.size : Int) := by omega
      clear hm h1 h2 s HCM
      go_enter Tryd.func24, Tryd.ntmps24
      go_wp2_with fail
      refine (refCommon_any a b _ ha hb).mono ?_
      rintro e w1 ⟨rfl, n1, rfl⟩
      rw [← HM.out]
      go_wp2_with fail
      go_ret
      exact ⟨rfl, n1, rfl⟩
    · have hr : r = -1 := by rw [HR.out, HCM.out, if_neg (fun h => h2 h.2), if_pos h1]
      rw [hr]
      have q1 : (m : Int) = (a.size : Int) := by omega
      have q2 : ¬ (m : Int) = (b.size : Int) := by omega
      clear hm h1 h2 s HCM
      go_enter Tryd.func24, Tryd.ntmps24
      go_wp2_with fail
      refine (refCommon_any a b _ ha hb).mono ?_
      rintro e w1 ⟨rfl, n1, rfl⟩
      rw [← HM.out]
      go_wp2_with fail
      go_ret
      exact ⟨rfl, n1, rfl⟩
  · by_cases h2 : m = b.size
    · have hr : r = 1 := by rw [HR.out, HCM.out, if_neg (fun h => h1 h.1), if_neg h1, if_pos h2]
      rw [hr]
      have q1 : ¬ (m : Int) = (a.size : Int) := by omega
      have q2 : (m : Int) = (b.size : Int) := by omega
      clear hm h1 h2 s HCM
      go_enter Tryd.func24, Tryd.ntmps24
      go_wp2_with fail
      refine (refCommon_any a b _ ha hb).mono ?_
      rintro e w1 ⟨rfl, n1, rfl⟩
      rw [← HM.out]
      go_wp2_with fail
      go_ret
      exact ⟨rfl, n1, rfl⟩
    · obtain ⟨c, hc⟩ : ∃ c, c = Swar.bt a m := ⟨_, rfl⟩
      obtain ⟨d, hd⟩ : ∃ d, d = Swar.bt b m := ⟨_, rfl⟩
      have hx := idx_any a m c (by omega) hc
      have hy := idx_any b m d (by omega) hd
      have q1 : ¬ (m : Int) = (a.size : Int) := by omega
      have q2 : ¬ (m : Int) = (b.size : Int) := by omega
      have i1 : (m : Int) < (a.size : Int) := by omega
      have i2 : (m : Int) < (b.size : Int) := by omega
      by_cases h3 : c < d
      · have hr : r = -1 := by rw [HR.out, HCM.out, if_neg (fun h => h1 h.1), if_neg h1, if_neg h2, ← hc, ← hd, if_pos h3]
        rw [hr]
        have q3 : (c : Int) < (d : Int) := by omega
        clear hm h1 h2 s HCM hc hd h3
        go_enter Tryd.func24, Tryd.ntmps24
        go_wp2_with fail
        refine (refCommon_any a b _ ha hb).mono ?_
        rintro e w1 ⟨rfl, n1, rfl⟩
        rw [← HM.out]
        go_wp2_with fail
        go_quiet (fail)
        go_wp2_with fail
        go_ret
        exact ⟨rfl, n1 + nq, by first | rfl | rw [World.drewN_drewN]⟩
      · have hr : r = 1 := by rw [HR.out, HCM.out, if_neg (fun h => h1 h.1), if_neg h1, if_neg h2, ← hc, ← hd, if_neg h3]
        rw [hr]
        have q3 : ¬ (c : Int) < (d : Int) := by omega
        clear hm h1 h2 s HCM hc hd h3
        go_enter Tryd.func24, Tryd.ntmps24
        go_wp2_with fail
        refine (refCommon_any a b _ ha hb).mono ?_
        rintro e w1 ⟨rfl, n1, rfl⟩
        rw [← HM.out]
        go_wp2_with fail
        go_quiet (fail)
        go_wp2_with fail
        go_ret
        exact ⟨rfl, n1 + nq, by first | rfl | rw [World.drewN_drewN]⟩
end Go.Proofs.YtjodfdfegbbogaaDoor
