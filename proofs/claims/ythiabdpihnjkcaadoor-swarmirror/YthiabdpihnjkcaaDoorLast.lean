/-
  What swar.Last does: it returns where the byte stands last ahead of the place, or -1. Conditions: the text is no longer than two texts that are read can be together, the place is an int, the byte a byte.
-/
import Derived.Test.YthiabdpihnjkcaaDoorIndex
import Derived.Test.YthiabdpihnjkcaaDoorLen
namespace Go.Proofs.YthiabdpihnjkcaaDoor
open Go.RowKit
set_option linter.unusedVariables false
set_option maxHeartbeats 400000 in
theorem last_any (s : ByteArray) (c : Nat) (f : Int) (w : World) (hs : s.size ≤ 1125899906842624) (hc : c < 256) (hl : -9223372036854775808 ≤ f) (hh : f ≤ 9223372036854775807) :
    Calls Tryd.prog 29 #[.string s, .int .u8 (c : Int), .int .i64 f] w fun e w' => e = .returned (.int .i64 (Swar.lstL s c (min f (s.size : Int)).toNat)) ∧ ∃ n, w' = w.drewN n := by
  have hsp := Swar.spreadL_lt c hc
  have hm1 : min f (s.size : Int) ≤ (s.size : Int) := by omega
  have hm2 : -9223372036854775808 ≤ min f (s.size : Int) := by omega
  go_enter Tryd.func29, Tryd.ntmps29
  go_wp2_with fail
  refine (spread_any c _ hc).mono ?_
  rintro e w' ⟨rfl, rfl⟩
  go_wp2_with fail
  generalize hM : min f (s.size : Int) = M at *
  have HM : Hid (min f (s.size : Int) = M) := hM
  clear hM
  go_loopw [8] (fun i wr => ∃ (E : Int) (n : Nat), -9223372036854775808 ≤ E ∧ E ≤ (s.size : Int) ∧ i = .int .i64 E ∧ Hid (Swar.lstL s c M.toNat = Swar.lstL s c E.toNat) ∧ wr = w'.drewN n) (fun i _ => (intOf i).toNat)
  case atStart => exact ⟨M, 0, hm2, hm1, rfl, rfl, rfl⟩
  case round =>
    obtain ⟨E, n, hE1, hE2, rfl, HI, rfl⟩ := hrel
    by_cases hlt : 0 < E
    · obtain ⟨e, rfl⟩ := Int.eq_ofNat_of_zero_le (show 0 ≤ E by omega)
      rw [Int.toNat_natCast] at HI
      have d1 : 0 < e := by omega
      have d2 : decide ((0 : Int) < (e : Int)) = true := decide_eq_true (by omega)
      have hq := Swar.fhit_le s c e
      have hel := Swar.equalL_lt (Swar.ldL s ((e : Int) - 8)) (Swar.spreadL c)
      have hld := Swar.ldL_lt s ((e : Int) - 8)
      by_cases hf : Swar.fhit s c e ≠ 0 ∧ 8 ≤ e + (Swar.fhit s c e - 1)
      · obtain ⟨f1, f2⟩ := hf
        have HF : Hid (Swar.lstL s c e = ((e + (Swar.fhit s c e - 1) - 8 : Nat) : Int)) := Swar.lst_found s c e hc f1 f2
        go_wp2_with fail
        refine (load_any s ((e : Int) - 8) _ hs (by omega) (by omega)).mono ?_
        rintro e1 w1 ⟨rfl, n1, rfl⟩
        go_wp2_with fail
        refine (equal_any _ _ _ hld hsp).mono ?_
        rintro e1 w1 ⟨rfl, rfl⟩
        go_wp2_with fail
        refine (final_any _ _ hel).mono ?_
        rintro e1 w1 ⟨rfl, rfl⟩
        rw [show Swar.lastL (Swar.cut 8 (Swar.equalL (Swar.ldL s ((e : Int) - 8)) (Swar.spreadL c))) = Swar.fhit s c e from rfl]
        generalize Swar.fhit s c e = h at *
        have hm : max 0 (8 - (e : Int)) ≤ (h : Int) - 1 := by omega
        go_wp2_with fail
        go_ret
        exact ⟨ret_i64 (by rw [HM.out, HI.out, HF.out]; omega), n + n1, rfl⟩
      · have HF : Hid (Swar.lstL s c e = Swar.lstL s c (e - 8)) := Swar.lst_next s c e hc hf
        go_wp2_with fail
        refine (load_any s ((e : Int) - 8) _ hs (by omega) (by omega)).mono ?_
        rintro e1 w1 ⟨rfl, n1, rfl⟩
        go_wp2_with fail
        refine (equal_any _ _ _ hld hsp).mono ?_
        rintro e1 w1 ⟨rfl, rfl⟩
        go_wp2_with fail
        refine (final_any _ _ hel).mono ?_
        rintro e1 w1 ⟨rfl, rfl⟩
        rw [show Swar.lastL (Swar.cut 8 (Swar.equalL (Swar.ldL s ((e : Int) - 8)) (Swar.spreadL c))) = Swar.fhit s c e from rfl]
        generalize Swar.fhit s c e = h at *
        have hm : decide (max 0 (8 - (e : Int)) ≤ (h : Int) - 1) = false := decide_eq_false (by omega)
        clear hf
        go_wp2_with fail
        go_roundw
        case rel => exact ⟨(e : Int) - 8, n + n1, by omega, by omega, rfl, by show _ = _; rw [HI.out, HF.out]; congr 1; omega, rfl⟩
        case measure => simp [intOf]; omega
    · have HF : Hid (Swar.lstL s c E.toNat = -1) := by show _ = _; rw [show E.toNat = 0 by omega]; rfl
      have hlt' : ¬ (0 : Int) < E := hlt
      go_wp2_with fail
      go_ret
      exact ⟨ret_i64 (by rw [HM.out, HI.out, HF.out]), n, rfl⟩
end Go.Proofs.YthiabdpihnjkcaaDoor
