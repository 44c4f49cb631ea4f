/-
  What swar.Count does: it returns how often the byte stands in the text. Conditions: the text is no longer than any text that is read can be, the byte a byte.
-/
import Derived.Test.YthiabdpihnjkcaaDoorIndex
import Derived.Test.YthiabdpihnjkcaaDoorWordsE
namespace Go.Proofs.YthiabdpihnjkcaaDoor
open Go.RowKit
set_option linter.unusedVariables false
theorem shl_any (e t : Nat) : IntKind.u64.wrap ((e : Int) * 2 ^ (8 * t)) = ((e * 256 ^ t % 18446744073709551616 : Nat) : Int) := by
  rw [IntKind.wrap_u64, Int.pow_mul]
  have e2 : ((2 : Int) ^ 8) ^ t = ((256 ^ t : Nat) : Int) := by simp
  rw [e2]
  omega
set_option maxHeartbeats 400000 in
theorem count_any (s : ByteArray) (c : Nat) (w : World) (hs : s.size ≤ 1125899906842624) (hc : c < 256) :
    Calls Tryd.prog 32 #[.string s, .int .u8 (c : Int)] w fun e w' => e = .returned (.int .i64 (Swar.cntL s c s.size : Nat)) ∧ ∃ n, w' = w.drewN n := by
  have hsp := Swar.spreadL_lt c hc
  go_enter Tryd.func32, Tryd.ntmps32
  go_wp2_with fail
  refine (spread_any c _ hc).mono ?_
  rintro e w' ⟨rfl, rfl⟩
  go_wp2_with fail
  go_loopw [6, 7] (fun t i wr => ∃ a n : Nat, a ≤ s.size ∧ i = .int .i64 (a : Int) ∧ t = .int .i64 (Swar.cntL s c a : Nat) ∧ wr = w'.drewN n) (fun _ i _ => s.size + 8 - (intOf i).toNat)
  case atStart => exact ⟨0, 0, by omega, rfl, rfl, rfl⟩
  case round =>
    obtain ⟨a, n, ha, rfl, rfl, rfl⟩ := hrel
    have hel := Swar.equalL_lt (Swar.ldL s a) (Swar.spreadL c)
    have hld := Swar.ldL_lt s a
    have hcl := Swar.cnt_le s c a
    by_cases hlt : a + 8 ≤ s.size
    · have hlt' : (a : Int) ≤ (s.size : Int) - 8 := by omega
      have HC : Hid (Swar.cntL s c (a + 8) = Swar.cntL s c a + Swar.onesL (Swar.equalL (Swar.ldL s a) (Swar.spreadL c))) := Swar.cnt_word s c a hc
      have hol := Swar.onesL_le (Swar.equalL (Swar.ldL s a) (Swar.spreadL c))
      go_wp2_with fail
      refine (load_any s a _ hs (by omega) (by omega)).mono ?_
      rintro e w1 ⟨rfl, n1, rfl⟩
      go_wp2_with fail
      refine (equal_any _ _ _ hld hsp).mono ?_
      rintro e w1 ⟨rfl, rfl⟩
      go_wp2_with fail
      refine (ones_any _ _ hel).mono ?_
      rintro e w1 ⟨rfl, rfl⟩
      go_wp2_with fail
      go_roundw
      case rel => exact ⟨a + 8, n + n1, by omega, by go_num, by rw [HC.out]; go_num, rfl⟩
      case measure => simp [intOf]; omega
    · have hlt' : ¬ (a : Int) ≤ (s.size : Int) - 8 := by omega
      go_wp2_with fail
      refine (load_any s a _ hs (by omega) (by omega)).mono ?_
      rintro e w1 ⟨rfl, n1, rfl⟩
      go_wp2_with fail
      refine (equal_any _ _ _ hld hsp).mono ?_
      rintro e w1 ⟨rfl, rfl⟩
      go_wp2_with fail
      rw [shl_any _ (8 - (s.size - a))]
      refine (ones_any _ _ (Nat.mod_lt _ (by omega))).mono ?_
      rintro e w1 ⟨rfl, rfl⟩
      have hol := Swar.onesL_le (Swar.equalL (Swar.ldL s ↑a) (Swar.spreadL c) * 256 ^ (8 - (s.size - a)) % 18446744073709551616)
      have ht := Swar.cnt_tail s c a (s.size - a) hc (by omega)
      have e3 : a + (s.size - a) = s.size := by omega
      rw [e3] at ht
      have HT : Hid (Swar.cntL s c s.size = Swar.cntL s c a + Swar.onesL (Swar.equalL (Swar.ldL s ↑a) (Swar.spreadL c) * 256 ^ (8 - (s.size - a)) % 18446744073709551616)) := ht
      clear ht e3
      generalize Swar.onesL (Swar.equalL (Swar.ldL s ↑a) (Swar.spreadL c) * 256 ^ (8 - (s.size - a)) % 18446744073709551616) = m at *
      go_wp2_with fail
      go_ret
      exact ⟨ret_i64 (by rw [HT.out]; omega), n + n1, rfl⟩
end Go.Proofs.YthiabdpihnjkcaaDoor
