/-
  What swar.Pair does: it returns the first place, from one on, with a byte there and another one so many behind it, or -1. Conditions: the text is no longer than any text that is read can be, the gap and the place are ints, the bytes are bytes, the table of package math/bits lies as its text lays it.
-/
import Derived.Test.YthiabdpihnjkcaaDoorIndex
import Derived.Test.YthiabdpihnjkcaaDoorWordsE
namespace Go.Proofs.YthiabdpihnjkcaaDoor
open Go.RowKit
set_option linter.unusedVariables false
set_option maxHeartbeats 400000 in
theorem pair_neg (s : ByteArray) (x y : Nat) (g f : Int) (w : World) (hg : g < 0) :
    Calls Tryd.prog 34 #[.string s, .int .u8 (x : Int), .int .u8 (y : Int), .int .i64 g, .int .i64 f] w fun e w' => e = .returned (.int .i64 (-1)) ∧ w' = w := by
  go_enter Tryd.func34, Tryd.ntmps34
  go_wp2
  go_ret
  exact ⟨rfl, rfl⟩
set_option maxHeartbeats 1000000 in
theorem pair_any (s : ByteArray) (x y g : Nat) (f : Int) (w : World) (hs : s.size ≤ 1125899906842624) (hx : x < 256) (hy : y < 256) (hg : g ≤ 9223372036854775807) (hl : -9223372036854775808 ≤ f) (hh : f ≤ 9223372036854775807) (ht : Tab w) :
    Calls Tryd.prog 34 #[.string s, .int .u8 (x : Int), .int .u8 (y : Int), .int .i64 (g : Int), .int .i64 f] w fun e w' => e = .returned (.int .i64 (Swar.pairL s x y g f.toNat)) ∧ ∃ n, w' = w.drewN n := by
  have hsx := Swar.spreadL_lt x hx
  have hsy := Swar.spreadL_lt y hy
  have hg0 : ¬ ((g : Int) < 0) := by omega
  go_enter Tryd.func34, Tryd.ntmps34
  go_wp2_with fail
  refine (spread_any x _ hx).mono ?_
  rintro e w' ⟨rfl, rfl⟩
  go_wp2_with fail
  refine (spread_any y _ hy).mono ?_
  rintro e w' ⟨rfl, rfl⟩
  go_wp2_with fail
  go_loopw [14] (fun i wr => ∃ a n : Nat, a ≤ 9223372036854775807 ∧ i = .int .i64 (a : Int) ∧ Hid (Swar.pairL s x y g f.toNat = Swar.pairL s x y g a) ∧ wr = w'.drewN n) (fun i _ => s.size + 8 - (intOf i).toNat)
  case atStart => exact ⟨f.toNat, 0, by omega, by rw [max_zero], rfl, rfl⟩
  case round =>
    obtain ⟨a, n, ha, rfl, HI, rfl⟩ := hrel
    by_cases hlt : a + g < s.size
    · have hlt' : (a : Int) < (s.size : Int) - (g : Int) := by omega
      have hq := Swar.phit_le s x y g a
      have h1 := Swar.equalL_lt (Swar.ldL s a) (Swar.spreadL x)
      have h2 := Swar.equalL_lt (Swar.ldL s ((a : Int) + (g : Int))) (Swar.spreadL y)
      have h3 : Swar.equalL (Swar.ldL s a) (Swar.spreadL x) &&& Swar.equalL (Swar.ldL s ((a : Int) + (g : Int))) (Swar.spreadL y) ≤ Swar.equalL (Swar.ldL s a) (Swar.spreadL x) := Nat.and_le_left
      have HP : Hid (Swar.firstL (Swar.equalL (Swar.ldL s a) (Swar.spreadL x) &&& Swar.equalL (Swar.ldL s ((a : Int) + (g : Int))) (Swar.spreadL y)) = Swar.phitL s x y g a) := by
        show _ = _
        unfold Swar.phitL; rw [Int.natCast_add]
      have hl1 := Swar.ldL_lt s a
      have hl2 := Swar.ldL_lt s ((a : Int) + (g : Int))
      by_cases hf : Swar.phitL s x y g a < 8 ∧ a + Swar.phitL s x y g a + g < s.size
      · obtain ⟨f1, f2⟩ := hf
        have HF : Hid (Swar.pairL s x y g a = ((a + Swar.phitL s x y g a : Nat) : Int)) := Swar.pair_found s x y g a hx hy f1 f2
        go_wp2_with fail
        refine (load_any s a _ hs (by omega) (by omega)).mono ?_
        rintro e w1 ⟨rfl, n1, rfl⟩
        go_wp2_with fail
        refine (equal_any _ _ _ hl1 hsx).mono ?_
        rintro e w1 ⟨rfl, rfl⟩
        go_wp2_with fail
        refine (load_any s ((a : Int) + (g : Int)) _ hs (by omega) (by omega)).mono ?_
        rintro e w1 ⟨rfl, n2, rfl⟩
        go_wp2_with fail
        refine (equal_any _ _ _ hl2 hsy).mono ?_
        rintro e w1 ⟨rfl, rfl⟩
        go_wp2_with fail
        rw [u64_and_nat _ _ h1 h2]
        refine (first_any _ _ (by omega) (ht.drewN _)).mono ?_
        rintro e w1 ⟨rfl, rfl⟩
        rw [HP.out]
        generalize Swar.phitL s x y g a = h at *
        have hm : (h : Int) < min 8 ((s.size : Int) - (g : Int) - (a : Int)) := by omega
        go_wp2_with fail
        go_ret
        exact ⟨ret_i64 (by rw [HI.out, HF.out]; omega), n + n1 + n2, rfl⟩
      · have HF : Hid (Swar.pairL s x y g a = Swar.pairL s x y g (a + 8)) := Swar.pair_next s x y g a hx hy hlt hf
        go_wp2_with fail
        refine (load_any s a _ hs (by omega) (by omega)).mono ?_
        rintro e w1 ⟨rfl, n1, rfl⟩
        go_wp2_with fail
        refine (equal_any _ _ _ hl1 hsx).mono ?_
        rintro e w1 ⟨rfl, rfl⟩
        go_wp2_with fail
        refine (load_any s ((a : Int) + (g : Int)) _ hs (by omega) (by omega)).mono ?_
        rintro e w1 ⟨rfl, n2, rfl⟩
        go_wp2_with fail
        refine (equal_any _ _ _ hl2 hsy).mono ?_
        rintro e w1 ⟨rfl, rfl⟩
        go_wp2_with fail
        rw [u64_and_nat _ _ h1 h2]
        refine (first_any _ _ (by omega) (ht.drewN _)).mono ?_
        rintro e w1 ⟨rfl, rfl⟩
        rw [HP.out]
        generalize Swar.phitL s x y g a = h at *
        have hm : decide ((h : Int) < min 8 ((s.size : Int) - (g : Int) - (a : Int))) = false := decide_eq_false (by omega)
        clear hf
        go_wp2_with fail
        go_roundw
        case rel => exact ⟨a + 8, n + n1 + n2, by omega, by go_num, by show _ = _; rw [HI.out, HF.out], rfl⟩
        case measure => simp [intOf]; omega
    · have HF : Hid (Swar.pairL s x y g a = -1) := Swar.pair_out s x y g a (by omega)
      have hlt' : decide ((a : Int) < (s.size : Int) - (g : Int)) = false := decide_eq_false (by omega)
      go_wp2_with fail
      go_ret
      exact ⟨ret_i64 (by rw [HI.out, HF.out]), n, rfl⟩
end Go.Proofs.YthiabdpihnjkcaaDoor
