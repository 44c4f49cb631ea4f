/-
  What the reference's Count and Pair do, place by place. Conditions: the text is no longer than any text that is read can be, numbers are ints, bytes are bytes.
-/
import Derived.Test.YthiabdpihnjkcaaDoorKern
import Derived.Test.YthiabdpihnjkcaaDoorWordsE
import Derived.Lib.MinMax
namespace Go.Proofs.YthiabdpihnjkcaaDoor
open Go.RowKit
set_option linter.unusedVariables false
theorem max_zero' (f : Int) : max f 0 = ((f.toNat : Nat) : Int) := by omega
theorem byte_eq (a c : Nat) (h : a = c) : ((a : Int) == (c : Int)) = true := by simp [h]
theorem byte_ne (a c : Nat) (h : a ≠ c) : ((a : Int) == (c : Int)) = false := by simp; omega
set_option maxHeartbeats 400000 in
theorem refCount_any (s : ByteArray) (c : Nat) (w : World) (hs : s.size ≤ 1125899906842624) (hc : c < 256) :
    Calls Tryd.prog 33 #[.string s, .int .u8 (c : Int)] w fun e w' => e = .returned (.int .i64 (Swar.cntL s c s.size : Nat)) ∧ w' = w := by
  go_enter Tryd.func33, Tryd.ntmps33
  go_wp2
  go_loop [5, 6] (fun t i => ∃ a : Nat, a ≤ s.size ∧ i = .int .i64 (a : Int) ∧ t = .int .i64 (Swar.cntL s c a : Nat)) (fun _ i => s.size - (intOf i).toNat)
  case atStart => exact ⟨0, by omega, rfl, rfl⟩
  case round =>
    obtain ⟨a, ha, rfl, rfl⟩ := hrel
    have hcl := Swar.cnt_le s c a
    by_cases hlt : a < s.size
    · have hst := Swar.cnt_step s c a
      have hb := Swar.bt_in hlt
      by_cases he : Swar.bt s a = c
      · rw [if_pos he] at hst
        have HST : Hid (Swar.cntL s c (a + 1) = Swar.cntL s c a + 1) := hst
        have g := byte_eq (s[a]'hlt).toNat c (by omega)
        clear hst hb he
        go_wp2
        go_round
        case rel => exact ⟨a + 1, by omega, by go_num, by rw [HST.out]; go_num⟩
        case measure => simp [intOf]; omega
      · rw [if_neg he] at hst
        have HST : Hid (Swar.cntL s c (a + 1) = Swar.cntL s c a + 0) := hst
        have g := byte_ne (s[a]'hlt).toNat c (by omega)
        clear hst hb he
        go_wp2
        go_round
        case rel => exact ⟨a + 1, by omega, by go_num, by rw [HST.out]; go_num⟩
        case measure => simp [intOf]; omega
    · obtain rfl : a = s.size := by omega
      go_wp2
      go_ret
      exact ⟨rfl, rfl⟩
def pairI (s : ByteArray) (x y : Nat) (g f : Int) : Int := if g < 0 then -1 else Swar.pairL s x y g.toNat f.toNat
set_option maxHeartbeats 1000000 in
theorem refPair_any (s : ByteArray) (x y : Nat) (g f : Int) (w : World) (hs : s.size ≤ 1125899906842624) (hx : x < 256) (hy : y < 256) (hg0 : -9223372036854775808 ≤ g) (hg : g ≤ 9223372036854775807) (hl : -9223372036854775808 ≤ f) (hh : f ≤ 9223372036854775807) :
    Calls Tryd.prog 35 #[.string s, .int .u8 (x : Int), .int .u8 (y : Int), .int .i64 g, .int .i64 f] w fun e w' => e = .returned (.int .i64 (pairI s x y g f)) ∧ w' = w := by
  unfold pairI
  by_cases hn : g < 0
  · rw [if_pos hn]
    go_enter Tryd.func35, Tryd.ntmps35
    go_wp2
    go_ret
    exact ⟨rfl, rfl⟩
  rw [if_neg hn]
  obtain ⟨k, rfl⟩ := Int.eq_ofNat_of_zero_le (show 0 ≤ g by omega)
  rw [Int.toNat_natCast]
  by_cases hk : s.size ≤ k
  · rw [Swar.pair_out s x y k f.toNat (by omega)]
    go_enter Tryd.func35, Tryd.ntmps35
    go_wp2
    go_ret
    exact ⟨rfl, rfl⟩
  have hk' : ¬ (s.size : Int) ≤ (k : Int) := by omega
  go_enter Tryd.func35, Tryd.ntmps35
  go_wp2
  go_loop [11] (fun i => ∃ a : Nat, a ≤ 9223372036854775807 ∧ i = .int .i64 (a : Int) ∧ Hid (Swar.pairL s x y k f.toNat = Swar.pairL s x y k a)) (fun i => s.size - (intOf i).toNat)
  case atStart => exact ⟨f.toNat, by omega, by rw [max_zero'], rfl⟩
  case round =>
    obtain ⟨a, ha, rfl, HI⟩ := hrel
    by_cases hlt : a + k < s.size
    · have hst := Swar.pair_step s x y k a hlt
      have hlt' : (a : Int) < (s.size : Int) - (k : Int) := by omega
      have hlt2 : a < s.size := by omega
      have hlt3 : (a : Int) + (k : Int) < (s.size : Int) := by omega
      have hb := Swar.bt_in hlt2
      have hb2 := Swar.bt_in hlt
      by_cases he : Swar.bt s a = x
      · have g1 := byte_eq (s[a]'hlt2).toNat x (by omega)
        by_cases he2 : Swar.bt s (a + k) = y
        · have g2 := byte_eq (s[a + k]'hlt).toNat y (by omega)
          rw [if_pos ⟨he, he2⟩] at hst
          have HST : Hid (Swar.pairL s x y k a = (a : Int)) := hst
          clear hst hb hb2 he he2
          go_wp2
          go_ret
          exact ⟨ret_i64 (by rw [HI.out, HST.out]), rfl⟩
        · have g2 := byte_ne (s[a + k]'hlt).toNat y (by omega)
          rw [if_neg (fun h => he2 h.2)] at hst
          have HST : Hid (Swar.pairL s x y k a = Swar.pairL s x y k (a + 1)) := hst
          clear hst hb hb2 he he2
          go_wp2
          go_round
          case rel => exact ⟨a + 1, by omega, by go_num, by show _ = _; rw [HI.out, HST.out]⟩
          case measure => simp [intOf]; omega
      · have g1 := byte_ne (s[a]'hlt2).toNat x (by omega)
        rw [if_neg (fun h => he h.1)] at hst
        have HST : Hid (Swar.pairL s x y k a = Swar.pairL s x y k (a + 1)) := hst
        clear hst hb hb2 he
        go_wp2
        go_round
        case rel => exact ⟨a + 1, by omega, by go_num, by show _ = _; rw [HI.out, HST.out]⟩
        case measure => simp [intOf]; omega
    · have HF : Hid (Swar.pairL s x y k a = -1) := Swar.pair_out s x y k a (by omega)
      have hlt' : decide ((a : Int) < (s.size : Int) - (k : Int)) = false := decide_eq_false (by omega)
      go_wp2
      go_ret
      exact ⟨ret_i64 (by rw [HI.out, HF.out]), rfl⟩
end Go.Proofs.YthiabdpihnjkcaaDoor
