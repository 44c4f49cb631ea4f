/-
  The document's agrees, bytesOf, four, half. Conditions: as each says.
-/
import Derived.Test.YtchjmhgalbkjkaaLvw
import Derived.Test.YtchjmhgalbkjkaaGrd
namespace Go.Proofs.Ytchjmhgalbkjkaa
open Go.RowKit
set_option linter.unusedVariables false
set_option maxRecDepth 100000 in
set_option maxHeartbeats 1000000 in
theorem refAgrees_any (s : ByteArray) (c p : Nat) (w : World) (hs : s.size ≤ 4294967296) (hcp : c < p) (hp : p ≤ s.size) :
    Calls Try.prog 45 #[.string s, .int .i64 (c : Int), .int .i64 (p : Int)] w fun e w' => e = .returned (.int .i64 (Lz.agree (Sums.bl s) c p : Nat)) ∧ ∃ n, w' = w.drewN n := by
  have hsl := Sums.bl_length s
  obtain ⟨R, hR⟩ : ∃ R, Lz.agree (Sums.bl s) c p = R := ⟨_, rfl⟩
  rw [hR]
  have HR := Hid.mk' hR
  have HSL := Hid.mk' hsl
  clear hR hsl
  go_enter Try.func45, Try.ntmps45
  go_wp2
  go_loopw [7] (fun kv wr => ∃ (k n : Nat), kv = .int .i64 (k : Int) ∧ R = k + Lz.agree (Sums.bl s) (c + k) (p + k) ∧ p + k ≤ s.size ∧ wr = w.drewN n) (fun kv _ => s.size - (intOf kv).toNat)
  case atStart => exact ⟨0, 0, rfl, by have := HR.out; simp; omega, by omega, rfl⟩
  case round =>
    obtain ⟨k, n, rfl, hk, hpk, rfl⟩ := hrel
    obtain ⟨d, hd⟩ : ∃ d, c + k = d := ⟨_, rfl⟩
    obtain ⟨q, hq⟩ : ∃ q, p + k = q := ⟨_, rfl⟩
    have hdI : (c : Int) + (k : Int) = (d : Int) := by omega
    have hqI : (p : Int) + (k : Int) = (q : Int) := by omega
    rw [hd, hq] at hk
    by_cases hend : q + 5 < s.size
    · have hendI : (q : Int) < (s.size : Int) - 5 := by omega
      have hendB : decide ((q : Int) < (s.size : Int) - 5) = true := by simp; omega
      obtain ⟨x, hx⟩ : ∃ x, x = (Sums.bl s).getD d 0 := ⟨_, rfl⟩
      obtain ⟨y, hy⟩ : ∃ y, y = (Sums.bl s).getD q 0 := ⟨_, rfl⟩
      have hidx := idx_any s d x (by omega) hx
      have hidy := idx_any s q y (by omega) hy
      rw [Lz.agree_step _ _ _ (by rw [HSL.out]; omega) (by rw [HSL.out]; omega), ← hx, ← hy] at hk
      have HK := Hid.mk' hk
      have HQ := Hid.mk' (And.intro hd hq)
      have hqs : q < s.size := by omega
      clear hk hx hy hd hq hend
      by_cases hxy : x = y
      · have hxyI : ((x : Int) == (y : Int)) = true := by simp; omega
        go_wp2
        go_quiet (fail)
        go_wp2
        go_roundw
        case rel =>
          have hk := HK.out
          rw [if_pos hxy.symm] at hk
          have h1 := HQ.out.1
          have h2 := HQ.out.2
          refine ⟨k + 1, n + nq, by simp, ?_, by omega, rfl⟩
          rw [show c + (k + 1) = d + 1 by omega, show p + (k + 1) = q + 1 by omega]
          omega
        case measure =>
          have h2 := HQ.out.2
          simp [intOf]
          omega
      · have hxyI : ((x : Int) == (y : Int)) = false := by simp; omega
        go_wp2
        go_quiet (fail)
        go_wp2
        go_ret
        have hk := HK.out
        rw [if_neg (fun h => hxy h.symm)] at hk
        refine ⟨?_, n + nq, by simp [World.drewN_drewN]⟩
        rw [hk]
        rfl
    · have hendI : ¬ (q : Int) < (s.size : Int) - 5 := by omega
      have hendB : decide ((q : Int) < (s.size : Int) - 5) = false := by simp; omega
      rw [Lz.agree_stop _ _ _ (by rw [HSL.out]; omega)] at hk
      go_wp2
      go_quiet (fail)
      go_wp2
      go_ret
      refine ⟨?_, n + nq, by simp [World.drewN_drewN]⟩
      rw [hk]
      rfl
theorem refBytesOf_any (n : Nat) (w : World) (hn : n ≤ 1099511627776) : Calls Try.prog 47 #[.int .i64 (n : Int)] w fun e w' => e = .returned (.int .i64 (Lz.lenz n : Nat)) ∧ w' = w := by
  by_cases h : n < 15
  · have hI : (n : Int) < 15 := by omega
    go_enter Try.func47, Try.ntmps47
    go_wp2
    go_ret
    refine ⟨?_, rfl⟩
    unfold Lz.lenz
    rw [if_pos h]
    rfl
  · have hI : ¬ (n : Int) < 15 := by omega
    have hq : Int.tdiv ((n : Int) - 15) 255 = (((n - 15) / 255 : Nat) : Int) := by
      rw [Int.tdiv_eq_ediv_of_nonneg (by omega)]
      omega
    go_enter Try.func47, Try.ntmps47
    go_wp2
    go_ret
    refine ⟨ret_i ?_, rfl⟩
    unfold Lz.lenz
    rw [if_neg h]
    omega
theorem idx_i (s : ByteArray) (i c : Nat) (hi : i < s.size) (hc : c = (Sums.bl s).getD i 0) (W : World) : (Instr.index 9 (.string s) (.int .i64 (i : Int))).run Try.prog W = .ok (.int .u8 (c : Int)) W := idx_any s i c hi hc W
set_option maxRecDepth 100000 in
theorem refFour_any (s : ByteArray) (p : Nat) (w : World) (hs : s.size ≤ 4294967296) (hp : p + 4 ≤ s.size) :
    Calls Try.prog 54 #[.string s, .int .i64 (p : Int)] w fun e w' => e = .returned (.int .i64 (Lz.four (Sums.bl s) p : Nat)) ∧ ∃ n, w' = w.drewN n := by
  obtain ⟨b0, h0⟩ : ∃ b, b = (Sums.bl s).getD p 0 := ⟨_, rfl⟩
  obtain ⟨b1, h1⟩ : ∃ b, b = (Sums.bl s).getD (p + 1) 0 := ⟨_, rfl⟩
  obtain ⟨b2, h2⟩ : ∃ b, b = (Sums.bl s).getD (p + 2) 0 := ⟨_, rfl⟩
  obtain ⟨b3, h3⟩ : ∃ b, b = (Sums.bl s).getD (p + 3) 0 := ⟨_, rfl⟩
  obtain ⟨q1, hq1⟩ : ∃ q, p + 1 = q := ⟨_, rfl⟩
  obtain ⟨q2, hq2⟩ : ∃ q, p + 2 = q := ⟨_, rfl⟩
  obtain ⟨q3, hq3⟩ : ∃ q, p + 3 = q := ⟨_, rfl⟩
  have i0 := idx_any s p b0 (by omega) h0
  have i1 := idx_any s q1 b1 (by omega) (by rw [← hq1]; exact h1)
  have i2 := idx_any s q2 b2 (by omega) (by rw [← hq2]; exact h2)
  have i3 := idx_any s q3 b3 (by omega) (by rw [← hq3]; exact h3)
  have e1 : (p : Int) + 1 = (q1 : Int) := by omega
  have e2 : (p : Int) + 2 = (q2 : Int) := by omega
  have e3 : (p : Int) + 3 = (q3 : Int) := by omega
  have w1 : IntKind.i64.wrap (q1 : Int) = (q1 : Int) := by rw [IntKind.wrap_i64]; omega
  have w2 : IntKind.i64.wrap (q2 : Int) = (q2 : Int) := by rw [IntKind.wrap_i64]; omega
  have w3 : IntKind.i64.wrap (q3 : Int) = (q3 : Int) := by rw [IntKind.wrap_i64]; omega
  have a0 := Lz.getD_byte (Sums.bl s) (Sums.bl_byt s) p
  have a1 := Lz.getD_byte (Sums.bl s) (Sums.bl_byt s) (p + 1)
  have a2 := Lz.getD_byte (Sums.bl s) (Sums.bl_byt s) (p + 2)
  have a3 := Lz.getD_byte (Sums.bl s) (Sums.bl_byt s) (p + 3)
  rw [← h0] at a0
  rw [← h1] at a1
  rw [← h2] at a2
  rw [← h3] at a3
  have hF : Lz.four (Sums.bl s) p = b0 + b1 * 256 + b2 * 65536 + b3 * 16777216 := by unfold Lz.four; rw [← h0, ← h1, ← h2, ← h3]
  obtain ⟨m1, hm1⟩ : ∃ m, b1 * 256 = m := ⟨_, rfl⟩
  obtain ⟨m2, hm2⟩ : ∃ m, b2 * 65536 = m := ⟨_, rfl⟩
  obtain ⟨m3, hm3⟩ : ∃ m, b3 * 16777216 = m := ⟨_, rfl⟩
  have f1 : (b1 : Int) * 256 = (m1 : Int) := by omega
  have f2 : (b2 : Int) * 65536 = (m2 : Int) := by omega
  have f3 : (b3 : Int) * 16777216 = (m3 : Int) := by omega
  have x1 : IntKind.i64.wrap (m1 : Int) = (m1 : Int) := by rw [IntKind.wrap_i64]; omega
  have x2 : IntKind.i64.wrap (m2 : Int) = (m2 : Int) := by rw [IntKind.wrap_i64]; omega
  have x3 : IntKind.i64.wrap (m3 : Int) = (m3 : Int) := by rw [IntKind.wrap_i64]; omega
  obtain ⟨s1, hs1⟩ : ∃ m, b0 + m1 = m := ⟨_, rfl⟩
  obtain ⟨s2, hs2⟩ : ∃ m, s1 + m2 = m := ⟨_, rfl⟩
  obtain ⟨s3, hs3⟩ : ∃ m, s2 + m3 = m := ⟨_, rfl⟩
  have g1 : (b0 : Int) + (m1 : Int) = (s1 : Int) := by omega
  have g2 : (s1 : Int) + (m2 : Int) = (s2 : Int) := by omega
  have g3 : (s2 : Int) + (m3 : Int) = (s3 : Int) := by omega
  have y1 : IntKind.i64.wrap (s1 : Int) = (s1 : Int) := by rw [IntKind.wrap_i64]; omega
  have y2 : IntKind.i64.wrap (s2 : Int) = (s2 : Int) := by rw [IntKind.wrap_i64]; omega
  have y3 : IntKind.i64.wrap (s3 : Int) = (s3 : Int) := by rw [IntKind.wrap_i64]; omega
  have z0 : IntKind.i64.wrap (b0 : Int) = (b0 : Int) := by rw [IntKind.wrap_i64]; omega
  have z1 : IntKind.i64.wrap (b1 : Int) = (b1 : Int) := by rw [IntKind.wrap_i64]; omega
  have z2 : IntKind.i64.wrap (b2 : Int) = (b2 : Int) := by rw [IntKind.wrap_i64]; omega
  have z3 : IntKind.i64.wrap (b3 : Int) = (b3 : Int) := by rw [IntKind.wrap_i64]; omega
  have hF3 : Lz.four (Sums.bl s) p = s3 := by omega
  rw [hF3]
  clear hF hF3 h0 h1 h2 h3 hq1 hq2 hq3 hm1 hm2 hm3 hs1 hs2 hs3 a0 a1 a2 a3
  go_enter Try.func54, Try.ntmps54
  go_wp2
  go_quiet (fail)
  go_wp2
  go_ret
  exact ⟨rfl, nq, rfl⟩
end Go.Proofs.Ytchjmhgalbkjkaa
