/-
  lz4.fourBytes, lz4.agreed. Conditions: as each says.
-/
import Derived.Test.YtchjmhgalbkjkaaWlk
import Derived.Test.YtchjmhgalbkjkaaLzE
import Derived.Lib.EndianBits
namespace Go.Proofs.Ytchjmhgalbkjkaa
open Go.RowKit
set_option linter.unusedVariables false
theorem ret_w {a b : Int} (h : a = b) : Ending.returned (.int .u32 a) = .returned (.int .u32 b) := by rw [h]
theorem fourBytes_any (s : ByteArray) (w : World) (hs : s.size ≤ 140737488355328) (h4 : 4 ≤ s.size) :
    Calls Try.prog 50 #[.string s] w fun e w' => e = .returned (.int .u32 (Lz.four (Sums.bl s) 0 : Nat)) ∧ ∃ n, w' = w.drewN n := by
  have h0 : 0 < s.size := by omega
  have h1 : (1 : Int) < (s.size : Int) := by omega
  have h2 : (2 : Int) < (s.size : Int) := by omega
  have h3 : (3 : Int) < (s.size : Int) := by omega
  go_enter Try.func50, Try.ntmps50
  go_wp2
  go_quiet (fail)
  go_wp2
  go_ret
  have b0 := UInt8.toNat_lt (s[0]'h0)
  have b1 := UInt8.toNat_lt (s[1]'(by omega))
  have b2 := UInt8.toNat_lt (s[2]'(by omega))
  have b3 := UInt8.toNat_lt (s[3]'(by omega))
  have hv : ((Lz.four (Sums.bl s) 0 : Nat) : Int) = ((s[0]'h0).toNat : Int) + ((s[1]'(by omega)).toNat : Int) * 256 + ((s[2]'(by omega)).toNat : Int) * 65536 + ((s[3]'(by omega)).toNat : Int) * 16777216 := by
    unfold Lz.four
    rw [Sums.bl_get s 0 h0, Sums.bl_get s 1 (by omega), Sums.bl_get s 2 (by omega), Sums.bl_get s 3 (by omega)]
    omega
  refine ⟨ret_w ?_, nq, rfl⟩
  simp (disch := omega) only [u32_or8, u32_or16, u32_or24]
  omega
set_option maxRecDepth 100000 in
set_option maxHeartbeats 1000000 in
theorem agreed_any (s : ByteArray) (c p : Nat) (w : World) (hs : s.size ≤ 4294967296) (hcp : c < p) (hp : p ≤ s.size) :
    Calls Try.prog 51 #[.string s, .int .i64 (c : Int), .int .i64 (p : Int)] w fun e w' => e = .returned (.int .i64 (Lz.agree (Sums.bl s) c p : Nat)) ∧ ∃ n, w' = w.drewN n := by
  have hsl := Sums.bl_length s
  obtain ⟨R, hR⟩ : ∃ R, Lz.agree (Sums.bl s) c p = R := ⟨_, rfl⟩
  rw [hR]
  have HR := Hid.mk' hR
  have HSL := Hid.mk' hsl
  clear hR hsl
  go_enter Try.func51, Try.ntmps51
  go_wp2
  go_loopw [7] (fun kv wr => ∃ (k n : Nat), kv = .int .i64 (k : Int) ∧ R = k + Lz.agree (Sums.bl s) (c + k) (p + k) ∧ p + k ≤ s.size ∧ wr = w.drewN n) (fun kv _ => s.size - (intOf kv).toNat)
  case atStart => exact ⟨0, 0, rfl, by have := HR.out; simp; omega, by omega, rfl⟩
  case round =>
    obtain ⟨k, n, rfl, hk, hpk, rfl⟩ := hrel
    obtain ⟨d, hd⟩ : ∃ d, c + k = d := ⟨_, rfl⟩
    obtain ⟨q, hq⟩ : ∃ q, p + k = q := ⟨_, rfl⟩
    have hdI : (c : Int) + (k : Int) = (d : Int) := by omega
    have hqI : (p : Int) + (k : Int) = (q : Int) := by omega
    rw [hd, hq] at hk
    by_cases hend : q + 5 < s.size
    · have hendI : (q : Int) < (s.size : Int) - 5 := by omega
      have hendB : decide ((q : Int) < (s.size : Int) - 5) = true := by simp; omega
      obtain ⟨x, hx⟩ : ∃ x, x = (Sums.bl s).getD d 0 := ⟨_, rfl⟩
      obtain ⟨y, hy⟩ : ∃ y, y = (Sums.bl s).getD q 0 := ⟨_, rfl⟩
      have hidx := idx_any s d x (by omega) hx
      have hidy := idx_any s q y (by omega) hy
      rw [Lz.agree_step _ _ _ (by rw [HSL.out]; omega) (by rw [HSL.out]; omega), ← hx, ← hy] at hk
      have HK := Hid.mk' hk
      have HQ := Hid.mk' (And.intro hd hq)
      have hqs : q < s.size := by omega
      clear hk hx hy hd hq hend
      by_cases hxy : x = y
      · have hxyI : ((x : Int) == (y : Int)) = true := by simp; omega
        go_wp2
        go_quiet (fail)
        go_wp2
        go_roundw
        case rel =>
          have hk := HK.out
          rw [if_pos hxy.symm] at hk
          have h1 := HQ.out.1
          have h2 := HQ.out.2
          refine ⟨k + 1, n + nq, by simp, ?_, by omega, rfl⟩
          rw [show c + (k + 1) = d + 1 by omega, show p + (k + 1) = q + 1 by omega]
          omega
        case measure =>
          have h2 := HQ.out.2
          simp [intOf]
          omega
      · have hxyI : ((x : Int) == (y : Int)) = false := by simp; omega
        go_wp2
        go_quiet (fail)
        go_wp2
        go_ret
        have hk := HK.out
        rw [if_neg (fun h => hxy h.symm)] at hk
        refine ⟨?_, n + nq, by simp [World.drewN_drewN]⟩
        rw [hk]
        rfl
    · have hendI : ¬ (q : Int) < (s.size : Int) - 5 := by omega
      have hendB : decide ((q : Int) < (s.size : Int) - 5) = false := by simp; omega
      rw [Lz.agree_stop _ _ _ (by rw [HSL.out]; omega)] at hk
      go_wp2
      go_quiet (fail)
      go_wp2
      go_ret
      refine ⟨?_, n + nq, by simp [World.drewN_drewN]⟩
      rw [hk]
      rfl
end Go.Proofs.Ytchjmhgalbkjkaa
