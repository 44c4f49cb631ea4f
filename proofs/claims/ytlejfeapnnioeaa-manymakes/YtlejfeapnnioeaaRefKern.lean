/-
  What the reference's word functions do: Byte, marked, Zeros, Equal, Below, Small, Lower, Spread, First, Ones, byte by byte. No conditions but that a word is a word and a byte a byte.
-/
import Derived.Test.YtlejfeapnnioeaaKern
import Derived.Test.YtlejfeapnnioeaaWordsC
namespace Go.Proofs.Ytlejfeapnnioeaa
open Go.RowKit
set_option linter.unusedVariables false
theorem ret_u8 {a b : Int} (h : a = b) : Ending.returned (.int .u8 a) = .returned (.int .u8 b) := by rw [h]
set_option maxHeartbeats 400000 in
theorem small_any (b : Nat) (w : World) (hb : b < 256) :
    Calls Try.prog 51 #[.int .u8 (b : Int)] w fun e w' => e = .returned (.int .u8 (Swar.small b : Nat)) ∧ w' = w := by
  unfold Swar.small
  by_cases h1 : 65 ≤ b
  · by_cases h2 : b ≤ 90
    · rw [if_pos ⟨h1, h2⟩]
      go_enter Try.func51, Try.ntmps51
      go_wp2
      go_ret
      exact ⟨ret_u8 (by omega), rfl⟩
    · rw [if_neg (by omega)]
      have h2' : ¬ (b : Int) ≤ 90 := by omega
      go_enter Try.func51, Try.ntmps51
      go_wp2
      go_ret
      exact ⟨rfl, rfl⟩
  · rw [if_neg (by omega)]
    have h2' : ¬ (65 : Int) ≤ (b : Int) := by omega
    go_enter Try.func51, Try.ntmps51
    go_wp2
    go_ret
    exact ⟨rfl, rfl⟩
end Go.Proofs.Ytlejfeapnnioeaa
