/-
  What the laws' still does: it answers true where the list stands in its owner's memory as it was, with eight marks behind it. Conditions: the lists lie in memory so, and are no longer than any list that is read can be.
-/
import Derived.Test.YthiabdpihnjkcaaDoorLent
namespace Go.Proofs.YthiabdpihnjkcaaDoor
open Go.RowKit
set_option linter.unusedVariables false
set_option maxHeartbeats 2000000 in
theorem still_any (N cap : Nat) (ad : Option Addr) (M : List Nat) (w : World) (hM : M.length ≤ 140737488351232)
    (hrow : ∀ i, i < M.length + 8 → w.cell? ⟨N, i, none⟩ = some (.int .u8 (((marked8 M).getD i 0 : Nat) : Int)))
    (hc : ∀ i, i < M.length → ∃ g off, ad = some ⟨g, off, none⟩ ∧ w.cell? ⟨g, off + i, none⟩ = some (.int .u8 ((M.getD i 0 : Nat) : Int))) :
    Calls Tryd.prog 27 #[.slice (some ⟨N, 0, none⟩) M.length (M.length + 8), .slice ad M.length cap] w fun e w' => e = .returned (.bool true) ∧ ∃ n, w' = w.drewN n := by
  have HC : Hid (∀ i, i < M.length → ∃ g off, ad = some ⟨g, off, none⟩ ∧ w.cell? ⟨g, off + i, none⟩ = some (.int .u8 ((M.getD i 0 : Nat) : Int))) := hc
  have HR : Hid (∀ i, i < M.length + 8 → w.cell? ⟨N, i, none⟩ = some (.int .u8 (((marked8 M).getD i 0 : Nat) : Int))) := hrow
  clear hc hrow
  have h1 : (M.length : Int) + 8 ≤ (M.length : Int) + 8 := by omega
  go_enter Tryd.func27, Tryd.ntmps27
  go_wp2_with fail
  go_loopw [6] (fun i wr => ∃ k n : Nat, k ≤ M.length + 8 ∧ i = .int .i64 (k : Int) ∧ wr = w.drewN n) (fun i _ => M.length + 8 - (intOf i).toNat)
  case atStart => exact ⟨0, 0, by omega, rfl, rfl⟩
  case round =>
    obtain ⟨k, n, hk, rfl, rfl⟩ := hrel
    by_cases hlt : k < M.length + 8
    · have hlt2 : (k : Int) < (M.length : Int) + 8 := by omega
      have hcell := HR.out k hlt
      by_cases hkM : k < M.length
      · obtain ⟨g, off, rfl, hc2⟩ := HC.out k hkM
        rw [marked8_lo M k hkM] at hcell
        generalize M.getD k 0 = z at *
        have g1 : decide ((k : Int) < (M.length : Int)) = true := decide_eq_true (by omega)
        have g2 : decide ((M.length : Int) ≤ (k : Int)) = false := decide_eq_false (by omega)
        have g4 : decide (M.length ≤ k) = false := decide_eq_false (by omega)
        have g5 : (((z : Nat) : Int) != ((z : Nat) : Int)) = false := by simp
        clear HC HR
        go_wp2_with fail
        go_quiet (fail)
        go_wp2_with fail
        go_roundw
        case rel => exact ⟨k + 1, n + nq, by omega, by go_num, rfl⟩
        case measure => simp [intOf]; omega
      · rw [marked8_hi M k (by omega) hlt] at hcell
        have g1 : decide ((k : Int) < (M.length : Int)) = false := decide_eq_false (by omega)
        have g2 : decide ((M.length : Int) ≤ (k : Int)) = true := decide_eq_true (by omega)
        have g3 : M.length ≤ k := by omega
        clear HC HR
        go_wp2_with fail
        go_quiet (fail)
        go_wp2_with fail
        go_roundw
        case rel => exact ⟨k + 1, n + nq, by omega, by go_num, rfl⟩
        case measure => simp [intOf]; omega
    · obtain rfl : k = M.length + 8 := by omega
      have hq1 : ¬ ((M.length + 8 : Nat) : Int) < (M.length : Int) + 8 := by omega
      clear HC HR
      go_wp2_with fail
      go_ret
      exact ⟨rfl, n, rfl⟩
end Go.Proofs.YthiabdpihnjkcaaDoor
