/-
  (*many.Set).inherit, (*many.Set).States. Conditions: as each says.
-/
import Derived.Test.YtlbfnchjbpioeaaMnC
namespace Go.Proofs.Ytlbfnchjbpioeaa
open Go.RowKit
set_option linter.unusedVariables false
section
variable {B sb g : Nat} {wv : Value} {n cn m : Nat} {nx : Nat → Nat → Int} {ln wd wl sh : Nat → Int}
set_option maxRecDepth 100000 in
set_option maxHeartbeats 1000000 in
theorem inherit_none (w : World) (h : SetM B sb g wv n cn m nx ln wd wl sh w) (i : Nat) (v : Int) (hi : i < n) (hn : n ≤ 32000) (hw : wd i = -1) :
    Calls Try.prog 50 #[.pointer (some ⟨sb, 0, none⟩), .int .i16 (i : Int), .int .i16 v] w fun e w' => e = .returned (.tuple #[]) ∧ w' = w.setCell ⟨g, i * 258 + 257, none⟩ (.int .i16 v) := by
  obtain ⟨s0, s1, _, _⟩ := h.st0
  obtain ⟨c1, c2⟩ := h.c_wd i hi
  rw [hw] at c1
  have hiI : (i : Int) < (n : Int) := by omega
  have hi0 : (0 : Int) ≤ (i : Int) := by omega
  clear h hw
  go_enter Try.func50, Try.ntmps50
  go_wp2
  go_end0
  exact ⟨rfl, rfl⟩
set_option maxRecDepth 100000 in
set_option maxHeartbeats 1000000 in
theorem inherit_some {g2 cw : Nat} (w : World) (h : SetM B sb g (.slice (some ⟨g2, 0, none⟩) m cw) n cn m nx ln wd wl sh w) (i q : Nat) (v : Int) (hi : i < n) (hn : n ≤ 32000) (hq : q < m) (hm : m ≤ 64) (hw : wd i = (q : Int)) :
    Calls Try.prog 50 #[.pointer (some ⟨sb, 0, none⟩), .int .i16 (i : Int), .int .i16 v] w fun e w' => e = .returned (.tuple #[]) ∧ w' = w.setCell ⟨g2, q * 2 + 1, none⟩ (.int .i16 v) := by
  obtain ⟨s0, s1, _, _⟩ := h.st0
  obtain ⟨c1, _⟩ := h.c_wd i hi
  obtain ⟨c3, c4⟩ := h.c_sh q hq
  rw [hw] at c1
  have hiI : (i : Int) < (n : Int) := by omega
  have hqI : (q : Int) < (m : Int) := by omega
  have hne : ((q : Int) == -1) = false := by simp
  clear h hw
  go_enter Try.func50, Try.ntmps50
  go_wp2
  exact bodyPost_ret (results_none rfl _ _ _) rfl ⟨rfl, rfl⟩
theorem states_any (w : World) (h : SetM B sb g wv n cn m nx ln wd wl sh w) :
    Calls Try.prog 12 #[.pointer (some ⟨sb, 0, none⟩)] w fun e w' => e = .returned (.int .i64 (n : Int)) ∧ w' = w := by
  obtain ⟨s0, s1, _, _⟩ := h.st0
  clear h
  go_enter Try.func12, Try.ntmps12
  go_wp2
  go_ret
  exact ⟨rfl, rfl⟩
end
end Go.Proofs.Ytlbfnchjbpioeaa
