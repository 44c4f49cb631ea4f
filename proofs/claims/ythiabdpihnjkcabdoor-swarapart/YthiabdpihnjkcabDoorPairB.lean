/-
  swar.Pair with whatever gap, and what follows of its answer. Conditions: as with swar.Pair.
-/
import Derived.Test.YthiabdpihnjkcabDoorPair
namespace Go.Proofs.YthiabdpihnjkcabDoor
open Go.RowKit
set_option linter.unusedVariables false
def pairI (s : ByteArray) (x y : Nat) (g f : Int) : Int := if g < 0 then -1 else Swar.pairL s x y g.toNat f.toNat
theorem pair_i (s : ByteArray) (x y : Nat) (g f : Int) (w : World) (hs : s.size ≤ 1125899906842624) (hx : x < 256) (hy : y < 256) (hg : g ≤ 9223372036854775807) (hl : -9223372036854775808 ≤ f) (hh : f ≤ 9223372036854775807) (ht : Tab w) :
    Calls Tryd.prog 5 #[.string s, .int .u8 (x : Int), .int .u8 (y : Int), .int .i64 g, .int .i64 f] w fun e w' => e = .returned (.int .i64 (pairI s x y g f)) ∧ ∃ n, w' = w.drewN n := by
  unfold pairI
  by_cases hn : g < 0
  · rw [if_pos hn]
    exact (pair_neg s x y g f w hn).mono fun e w' ⟨he, hw⟩ => ⟨he, 0, hw⟩
  · rw [if_neg hn]
    obtain ⟨k, rfl⟩ := Int.eq_ofNat_of_zero_le (show 0 ≤ g by omega)
    rw [Int.toNat_natCast]
    exact pair_any s x y k f w hs hx hy (by omega) hl hh ht
theorem pair_cases (s : ByteArray) (x y : Nat) (g f : Int) : pairI s x y g f = -1 ∨ ∃ p k : Nat, g = (k : Int) ∧ pairI s x y g f = (p : Int) ∧ f.toNat ≤ p ∧ p + k < s.size ∧ Swar.bt s p = x ∧ Swar.bt s (p + k) = y ∧ ∀ q, f.toNat ≤ q → q < p → ¬ (Swar.bt s q = x ∧ Swar.bt s (q + k) = y) := by
  unfold pairI
  by_cases hn : g < 0
  · exact .inl (if_pos hn)
  · rw [if_neg hn]
    obtain ⟨k, rfl⟩ := Int.eq_ofNat_of_zero_le (show 0 ≤ g by omega)
    rw [Int.toNat_natCast]
    unfold Swar.pairL
    rcases Swar.fnd_spec (fun p => Swar.bt s p == x && Swar.bt s (p + k) == y) (s.size - k - f.toNat) f.toNat with ⟨h, _⟩ | ⟨i, hi, h, h1, h2⟩
    · exact .inl h
    · refine .inr ⟨f.toNat + i, k, rfl, h, by omega, by omega, ?_⟩
      simp only [Bool.and_eq_true, beq_iff_eq] at h1
      refine ⟨h1.1, h1.2, fun q hq1 hq2 hc => ?_⟩
      have := h2 (q - f.toNat) (by omega)
      rw [show f.toNat + (q - f.toNat) = q by omega] at this
      rw [hc.1, hc.2] at this
      simp at this
theorem bt_take (s : ByteArray) (n i : Nat) (hn : n ≤ s.size) (hi : i < n) : Swar.bt (s.extract 0 n) i = Swar.bt s i := by
  have h1 : i < (s.extract 0 n).size := by simp; omega
  rw [Swar.bt_in h1, Swar.bt_in (show i < s.size by omega), ByteArray.getElem_extract]
  simp
theorem pair_ahead (s : ByteArray) (x y p k f : Nat) (hp : p + k < s.size) (h : ∀ q, f ≤ q → q < p → ¬ (Swar.bt s q = x ∧ Swar.bt s (q + k) = y)) : Swar.pairL (s.extract 0 (p + k)) x y k f = -1 := by
  unfold Swar.pairL
  refine Swar.fnd_none _ _ _ (fun i hi => ?_)
  have hsz : (s.extract 0 (p + k)).size = p + k := by simp; omega
  rw [hsz] at hi
  rw [Bool.eq_false_iff]
  intro e
  simp only [Bool.and_eq_true, beq_iff_eq] at e
  rw [bt_take s (p + k) _ (by omega) (by omega), bt_take s (p + k) _ (by omega) (by omega)] at e
  exact h (f + i) (by omega) (by omega) e
theorem pair_here (s : ByteArray) (k i : Nat) (hi : i + k < s.size) : Swar.pairL s (Swar.bt s i) (Swar.bt s (i + k)) k i = (i : Int) := by
  rw [Swar.pair_step _ _ _ _ _ hi, if_pos ⟨rfl, rfl⟩]
theorem pair_index (s : ByteArray) (c : Nat) : Swar.pairL s c c 0 0 = Swar.idxL s c 0 := by
  unfold Swar.pairL Swar.idxL
  exact Swar.fnd_congr _ _ _ _ (fun i _ => by simp)
theorem pair_ab (w : World) (ht : Tab w) : Calls Tryd.prog 5 #[.string ⟨#[97, 98]⟩, .int .u8 97, .int .u8 98, .int .i64 1, .int .i64 0] w fun e w' => e = .returned (.int .i64 0) ∧ ∃ n, w' = w.drewN n := by
  have h := pair_any ⟨#[97, 98]⟩ 97 98 1 0 w (by decide) (by omega) (by omega) (by omega) (by omega) (by omega) ht
  have e : Swar.pairL ⟨#[97, 98]⟩ 97 98 1 (Int.toNat 0) = 0 := by decide +kernel
  rw [e] at h
  exact h
end Go.Proofs.YthiabdpihnjkcabDoor
