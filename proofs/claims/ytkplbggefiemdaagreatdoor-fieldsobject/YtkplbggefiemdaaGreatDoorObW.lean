/-
  object: how many bytes a value is written as. Conditions: as each says.
-/
import Derived.Test.YtkplbggefiemdaaGreatDoorObV
import Derived.Lib.MinMax
namespace Go.Proofs.YtkplbggefiemdaaGreatDoor
open Go.RowKit
set_option linter.unusedVariables false
set_option linter.unusedSimpArgs false
def mrk : ByteArray := ⟨#[34, 92, 8, 9, 10, 12, 13]⟩
/-- how many bytes a byte of a text is written as -/
def byS (c : Nat) : Nat := if 0 ≤ Lib.indexByte mrk.data.toList (c : Int).toNat.toUInt8 then 2 else if c < 32 then 6 else 1
theorem byS_le (c : Nat) : byS c ≤ 6 := by
  unfold byS
  split
  · omega
  · split <;> omega
def txS : List Nat → Nat → Nat
  | [], a => a
  | c :: r, a => txS r (a + byS c)
theorem txS_le : ∀ (l : List Nat) (a : Nat), txS l a ≤ a + 6 * l.length
  | [], a => by simp [txS]
  | c :: r, a => by
    have := txS_le r (a + byS c)
    have := byS_le c
    rw [txS]
    simp
    omega
theorem byteSize_any (c : Nat) (w : World) : Calls Tryz.prog 165 #[.int .u8 (c : Int)] w fun e w' => e = .returned (.int .i64 (byS c : Int)) ∧ w' = w := by
  have HI := Hid.mk' (Any.strings_IndexByte YtkplbggefiemdaaGreatDoor.lays137 mrk (c : Int) w)
  unfold byS
  generalize Lib.indexByte mrk.data.toList (c : Int).toNat.toUInt8 = x at HI ⊢
  by_cases h1 : 0 ≤ x
  · rw [if_pos h1]
    have d1 : decide (0 ≤ x) = true := by simp; omega
    clear h1
    go_enter Tryz.func165, Tryz.ntmps165
    go_wp2_with fail
    refine Calls.mono HI.out ?_
    rintro e w1 ⟨rfl, hw⟩
    have hw2 := hw.symm
    subst hw2
    clear hw
    go_wp2_with fail
    go_ret
    exact ⟨rfl, rfl⟩
  · rw [if_neg h1]
    have d1 : decide (0 ≤ x) = false := by simp; omega
    by_cases h2 : c < 32
    · rw [if_pos h2]
      have d2 : decide ((c : Int) < 32) = true := by simp; omega
      have d3 : decide (c < 32) = true := by simp; omega
      clear h1 h2
      go_enter Tryz.func165, Tryz.ntmps165
      go_wp2_with fail
      refine Calls.mono HI.out ?_
      rintro e w1 ⟨rfl, hw⟩
      have hw2 := hw.symm
      subst hw2
      clear hw
      go_wp2_with fail
      go_ret
      exact ⟨rfl, rfl⟩
    · rw [if_neg h2]
      have d2 : decide ((c : Int) < 32) = false := by simp; omega
      have d3 : decide (c < 32) = false := by simp; omega
      clear h1 h2
      go_enter Tryz.func165, Tryz.ntmps165
      go_wp2_with fail
      refine Calls.mono HI.out ?_
      rintro e w1 ⟨rfl, hw⟩
      have hw2 := hw.symm
      subst hw2
      clear hw
      go_wp2_with fail
      go_ret
      exact ⟨rfl, rfl⟩
set_option maxRecDepth 100000 in
set_option maxHeartbeats 4000000 in
theorem textSize_any (T : ByteArray) (w : World) (hT : T.size ≤ 281474976710656) : Calls Tryz.prog 134 #[.string T] w fun e w' => e = .returned (.int .i64 (txS (Sums.bl T) 2 : Int)) ∧ w' = w := by
  have hTI : (T.size : Int) ≤ 281474976710656 := by omega
  have HT := Hid.mk' hT
  obtain ⟨N, hN⟩ : ∃ N, txS (Sums.bl T) 2 = N := ⟨_, rfl⟩
  rw [hN]
  have HN := Hid.mk' hN
  clear hT hN
  go_enter Tryz.func134, Tryz.ntmps134
  go_wp2_with fail
  go_loopw [3, 7] (fun av iv wr => ∃ i a : Nat, av = .int .i64 ((a : Nat) : Int) ∧ iv = .int .i64 ((i : Nat) : Int) ∧ i ≤ T.size ∧ a ≤ 2 + 6 * i ∧ Hid (txS ((Sums.bl T).drop i) a = N) ∧ wr = w) (fun _ iv _ => T.size - (intOf iv).toNat)
  case atStart => exact ⟨0, 2, rfl, rfl, by omega, by omega, HN, rfl⟩
  case round =>
    obtain ⟨i, a, rfl, rfl, hi, ha, HA, hw⟩ := hrel
    subst hw
    by_cases hiT : i < T.size
    · have hiI : (i : Int) < (T.size : Int) := by omega
      obtain ⟨c, rest, hd⟩ : ∃ c rest, (Sums.bl T).drop i = c :: rest := by
        cases hd : (Sums.bl T).drop i with
        | nil => have := ob_nil T i (by omega) hd; omega
        | cons c rest => exact ⟨c, rest, rfl⟩
      have hidx := ob_idx T i c rest hd
      obtain ⟨_, hc256, hd1⟩ := ob_facts T i c rest hd
      have HA2 : Hid (txS ((Sums.bl T).drop (i + 1)) (a + byS c) = N) := Hid.mk' (by rw [← HA.out, hd, txS, hd1])
      have hb := byS_le c
      have HBC := Hid.mk' (fun W => byteSize_any c W)
      generalize byS c = b at HA2 hb HBC
      have haI : (a : Int) ≤ 2 + 6 * 281474976710656 := by have := HT.out; omega
      have hbI : (b : Int) ≤ 6 := by omega
      have HABI : Hid (a + b ≤ 2 + 6 * (i + 1)) := Hid.mk' (by omega)
      have hwr : IntKind.i64.wrap ((a : Int) + (b : Int)) = (a : Int) + (b : Int) := by rw [IntKind.wrap_i64]; omega
      clear hd hd1 HA ha hb
      go_wp2_with fail
      refine (HBC.out _).mono ?_
      rintro e w1 ⟨rfl, hw1⟩
      have hw2 := hw1.symm
      subst hw2
      clear hw1
      go_wp2_with fail
      go_roundw
      case rel => exact ⟨i + 1, a + b, by simp, by simp, by omega, HABI.out, HA2, trivial⟩
      case measure => simp [intOf]; omega
    · obtain rfl : i = T.size := by omega
      have hA := HA.out
      rw [List.drop_eq_nil_of_le (by rw [Sums.bl_length]; omega), txS] at hA
      subst hA
      clear HA
      go_wp2_with fail
      go_ret
      exact ⟨rfl, rfl⟩
end Go.Proofs.YtkplbggefiemdaaGreatDoor
