/-
  What a row does to the four numbers of an XX32. Conditions: the row has 16 bytes, the four numbers lie side by side in one block.
-/
import Derived.Test.YtapphnkddjchkaaDoorHash
import Derived.Deep.RegionWith
namespace Go.Proofs.YtapphnkddjchkaaDoor
open Go.RowKit
set_option linter.unusedVariables false
def fget (f : Sums.Four) (j : Nat) : Nat := [f.a, f.b, f.c, f.d].getD j 0
def laneJ (f : Sums.Four) (l : List Nat) (j : Nat) : Nat := Sums.lane (fget f j) (Sums.w4 (l.drop (4 * j)))
def setTo (cs : List Value) (o : Nat) (f : Sums.Four) (l : List Nat) : Nat → List Value
  | 0 => cs
  | j + 1 => (setTo cs o f l j).set (o + j) (.int .u32 ((laneJ f l j : Nat) : Int))
theorem setTo_far (cs : List Value) (o : Nat) (f : Sums.Four) (l : List Nat) (i : Nat) : ∀ j, i < o ∨ o + j ≤ i → (setTo cs o f l j)[i]? = cs[i]?
  | 0, _ => rfl
  | j + 1, h => by
      rw [setTo, List.getElem?_set, if_neg (by omega)]
      exact setTo_far cs o f l i j (by omega)
theorem word_bits (x y : Nat) (hx : x < 4294967296) (hy : y < 4294967296) : ((x : Int) + (y : Int) * 2246822519 % 4294967296) % 4294967296 = (((x + y * 2246822519) % 4294967296 : Nat) : Int) := by omega
set_option maxHeartbeats 2000000 in
theorem take_any (g o : Nat) (t : TypeId) (cs : List Value) (f : Sums.Four) (s : ByteArray) (w : World) (hg : w.heap[g]? = some (.cells cs.toArray t (0, 0))) (hf : ∀ j, j < 4 → cs[o + j]? = some (.int .u32 ((fget f j : Nat) : Int))) (hl : ∀ j, j < 4 → fget f j < 4294967296) (hs : 16 ≤ s.size) (hm : s.size ≤ maxLen) :
    Calls Tryd.prog 16 #[.pointer (some ⟨g, o, none⟩), .string s] w fun e w' => e = .returned (.tuple #[]) ∧ Put g t (setTo cs o f (Sums.bl s) 4) w w' := by
  unfold maxLen at hm
  have HF := Hid.mk' hf
  have HL := Hid.mk' hl
  have HP := Hid.mk' (Put.refl hg)
  clear hf hl hg
  go_enter Tryd.func16, Tryd.ntmps16
  go_wp2_with fail
  go_loopw [5] (fun i wr => ∃ j : Nat, j ≤ 4 ∧ i = .int .i64 (j : Int) ∧ Hid (Put g t (setTo cs o f (Sums.bl s) j) w wr)) (fun i _ => 4 - (intOf i).toNat)
  case atStart => exact ⟨0, by omega, rfl, HP⟩
  case round =>
    clear HP
    obtain ⟨j, hj, rfl, HP⟩ := hrel
    by_cases hlt : j < 4
    · have hj3 : (j : Int) < 4 := by omega
      have hsl : (4 : Int) * (j : Int) ≤ (s.size : Int) := by omega
      have hsl2 : ¬ (s.size : Int) < (4 : Int) * (j : Int) := by omega
      have hsl3 : ¬ s.size < 4 * j := by omega
      have hsl4 : (0 : Int) ≤ (4 : Int) * (j : Int) := by omega
      have hsl5 : ¬ (4 : Int) * (j : Int) < 0 := by omega
      have hwr : IntKind.i64.wrap ((4 : Int) * (j : Int)) = (4 : Int) * (j : Int) := by rw [IntKind.wrap_i64]; omega
      have htn : ((4 : Int) * (j : Int)).toNat = 4 * j := by omega
      have c1 : wr.cell? ⟨g, o + j, none⟩ = some (.int .u32 ((fget f j : Nat) : Int)) := HP.out.cell _ (by rw [setTo_far _ _ _ _ _ _ (by omega)]; exact HF.out j hlt)
      have f1 : wr.frozen? ⟨g, o + j, none⟩ = false := HP.out.frozen
      have hx := HL.out j hlt
      have hy := Sums.w4_lt (Sums.bl (s.extract (4 * j) s.size)) (Sums.bl_byt _)
      have HW : Hid (Sums.bl (s.extract (4 * j) s.size) = (Sums.bl s).drop (4 * j)) := Sums.bl_drop s (4 * j)
      have q3 : (s.extract (4 * j) s.size).size ≤ maxLen := by unfold maxLen; simp only [ByteArray.size_extract]; omega
      have q4 : 4 ≤ (s.extract (4 * j) s.size).size := by simp only [ByteArray.size_extract]; omega
      have EV : IntKind.u32.wrap (((Sums.rot32 ((fget f j + Sums.w4 (Sums.bl (s.extract (4 * j) s.size)) * 2246822519) % 4294967296) 13 : Nat) : Int) * 2654435761) = ((laneJ f (Sums.bl s) j : Nat) : Int) := by
        rw [laneJ, ← HW.out, Sums.lane, IntKind.wrap_u32]; omega
      have HEV := Hid.mk' EV
      clear EV
      go_wp2_with fail
      go_region_with (first | (go_at_call 27; refine (word32_any (s.extract (4 * j) s.size) _ q3 q4).mono ?_; rintro e w1 ⟨rfl, n1, rfl⟩) | (go_at_call 26; refine (rotl32_i _ ((fget f j + Sums.w4 (Sums.bl (s.extract (4 * j) s.size)) * 2246822519) % 4294967296) 13 _ (by (try simp only [IntKind.wrap_u32]); omega) (by omega) (by omega) (by omega) 13 rfl).mono ?_; rintro e w1 ⟨rfl, rfl⟩))
      all_goals
        rw [HEV.out]
        clear hsl hsl2 hsl3 hsl4 hsl5 hwr htn q3 q4 hy hx c1 f1 HEV HW
        go_wp2_with fail
        go_roundw
        case rel => exact ⟨j + 1, by omega, by go_num, (HP.out.drewN _).setCell _⟩
        case measure => simp [intOf]; omega
    · obtain rfl : j = 4 := by omega
      go_wp2_with fail
      go_end0
      exact ⟨rfl, HP.out⟩
end Go.Proofs.YtapphnkddjchkaaDoor
