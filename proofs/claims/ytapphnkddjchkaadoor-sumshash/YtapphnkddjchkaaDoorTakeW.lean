/-
  What a row does to the four numbers of an XX64. Conditions: the row has 32 bytes, the four numbers lie side by side in one block.
-/
import Derived.Test.YtapphnkddjchkaaDoorRowsX
import Derived.Test.YtapphnkddjchkaaDoorLastW
import Derived.Deep.RegionWith
namespace Go.Proofs.YtapphnkddjchkaaDoor
open Go.RowKit
set_option linter.unusedVariables false
def roundJ (f : Sums.Four) (l : List Nat) (j : Nat) : Nat := Sums.round64 (fget f j) (Sums.w8 (l.drop (8 * j)))
def setToW (cs : List Value) (o : Nat) (f : Sums.Four) (l : List Nat) : Nat → List Value
  | 0 => cs
  | j + 1 => (setToW cs o f l j).set (o + j) (.int .u64 ((roundJ f l j : Nat) : Int))
theorem setToW_far (cs : List Value) (o : Nat) (f : Sums.Four) (l : List Nat) (i : Nat) : ∀ j, i < o ∨ o + j ≤ i → (setToW cs o f l j)[i]? = cs[i]?
  | 0, _ => rfl
  | j + 1, h => by
      rw [setToW, List.getElem?_set, if_neg (by omega)]
      exact setToW_far cs o f l i j (by omega)
set_option maxHeartbeats 2000000 in
theorem take64_any (g o : Nat) (t : TypeId) (cs : List Value) (f : Sums.Four) (s : ByteArray) (w : World) (hg : w.heap[g]? = some (.cells cs.toArray t (0, 0))) (hf : ∀ j, j < 4 → cs[o + j]? = some (.int .u64 ((fget f j : Nat) : Int))) (hl : ∀ j, j < 4 → fget f j < 18446744073709551616) (hs : 32 ≤ s.size) (hm : s.size ≤ maxLen) :
    Calls Tryd.prog 24 #[.pointer (some ⟨g, o, none⟩), .string s] w fun e w' => e = .returned (.tuple #[]) ∧ Put g t (setToW cs o f (Sums.bl s) 4) w w' := by
  unfold maxLen at hm
  have HF := Hid.mk' hf
  have HL := Hid.mk' hl
  have HP := Hid.mk' (Put.refl hg)
  clear hf hl hg
  go_enter Tryd.func24, Tryd.ntmps24
  go_wp2_with fail
  go_loopw [5] (fun i wr => ∃ j : Nat, j ≤ 4 ∧ i = .int .i64 (j : Int) ∧ Hid (Put g t (setToW cs o f (Sums.bl s) j) w wr)) (fun i _ => 4 - (intOf i).toNat)
  case atStart => exact ⟨0, by omega, rfl, HP⟩
  case round =>
    clear HP
    obtain ⟨j, hj, rfl, HP⟩ := hrel
    by_cases hlt : j < 4
    · have hj3 : (j : Int) < 4 := by omega
      have hsl : (8 : Int) * (j : Int) ≤ (s.size : Int) := by omega
      have hsl2 : ¬ (s.size : Int) < (8 : Int) * (j : Int) := by omega
      have hsl3 : ¬ s.size < 8 * j := by omega
      have hsl4 : (0 : Int) ≤ (8 : Int) * (j : Int) := by omega
      have hsl5 : ¬ (8 : Int) * (j : Int) < 0 := by omega
      have hwr : IntKind.i64.wrap ((8 : Int) * (j : Int)) = (8 : Int) * (j : Int) := by rw [IntKind.wrap_i64]; omega
      have htn : ((8 : Int) * (j : Int)).toNat = 8 * j := by omega
      have c1 : wr.cell? ⟨g, o + j, none⟩ = some (.int .u64 ((fget f j : Nat) : Int)) := HP.out.cell _ (by rw [setToW_far _ _ _ _ _ _ (by omega)]; exact HF.out j hlt)
      have f1 : wr.frozen? ⟨g, o + j, none⟩ = false := HP.out.frozen
      have hx := HL.out j hlt
      have hy := Sums.w8_lt (Sums.bl (s.extract (8 * j) s.size)) (Sums.bl_byt _)
      have HW : Hid (Sums.bl (s.extract (8 * j) s.size) = (Sums.bl s).drop (8 * j)) := Sums.bl_drop s (8 * j)
      have q3 : (s.extract (8 * j) s.size).size ≤ maxLen := by unfold maxLen; simp only [ByteArray.size_extract]; omega
      have q4 : 8 ≤ (s.extract (8 * j) s.size).size := by simp only [ByteArray.size_extract]; omega
      have HEV : Hid (Sums.round64 (fget f j) (Sums.w8 (Sums.bl (s.extract (8 * j) s.size))) = roundJ f (Sums.bl s) j) := by
        show _ = _
        rw [roundJ, ← HW.out]
      go_wp2_with fail
      go_region_with (first | (go_at_call 33; refine (word64_any (s.extract (8 * j) s.size) _ q3 q4).mono ?_; rintro e w1 ⟨rfl, n1, rfl⟩) | (go_at_call 32; refine (round_any (fget f j) (Sums.w8 (Sums.bl (s.extract (8 * j) s.size))) _ hx hy).mono ?_; rintro e w1 ⟨rfl, rfl⟩))
      all_goals
        rw [HEV.out]
        clear hsl hsl2 hsl3 hsl4 hsl5 hwr htn q3 q4 hy hx c1 f1 HEV HW
        go_wp2_with fail
        go_roundw
        case rel => exact ⟨j + 1, by omega, by go_num, (HP.out.drewN _).setCell _⟩
        case measure => simp [intOf]; omega
    · obtain rfl : j = 4 := by omega
      go_wp2_with fail
      go_end0
      exact ⟨rfl, HP.out⟩
end Go.Proofs.YtapphnkddjchkaaDoor
