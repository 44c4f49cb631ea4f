/-
  What the law's text is: a number's bytes, the lowest first. Conditions: the number is of 64 bits, the width 8 at most.
-/
import Derived.Test.YtnbcmobdenjjfabDoorExam
import Derived.Test.YtnbcmobdenjjfabDoorSumC
import Derived.OwnWalk
import Derived.Laws.Strings
namespace Go.Proofs.YtnbcmobdenjjfabDoor
open Go.RowKit
set_option linter.unusedVariables false
theorem infoB : (Tryd.prog.info? 5).map (fun i => (i.zero, i.size, i.bytes)) = some (some (.int .u8 0), 1, 1) := by kernel_rfl
theorem own_rel {w wr w1 : World} {v : Value} {B n : Nat} {xs : List Value} {o : Obj} (hB : B ≤ wr.heap.size) (hown : wr.ownsRow B 5 1 v n xs) (hb : Below B w wr) (hg : (wr.alloc o).grownBy w1 v.ownBlock) : Below B w w1 :=
  (hb.alloc hB o).grown hg (by simp; omega) (fun k hk => (hown.lt k hk).1)
/-- the first j bytes of a number -/
def cutL (n j : Nat) : List Nat := (List.range j).map fun q => n / 2 ^ (8 * q) % 256
theorem cutL_len (n j : Nat) : (cutL n j).length = j := by simp [cutL]
theorem cutL_step (n j : Nat) : cutL n (j + 1) = cutL n j ++ [n / 2 ^ (8 * j) % 256] := by
  unfold cutL
  rw [List.range_succ, List.map_append]
  rfl
theorem cutL_byt (n j : Nat) : ∀ z ∈ cutL n j, z < 256 := by
  intro z hz
  obtain ⟨q, _, rfl⟩ := List.mem_map.1 hz
  exact Nat.mod_lt _ (by decide)
theorem w4_cut (n : Nat) (hn : n < 4294967296) : Sums.w4 (cutL n 4) = n := by
  show n / 2 ^ (8 * 0) % 256 + 256 * (n / 2 ^ (8 * 1) % 256) + 65536 * (n / 2 ^ (8 * 2) % 256) + 16777216 * (n / 2 ^ (8 * 3) % 256) = n
  simp only [Nat.mul_zero, Nat.pow_zero, Nat.reduceMul, Nat.reducePow]
  omega
theorem w8_cut (n : Nat) (hn : n < 18446744073709551616) : Sums.w8 (cutL n 8) = n := by
  show (n / 2 ^ (8 * 0) % 256 + 256 * (n / 2 ^ (8 * 1) % 256) + 65536 * (n / 2 ^ (8 * 2) % 256) + 16777216 * (n / 2 ^ (8 * 3) % 256)) + 4294967296 * (n / 2 ^ (8 * 4) % 256 + 256 * (n / 2 ^ (8 * 5) % 256) + 65536 * (n / 2 ^ (8 * 6) % 256) + 16777216 * (n / 2 ^ (8 * 7) % 256)) = n
  simp only [Nat.mul_zero, Nat.pow_zero, Nat.reduceMul, Nat.reducePow]
  omega
def textS (n j : Nat) : ByteArray := strOfNums ((cutL n j).map fun z => ((z : Nat) : Int))
theorem bl_textS (n j : Nat) : Sums.bl (textS n j) = cutL n j := bl_nums _ (cutL_byt n j)
theorem text_conv (n m : Nat) (w wr : World) (v : Value) (hown : wr.ownsRow w.heap.size 5 1 v m (byv (cutL n m))) :
    (convert 22 9 v).run Tryd.prog wr = .ok (.string (textS n m)) wr := by
  have hlen : (cutL n m).length = m := cutL_len _ _
  rcases hown.2 with ⟨rfl, h0⟩ | ⟨g, cap, cur, rfl, _⟩
  · rw [run_convert_bytes_nil wr 22 5 Tryd.underlying22 Tryd.underlying5 0 0 9 Tryd.underlying9]
    have e : cutL n m = [] := List.length_eq_zero_iff.1 (by omega)
    unfold textS
    rw [e]
    rfl
  · refine run_convert_bytes_arg wr 22 5 Tryd.underlying22 Tryd.underlying5 g 0 m cap _ (by simp [hlen]) (fun i hi => ?_) 9 Tryd.underlying9
    rw [Nat.zero_add, hown.cellAt i (by omega)]
    unfold byv
    rw [List.getElem?_map, List.getD_eq_getElem?_getD, List.getElem?_map, List.getElem?_eq_getElem (show i < (cutL n m).length by omega)]
    rfl
theorem byte_bits (n j : Nat) : (n : Int) / 2 ^ (8 * j) % 256 = ((n / 2 ^ (8 * j) % 256 : Nat) : Int) := by simp
set_option maxHeartbeats 1000000 in
theorem text_any (n m : Nat) (w : World) (hn : n < 18446744073709551616) (hm : m ≤ 8) :
    Calls Tryd.prog 11 #[.int .u64 (n : Int), .int .i64 (m : Int)] w fun e w' => e = .returned (.string (textS n m)) ∧ Below w.heap.size w w' := by
  obtain ⟨i0, hi, hz0, hz1, hz2⟩ := info_parts infoB
  go_enter Tryd.func11, Tryd.ntmps11
  go_wp2_with fail
  go_loopw [5, 6] (fun v i wr => ∃ j : Nat, j ≤ m ∧ i = .int .i64 (j : Int) ∧ wr.ownsRow w.heap.size 5 1 v j (byv (cutL n j)) ∧ Below w.heap.size w wr) (fun _ i _ => m - (intOf i).toNat)
  case atStart => exact ⟨0, by omega, rfl, by simp [cutL, byv]; exact World.ownsRow_nil _ _ _ _, Below.refl _ _⟩
  case round =>
    obtain ⟨j, hj, rfl, hown, hb⟩ := hrel
    by_cases hlt : j < m
    · have hj3 : (j : Int) < (m : Int) := by omega
      have hBs := hb.size
      have HB := Hid.mk' (byte_bits n j)
      go_wp2_with (first | (at_builtin; refine wpList_append_own _ rfl _ _ 22 rfl w.heap.size 5 i0 (.int .u8 0) 1 1 Tryd.underlying22 hi hz0 hz1 hz2 rfl (by decide) _ _ _ rfl (hown.alloc _) ⟨wr.heap.size, 0, none⟩ 1 1 [.int .u8 ((n / 2 ^ (8 * j) % 256 : Nat) : Int)] rfl rfl ?c1 ?c2 ?c3 ?c4 ?c5 ?_) | fail)
      case c1 => rw [HB.out]; exact cell_one_new _ _ _
      case c2 => intro u hu; simp at hu; subst hu; rfl
      case c3 => unfold maxLen; omega
      case c4 => omega
      case c5 => simp; omega
      · intro v' w2 hown' hgrow _
        have R2 := own_rel hBs hown hb hgrow
        have R1 : w2.ownsRow w.heap.size 5 1 v' (j + 1) (byv (cutL n (j + 1))) := by
          rw [cutL_step]
          unfold byv at *
          rw [List.map_append]
          exact hown'
        clear hown' hgrow hown hb hBs HB
        go_wp2_with fail
        go_roundw
        case rel => exact ⟨j + 1, by omega, by go_num, R1, R2⟩
        case measure => simp [intOf]; omega
    · obtain rfl : j = m := by omega
      have hcv := text_conv n j w wr _ hown
      have hlt' : ¬ (j : Int) < (j : Int) := by omega
      clear hown
      go_wp2_with fail
      go_ret
      exact ⟨rfl, hb⟩
end Go.Proofs.YtnbcmobdenjjfabDoor
