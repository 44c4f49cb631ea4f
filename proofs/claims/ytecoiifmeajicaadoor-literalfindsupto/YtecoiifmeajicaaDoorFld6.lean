/-
  What the laws' folded and the document's Folded, Small do. Conditions: as each says.
-/
import Derived.Test.YtecoiifmeajicaaDoorHlp6
import Derived.OwnWalk
import Derived.Laws.Strings
namespace Go.Proofs.YtecoiifmeajicaaDoor
open Go.RowKit
set_option linter.unusedVariables false
def foldTo (s : ByteArray) (j : Nat) : List Nat := (List.range j).map fun q => Swar.small (Swar.bt s q)
theorem foldTo_len (s : ByteArray) (j : Nat) : (foldTo s j).length = j := by simp [foldTo]
theorem foldTo_step (s : ByteArray) (j : Nat) : foldTo s (j + 1) = foldTo s j ++ [Swar.small (Swar.bt s j)] := by
  unfold foldTo
  rw [List.range_succ, List.map_append]
  rfl
theorem bytes_bt (l : List Nat) (hl : ∀ z ∈ l, z < 256) (i : Nat) (hi : i < l.length) : Swar.bt (nums l) i = l.getD i 0 := by
  have h : i < (nums l).size := by rw [nums_size]; exact hi
  rw [Swar.bt_in h]
  have e : (nums l)[i] = UInt8.ofNat l[i] := by
    show ((l.map fun z => ((z : Nat) : Int)).map fun n => UInt8.ofNat n.toNat).toArray[i] = _
    simp
  rw [e, List.getD_eq_getElem?_getD, List.getElem?_eq_getElem hi]
  exact UInt8.toNat_ofNat_of_lt (hl _ (List.getElem_mem hi))
theorem nums_fold (s : ByteArray) : nums (foldTo s s.size) = Swar.foldL s := by
  have hall : ∀ z ∈ foldTo s s.size, z < 256 := by
    intro z hz
    obtain ⟨q, _, rfl⟩ := List.mem_map.1 hz
    exact Swar.small_lt _ (Swar.bt_lt _ _)
  have hlen : (foldTo s s.size).length = s.size := foldTo_len _ _
  have hz : (nums (foldTo s s.size)).size = s.size := by rw [nums_size]; exact hlen
  refine Swar.ext_bt _ _ (by rw [hz, Swar.fold_size]) (fun i hi => ?_)
  rw [hz] at hi
  rw [bytes_bt _ hall i (by omega), Swar.bt_fold]
  unfold foldTo
  rw [List.getD_eq_getElem?_getD, List.getElem?_map, List.getElem?_range (by omega)]
  rfl
theorem refSmall6_any (c : Nat) (w : World) (hc : c < 256) :
    Calls Tryd.prog 35 #[.int .u8 (c : Int)] w fun e w' => e = .returned (.int .u8 ((Swar.small c : Nat) : Int)) ∧ w' = w := by
  have hcI : (c : Int) < 256 := by omega
  by_cases h : 65 ≤ c
  · have d1 : decide ((65 : Int) ≤ (c : Int)) = true := decide_eq_true (by omega)
    have e1 : (65 : Int) ≤ (c : Int) := by omega
    by_cases h2 : c ≤ 90
    · have d2 : decide ((c : Int) ≤ 90) = true := decide_eq_true (by omega)
      have e2 : (c : Int) ≤ 90 := by omega
      have HV : Hid (((Swar.small c : Nat) : Int) = (c : Int) + 32) := by show _ = _; unfold Swar.small; rw [if_pos ⟨h, h2⟩]; omega
      clear h h2
      go_enter Tryd.func35, Tryd.ntmps35
      go_wp2_with fail
      go_ret
      exact ⟨by rw [HV.out]; rfl, rfl⟩
    · have d2 : decide ((c : Int) ≤ 90) = false := decide_eq_false (by omega)
      have e2 : ¬ (c : Int) ≤ 90 := by omega
      have HV : Hid (Swar.small c = c) := by show _ = _; unfold Swar.small; rw [if_neg (by omega)]
      clear h h2
      go_enter Tryd.func35, Tryd.ntmps35
      go_wp2_with fail
      go_ret
      exact ⟨by rw [HV.out]; rfl, rfl⟩
  · have d1 : decide ((65 : Int) ≤ (c : Int)) = false := decide_eq_false (by omega)
    have e1 : ¬ (65 : Int) ≤ (c : Int) := by omega
    have HV : Hid (Swar.small c = c) := by show _ = _; unfold Swar.small; rw [if_neg (by omega)]
    clear h
    go_enter Tryd.func35, Tryd.ntmps35
    go_wp2_with fail
    go_ret
    exact ⟨by rw [HV.out]; rfl, rfl⟩
set_option maxHeartbeats 1000000 in
theorem refFolded6_any (s : ByteArray) (w : World) (hs : s.size ≤ 140737488351232) :
    Calls Tryd.prog 34 #[.string s] w fun e w' => e = .returned (.string (Swar.foldL s)) ∧ Below w.heap.size w w' := by
  obtain ⟨i0, hi, hz0, hz1, hz2⟩ := info_parts infoB
  have HFT := Hid.mk' (nums_fold s)
  go_enter Tryd.func34, Tryd.ntmps34
  go_wp2_with fail
  go_loopw [3, 4] (fun v i wr => ∃ j : Nat, j ≤ s.size ∧ i = .int .i64 (j : Int) ∧ wr.ownsRow w.heap.size 5 1 v j (byv (foldTo s j)) ∧ Below w.heap.size w wr) (fun _ i _ => s.size - (intOf i).toNat)
  case atStart => exact ⟨0, by omega, rfl, by simp [foldTo, byv]; exact World.ownsRow_nil _ _ _ _, Below.refl _ _⟩
  case round =>
    obtain ⟨j, hj, rfl, hown, hb⟩ := hrel
    by_cases hlt : j < s.size
    · have hj3 : (j : Int) < (s.size : Int) := by omega
      have hBs := hb.size
      have hby := Swar.bt_lt s j
      have hix := idx_byte s j hlt
      have HST := Hid.mk' (foldTo_step s j)
      generalize Swar.bt s j = x at *
      go_wp2_with fail
      refine (refSmall6_any x _ hby).mono ?_
      rintro e w1 ⟨rfl, rfl⟩
      go_wp2_with (first | (at_builtin; refine wpList_append_own _ rfl _ _ 64 rfl w.heap.size 5 i0 (.int .u8 0) 1 1 Tryd.underlying64 hi hz0 hz1 hz2 rfl (by decide) _ _ _ rfl (hown.alloc _) ⟨w1.heap.size, 0, none⟩ 1 1 [.int .u8 ((Swar.small x : Nat) : Int)] rfl rfl ?c1 ?c2 ?c3 ?c4 ?c5 ?_) | fail)
      case c1 => exact cell_one_new _ _ _
      case c2 => intro u hu; simp at hu; subst hu; rfl
      case c3 => unfold maxLen; omega
      case c4 => omega
      case c5 => simp; omega
      · intro v' w2 hown' hgrow _
        have R2 := own_rel hBs hown hb hgrow
        have R1 : w2.ownsRow w.heap.size 5 1 v' (j + 1) (byv (foldTo s (j + 1))) := by
          rw [HST.out, byv_append]
          exact hown'
        clear hown' hgrow hown hb hBs
        go_wp2_with fail
        go_roundw
        case rel => exact ⟨j + 1, by omega, by go_num, R1, R2⟩
        case measure => simp [intOf]; omega
    · obtain rfl : j = s.size := by omega
      have hcv := conv_own w.heap.size s.size (foldTo s s.size) wr _ (foldTo_len _ _) hown
      rw [HFT.out] at hcv
      have hlt' : ¬ (s.size : Int) < (s.size : Int) := by omega
      clear hown
      go_wp2_with fail
      go_ret
      exact ⟨rfl, hb⟩
set_option maxHeartbeats 1000000 in
theorem folded6_any (s : ByteArray) (w : World) (hs : s.size ≤ 140737488351232) :
    Calls Tryd.prog 28 #[.string s] w fun e w' => e = .returned (.string (Swar.foldL s)) ∧ Below w.heap.size w w' := by
  obtain ⟨i0, hi, hz0, hz1, hz2⟩ := info_parts infoB
  have HFT := Hid.mk' (nums_fold s)
  go_enter Tryd.func28, Tryd.ntmps28
  go_wp2_with fail
  go_loopw [3, 4] (fun v i wr => ∃ j : Nat, j ≤ s.size ∧ i = .int .i64 (j : Int) ∧ wr.ownsRow w.heap.size 5 1 v j (byv (foldTo s j)) ∧ Below w.heap.size w wr) (fun _ i _ => s.size - (intOf i).toNat)
  case atStart => exact ⟨0, by omega, rfl, by simp [foldTo, byv]; exact World.ownsRow_nil _ _ _ _, Below.refl _ _⟩
  case round =>
    obtain ⟨j, hj, rfl, hown, hb⟩ := hrel
    by_cases hlt : j < s.size
    · have hj3 : (j : Int) < (s.size : Int) := by omega
      have hBs := hb.size
      have hby := Swar.bt_lt s j
      have hix := idx_byte s j hlt
      have HST := Hid.mk' (foldTo_step s j)
      generalize Swar.bt s j = x at *
      go_wp2_with fail
      refine (small6_any x true _ hby).mono ?_
      rintro e w1 ⟨rfl, rfl⟩
      rw [show Lit.cs true x = Swar.small x from rfl]
      go_wp2_with (first | (at_builtin; refine wpList_append_own _ rfl _ _ 64 rfl w.heap.size 5 i0 (.int .u8 0) 1 1 Tryd.underlying64 hi hz0 hz1 hz2 rfl (by decide) _ _ _ rfl (hown.alloc _) ⟨w1.heap.size, 0, none⟩ 1 1 [.int .u8 ((Swar.small x : Nat) : Int)] rfl rfl ?c1 ?c2 ?c3 ?c4 ?c5 ?_) | fail)
      case c1 => exact cell_one_new _ _ _
      case c2 => intro u hu; simp at hu; subst hu; rfl
      case c3 => unfold maxLen; omega
      case c4 => omega
      case c5 => simp; omega
      · intro v' w2 hown' hgrow _
        have R2 := own_rel hBs hown hb hgrow
        have R1 : w2.ownsRow w.heap.size 5 1 v' (j + 1) (byv (foldTo s (j + 1))) := by
          rw [HST.out, byv_append]
          exact hown'
        clear hown' hgrow hown hb hBs
        go_wp2_with fail
        go_roundw
        case rel => exact ⟨j + 1, by omega, by go_num, R1, R2⟩
        case measure => simp [intOf]; omega
    · obtain rfl : j = s.size := by omega
      have hcv := conv_own w.heap.size s.size (foldTo s s.size) wr _ (foldTo_len _ _) hown
      rw [HFT.out] at hcv
      have hlt' : ¬ (s.size : Int) < (s.size : Int) := by omega
      clear hown
      go_wp2_with fail
      go_ret
      exact ⟨rfl, hb⟩
end Go.Proofs.YtecoiifmeajicaaDoor
