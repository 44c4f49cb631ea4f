/-
  What the document's Fold and SameFold do. Condition: the texts are no longer than any text that is read can be.
-/
import Derived.Test.YtlejfeapnnioeaaRefKern
import Derived.Test.YtlejfeapnnioeaaFoldS
import Derived.Test.YtlejfeapnnioeaaCompare
import Derived.OwnWalk
import Derived.Laws.Strings
namespace Go.Proofs.Ytlejfeapnnioeaa
open Go.RowKit
set_option linter.unusedVariables false
def foldTo (s : ByteArray) (j : Nat) : List Nat := (List.range j).map fun q => Swar.small (Swar.bt s q)
theorem foldTo_len (s : ByteArray) (j : Nat) : (foldTo s j).length = j := by simp [foldTo]
theorem foldTo_step (s : ByteArray) (j : Nat) : foldTo s (j + 1) = foldTo s j ++ [Swar.small (Swar.bt s j)] := by
  unfold foldTo
  rw [List.range_succ, List.map_append]
  rfl
theorem bytes_bt (l : List Nat) (hl : ∀ z ∈ l, z < 256) (i : Nat) (hi : i < l.length) : Swar.bt (strOfNums (l.map fun z => ((z : Nat) : Int))) i = l.getD i 0 := by
  have h : i < (strOfNums (l.map fun z => ((z : Nat) : Int))).size := by rw [strOfNums_size]; simpa using hi
  rw [Swar.bt_in h]
  have e : (strOfNums (l.map fun z => ((z : Nat) : Int)))[i] = UInt8.ofNat l[i] := by
    show ((l.map fun z => ((z : Nat) : Int)).map fun n => UInt8.ofNat n.toNat).toArray[i] = _
    simp
  rw [e, List.getD_eq_getElem?_getD, List.getElem?_eq_getElem hi]
  exact UInt8.toNat_ofNat_of_lt (hl _ (List.getElem_mem hi))
theorem fold_text (s : ByteArray) (w wr : World) (v : Value) (hown : wr.ownsRow w.heap.size 5 1 v s.size (byv (foldTo s s.size))) :
    (convert 54 9 v).run Try.prog wr = .ok (.string (Swar.foldL s)) wr := by
  have hall : ∀ z ∈ foldTo s s.size, z < 256 := by
    intro z hz
    obtain ⟨q, _, rfl⟩ := List.mem_map.1 hz
    exact Swar.small_lt _ (Swar.bt_lt _ _)
  have hlen : (foldTo s s.size).length = s.size := foldTo_len _ _
  have hget : ∀ i, i < s.size → (foldTo s s.size).getD i 0 = Swar.small (Swar.bt s i) := by
    intro i hi
    unfold foldTo
    rw [List.getD_eq_getElem?_getD, List.getElem?_map, List.getElem?_range (by omega)]
    rfl
  have ht : strOfNums ((foldTo s s.size).map fun z => ((z : Nat) : Int)) = Swar.foldL s := by
    have hz : (strOfNums ((foldTo s s.size).map fun z => ((z : Nat) : Int))).size = s.size := by rw [strOfNums_size]; simp [hlen]
    refine Swar.ext_bt _ _ (by rw [hz, Swar.fold_size]) (fun i hi => ?_)
    rw [hz] at hi
    rw [bytes_bt _ hall i (by omega), hget i hi, Swar.bt_fold]
  rw [← ht]
  rcases hown.2 with ⟨rfl, h0⟩ | ⟨g, cap, cur, rfl, _⟩
  · rw [run_convert_bytes_nil wr 54 5 Try.underlying54 Try.underlying5 0 0 9 Try.underlying9]
    have e : foldTo s s.size = [] := List.length_eq_zero_iff.1 (by omega)
    rw [e]
    rfl
  · refine run_convert_bytes_arg wr 54 5 Try.underlying54 Try.underlying5 g 0 s.size cap _ (by simp [hlen]) (fun i hi => ?_) 9 Try.underlying9
    rw [Nat.zero_add, hown.cellAt i (by omega)]
    unfold byv
    rw [List.getElem?_map, List.getD_eq_getElem?_getD, List.getElem?_map, List.getElem?_eq_getElem (show i < (foldTo s s.size).length by omega)]
    rfl
set_option maxHeartbeats 1000000 in
theorem refFold_any (s : ByteArray) (w : World) (hs : s.size ≤ 140737488351232) :
    Calls Try.prog 41 #[.string s] w fun e w' => e = .returned (.string (Swar.foldL s)) ∧ Below w.heap.size w w' := by
  obtain ⟨i0, hi, hz0, hz1, hz2⟩ := info_parts infoB
  go_enter Try.func41, Try.ntmps41
  go_wp2_with fail
  go_loopw [3, 4] (fun v i wr => ∃ j : Nat, j ≤ s.size ∧ i = .int .i64 (j : Int) ∧ wr.ownsRow w.heap.size 5 1 v j (byv (foldTo s j)) ∧ Below w.heap.size w wr) (fun _ i _ => s.size - (intOf i).toNat)
  case atStart => exact ⟨0, by omega, rfl, by simp [foldTo, byv]; exact World.ownsRow_nil _ _ _ _, Below.refl _ _⟩
  case round =>
    obtain ⟨j, hj, rfl, hown, hb⟩ := hrel
    by_cases hlt : j < s.size
    · have hj3 : (j : Int) < (s.size : Int) := by omega
      have hBs := hb.size
      have hby := Swar.bt_lt s j
      go_wp2_with fail
      refine (small_any s[j].toNat _ (by rw [← Swar.bt_in hlt]; exact hby)).mono ?_
      rintro e w1 ⟨rfl, rfl⟩
      go_wp2_with (first | (at_builtin; refine wpList_append_own _ rfl _ _ 54 rfl w.heap.size 5 i0 (.int .u8 0) 1 1 Try.underlying54 hi hz0 hz1 hz2 rfl (by decide) _ _ _ rfl (hown.alloc _) ⟨w1.heap.size, 0, none⟩ 1 1 [.int .u8 ((Swar.small s[j].toNat : Nat) : Int)] rfl rfl ?c1 ?c2 ?c3 ?c4 ?c5 ?_) | fail)
      case c1 => exact cell_one_new _ _ _
      case c2 => intro u hu; simp at hu; subst hu; rfl
      case c3 => unfold maxLen; omega
      case c4 => omega
      case c5 => simp; omega
      · intro v' w2 hown' hgrow _
        have R2 := own_rel hBs hown hb hgrow
        have R1 : w2.ownsRow w.heap.size 5 1 v' (j + 1) (byv (foldTo s (j + 1))) := by
          rw [foldTo_step]
          unfold byv at *
          rw [List.map_append, Swar.bt_in hlt]
          exact hown'
        clear hown' hgrow hown hb hBs
        go_wp2_with fail
        go_roundw
        case rel => exact ⟨j + 1, by omega, by go_num, R1, R2⟩
        case measure => simp [intOf]; omega
    · obtain rfl : j = s.size := by omega
      have hcv := fold_text s w wr _ hown
      have hlt' : ¬ (s.size : Int) < (s.size : Int) := by omega
      clear hown
      go_wp2_with fail
      go_ret
      exact ⟨rfl, hb⟩
end Go.Proofs.Ytlejfeapnnioeaa
