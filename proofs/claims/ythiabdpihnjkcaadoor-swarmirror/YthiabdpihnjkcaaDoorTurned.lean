/-
  What the laws' turned does: it returns the text from its end to its front. Condition: the text is no longer than any text that is read can be.
-/
import Derived.Test.YthiabdpihnjkcaaDoorStr
import Derived.OwnWalk
namespace Go.Proofs.YthiabdpihnjkcaaDoor
open Go.RowKit
set_option linter.unusedVariables false
theorem infoB : (Tryd.prog.info? 5).map (fun i => (i.zero, i.size, i.bytes)) = some (some (.int .u8 0), 1, 1) := by kernel_rfl
def cellsB (l : List Nat) : List Value := l.map fun z => Value.int .u8 ((z : Nat) : Int)
def turnTo (s : ByteArray) (j : Nat) : List Nat := (List.range (s.size - j)).map fun q => Swar.bt s (s.size - 1 - q)
theorem turnTo_len (s : ByteArray) (j : Nat) : (turnTo s j).length = s.size - j := by simp [turnTo]
theorem turnTo_step (s : ByteArray) (j : Nat) (h0 : 0 < j) (h : j ≤ s.size) : turnTo s (j - 1) = turnTo s j ++ [Swar.bt s (j - 1)] := by
  unfold turnTo
  rw [show s.size - (j - 1) = (s.size - j) + 1 by omega, List.range_succ, List.map_append]
  congr 1
  simp only [List.map_cons, List.map_nil]
  congr 2
  omega
theorem turn_rel {w wr w1 : World} {v : Value} {B n : Nat} {xs : List Value} {o : Obj} (hB : B ≤ wr.heap.size) (hown : wr.ownsRow B 5 1 v n xs) (hb : Below B w wr) (hg : (wr.alloc o).grownBy w1 v.ownBlock) : Below B w w1 :=
  (hb.alloc hB o).grown hg (by simp; omega) (fun k hk => (hown.lt k hk).1)
theorem bytes_bt (l : List Nat) (hl : ∀ z ∈ l, z < 256) (i : Nat) (hi : i < l.length) : Swar.bt (strOfNums (l.map fun z => ((z : Nat) : Int))) i = l.getD i 0 := by
  have h : i < (strOfNums (l.map fun z => ((z : Nat) : Int))).size := by rw [strOfNums_size]; simpa using hi
  rw [Swar.bt_in h]
  have e : (strOfNums (l.map fun z => ((z : Nat) : Int)))[i] = UInt8.ofNat l[i] := by
    show ((l.map fun z => ((z : Nat) : Int)).map fun n => UInt8.ofNat n.toNat).toArray[i] = _
    simp
  rw [e, List.getD_eq_getElem?_getD, List.getElem?_eq_getElem hi]
  exact UInt8.toNat_ofNat_of_lt (hl _ (List.getElem_mem hi))
theorem turn_text (s : ByteArray) (w wr : World) (v : Value) (hown : wr.ownsRow w.heap.size 5 1 v s.size (cellsB (turnTo s 0))) :
    ∃ t : ByteArray, t.size = s.size ∧ Hid (∀ i, i < s.size → Swar.bt t i = Swar.bt s (s.size - 1 - i)) ∧ (convert 29 9 v).run Tryd.prog wr = .ok (.string t) wr := by
  have hall : ∀ z ∈ turnTo s 0, z < 256 := by
    intro z hz
    obtain ⟨q, _, rfl⟩ := List.mem_map.1 hz
    exact Swar.bt_lt _ _
  have hlen : (turnTo s 0).length = s.size := by rw [turnTo_len]; omega
  have hget : ∀ i, i < s.size → (turnTo s 0).getD i 0 = Swar.bt s (s.size - 1 - i) := by
    intro i hi
    unfold turnTo
    rw [List.getD_eq_getElem?_getD, List.getElem?_map, List.getElem?_range (by omega)]
    rfl
  refine ⟨strOfNums ((turnTo s 0).map fun z => ((z : Nat) : Int)), by rw [strOfNums_size]; simp [hlen], fun i hi => by rw [bytes_bt _ hall i (by omega), hget i hi], ?_⟩
  rcases hown.2 with ⟨rfl, h0⟩ | ⟨g, cap, cur, rfl, _⟩
  · rw [run_convert_bytes_nil wr 29 5 Tryd.underlying29 Tryd.underlying5 0 0 9 Tryd.underlying9]
    have e : turnTo s 0 = [] := List.length_eq_zero_iff.1 (by omega)
    rw [e]
    rfl
  · refine run_convert_bytes_arg wr 29 5 Tryd.underlying29 Tryd.underlying5 g 0 s.size cap _ (by simp [hlen]) (fun i hi => ?_) 9 Tryd.underlying9
    rw [Nat.zero_add, hown.cellAt i (by omega)]
    unfold cellsB
    rw [List.getElem?_map, List.getD_eq_getElem?_getD, List.getElem?_map, List.getElem?_eq_getElem (show i < (turnTo s 0).length by omega)]
    rfl
set_option maxHeartbeats 1000000 in
theorem turned_any (s : ByteArray) (w : World) (hs : s.size ≤ 140737488351232) :
    Calls Tryd.prog 37 #[.string s] w fun e w' => (∃ t : ByteArray, t.size = s.size ∧ Hid (∀ i, i < s.size → Swar.bt t i = Swar.bt s (s.size - 1 - i)) ∧ e = .returned (.string t)) ∧ Below w.heap.size w w' := by
  obtain ⟨i0, hi, hz0, hz1, hz2⟩ := info_parts infoB
  go_enter Tryd.func37, Tryd.ntmps37
  go_wp2_with fail
  go_loopw [3, 4] (fun v i wr => ∃ j : Nat, j ≤ s.size ∧ i = .int .i64 ((j : Int) - 1) ∧ wr.ownsRow w.heap.size 5 1 v (s.size - j) (cellsB (turnTo s j)) ∧ Below w.heap.size w wr) (fun _ i _ => (intOf i + 1).toNat)
  case atStart => exact ⟨s.size, by omega, by go_num, by rw [Nat.sub_self]; simp [turnTo, cellsB]; exact World.ownsRow_nil _ _ _ _, Below.refl _ _⟩
  case round =>
    obtain ⟨j, hj, rfl, hown, hb⟩ := hrel
    by_cases hlt : 0 < j
    · have hj1 : (0 : Int) ≤ (j : Int) - 1 := by omega
      have hj2 : j - 1 < s.size := by omega
      have hj3 : (j : Int) - 1 < (s.size : Int) := by omega
      have hBs := hb.size
      go_wp2_with (first | (at_builtin; refine wpList_append_own _ rfl _ _ 29 rfl w.heap.size 5 i0 (.int .u8 0) 1 1 Tryd.underlying29 hi hz0 hz1 hz2 rfl (by decide) _ _ _ rfl (hown.alloc _) ⟨wr.heap.size, 0, none⟩ 1 1 [.int .u8 ((s[j - 1]'hj2).toNat : Int)] rfl rfl ?c1 ?c2 ?c3 ?c4 ?c5 ?_) | fail)
      case c1 => exact cell_one_new _ _ _
      case c2 => intro u hu; simp at hu; subst hu; rfl
      case c3 => unfold maxLen; omega
      case c4 => omega
      case c5 => simp; omega
      · intro v' w1 hown' hgrow _
        have R2 := turn_rel hBs hown hb hgrow
        have R1 : w1.ownsRow w.heap.size 5 1 v' (s.size - (j - 1)) (cellsB (turnTo s (j - 1))) := by
          rw [turnTo_step s j hlt hj, show s.size - (j - 1) = s.size - j + 1 by omega]
          unfold cellsB at *
          rw [List.map_append, Swar.bt_in hj2]
          exact hown'
        clear hown' hgrow hown hb hBs
        go_wp2_with fail
        go_roundw
        case rel => exact ⟨j - 1, by omega, by go_num, R1, R2⟩
        case measure => simp [intOf]; omega
    · obtain rfl : j = 0 := by omega
      rw [Nat.sub_zero] at hown
      have hex : ∃ t : ByteArray, t.size = s.size ∧ Hid (∀ i, i < s.size → Swar.bt t i = Swar.bt s (s.size - 1 - i)) ∧ (convert 29 9 u3).run Tryd.prog wr = .ok (.string t) wr := turn_text s w wr u3 hown
      obtain ⟨t, ht1, ht2, hcv⟩ := hex
      have HT1 : Hid (t.size = s.size) := ht1
      clear ht1 hown
      go_wp2_with fail
      go_ret
      exact ⟨⟨t, HT1.out, ht2, rfl⟩, hb⟩
end Go.Proofs.YthiabdpihnjkcaaDoor
