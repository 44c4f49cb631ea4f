/-
  What the laws' lent and still do: a copy of a list with eight marks behind it, and whether it is still so. Conditions: the lists lie in memory and are no longer than any list that is read can be.
-/
import Derived.Test.YthiabdpihnjkcaaDoorIndexOf
import Derived.OwnWalk
namespace Go.Proofs.YthiabdpihnjkcaaDoor
open Go.RowKit
set_option linter.unusedVariables false
theorem infoB : (Tryd.prog.info? 5).map (fun i => (i.zero, i.size, i.bytes)) = some (some (.int .u8 0), 1, 1) := by kernel_rfl
def cellsB (l : List Nat) : List Value := l.map fun z => Value.int .u8 ((z : Nat) : Int)
/-- the list, and eight marks -/
def marked8 (L : List Nat) : List Nat := L ++ List.replicate 8 77
/-- so far as it is written -/
def upTo (L : List Nat) (k : Nat) : List Nat := (marked8 L).take k ++ List.replicate (L.length + 8 - k) 0
theorem marked8_len (L : List Nat) : (marked8 L).length = L.length + 8 := by simp [marked8]
theorem upTo_0 (L : List Nat) : upTo L 0 = List.replicate (L.length + 8) 0 := by simp [upTo]
theorem upTo_all (L : List Nat) : upTo L (L.length + 8) = marked8 L := by
  unfold upTo
  rw [List.take_of_length_le (by rw [marked8_len]; omega)]
  simp
theorem upTo_set (L : List Nat) (k : Nat) (hk : k < L.length + 8) : (upTo L k).set k ((marked8 L).getD k 0) = upTo L (k + 1) := by
  have hl : k < (marked8 L).length := by rw [marked8_len]; exact hk
  unfold upTo
  have e1 : ((marked8 L).take k).length = k := by rw [List.length_take, marked8_len]; omega
  rw [List.set_append_right _ _ (by omega), e1, Nat.sub_self, List.take_succ_eq_append_getElem hl, List.getD_eq_getElem?_getD, List.getElem?_eq_getElem hl, List.append_assoc]
  congr 1
  rw [show L.length + 8 - k = (L.length + 8 - (k + 1)) + 1 by omega, List.replicate_succ]
  rfl
theorem upTo_set2 (L : List Nat) (k x : Nat) (hk : k < L.length + 8) : ((upTo L k).set k x).set k ((marked8 L).getD k 0) = upTo L (k + 1) := by
  rw [List.set_set, upTo_set L k hk]
theorem marked8_lo (L : List Nat) (k : Nat) (hk : k < L.length) : (marked8 L).getD k 0 = L.getD k 0 := by
  unfold marked8
  rw [List.getD_eq_getElem?_getD, List.getElem?_append_left hk, List.getD_eq_getElem?_getD]
theorem marked8_hi (L : List Nat) (k : Nat) (h1 : L.length ≤ k) (h2 : k < L.length + 8) : (marked8 L).getD k 0 = 77 := by
  unfold marked8
  rw [List.getD_eq_getElem?_getD, List.getElem?_append_right h1, List.getElem?_replicate, if_pos (by omega)]
  rfl
theorem cellsB_set (l : List Nat) (k z : Nat) : (cellsB l).set k (.int .u8 ((z : Nat) : Int)) = cellsB (l.set k z) := by
  unfold cellsB; rw [List.map_set]
theorem own_below {w w' : World} {base : Nat} {e : TypeId} {size n : Nat} {v : Value} {xs : List Value} (h : w.ownsRow base e size v n xs) (hb : Below w.heap.size w w') : w'.ownsRow base e size v n xs := by
  refine ⟨h.1, ?_⟩
  rcases h.2 with h' | ⟨g, cap, cur, h1, h2, h3, h4⟩
  · exact .inl h'
  · refine .inr ⟨g, cap, cur, h1, h2, ?_, h4⟩
    have hg : g < w.heap.size := by
      rcases Nat.lt_or_ge g w.heap.size with h | h
      · exact h
      · rw [Array.getElem?_eq_none h] at h3; cases h3
    rw [hb.block g hg]
    exact h3
theorem own_lt {w : World} {base g n cap : Nat} {e : TypeId} {size : Nat} {xs : List Value} (h : w.ownsRow base e size (.slice (some ⟨g, 0, none⟩) n cap) n xs) : g < w.heap.size := (h.lt g rfl).2
theorem cell_lt' {w : World} {g o : Nat} {v : Value} (h : w.cell? ⟨g, o, none⟩ = some v) : g < w.heap.size := by
  rcases Nat.lt_or_ge g w.heap.size with h' | h'
  · exact h'
  · exfalso
    unfold World.cell? at h
    simp [show w.heap[g]? = none by simp; omega] at h
set_option maxHeartbeats 2000000 in
theorem lent_any (ad : Option Addr) (cap : Nat) (L : List Nat) (w : World) (hL : L.length ≤ 140737488351232)
    (hc : ∀ i, i < L.length → ∃ g off, ad = some ⟨g, off, none⟩ ∧ w.cell? ⟨g, off + i, none⟩ = some (.int .u8 ((L.getD i 0 : Nat) : Int))) :
    Calls Tryd.prog 24 #[.slice ad L.length cap] w fun e w' => e = .returned (.slice (some ⟨w.heap.size, 0, none⟩) L.length (L.length + 8)) ∧
      w'.ownsRow w.heap.size 5 1 (.slice (some ⟨w.heap.size, 0, none⟩) (L.length + 8) (L.length + 8)) (L.length + 8) (cellsB (marked8 L)) ∧ Below w.heap.size w w' := by
  obtain ⟨i0, hi, hz0, hz1, hz2⟩ := info_parts infoB
  have HC : Hid (∀ i, i < L.length → ∃ g off, ad = some ⟨g, off, none⟩ ∧ w.cell? ⟨g, off + i, none⟩ = some (.int .u8 ((L.getD i 0 : Nat) : Int))) := hc
  clear hc
  go_enter Tryd.func24, Tryd.ntmps24
  obtain ⟨w1, hmk, hown0, hgr⟩ := run_make_full (P := Tryd.prog) w w.heap.size 29 5 i0 (.int .u8 0) 1 Tryd.underlying29 hi hz0 hz1 .i64 .i64 (L.length + 8) (by rw [hz2]; omega) (by unfold maxLen; omega) (Nat.le_refl _)
  have ec : ((L.length + 8 : Nat) : Int) = (L.length : Int) + 8 := by omega
  rw [ec] at hmk
  have hb1 : Below w.heap.size w w1 := (Below.refl _ _).grown hgr (Nat.le_refl _) (fun k hk => by cases hk)
  have hown1 : w1.ownsRow w.heap.size 5 1 (.slice (some ⟨w.heap.size, 0, none⟩) (L.length + 8) (L.length + 8)) (L.length + 8) (cellsB (upTo L 0)) := by
    have e : (madeCells (Value.cells (.int .u8 0)) ((L.length + 8) * 1)).toList = cellsB (upTo L 0) := by
      rw [upTo_0, Nat.mul_one]
      unfold cellsB
      rw [List.map_replicate]
      exact toList_madeCells_one _ _
    rw [e] at hown0
    exact hown0
  clear hown0 hgr ec
  have hbs1 := hb1.size
  have hN1 : w.heap.size < w1.heap.size := own_lt hown1
  go_wp2_with fail
  go_loopw [4] (fun i wr => ∃ k : Nat, k ≤ L.length + 8 ∧ i = .int .i64 (k : Int) ∧ wr.ownsRow w.heap.size 5 1 (.slice (some ⟨w.heap.size, 0, none⟩) (L.length + 8) (L.length + 8)) (L.length + 8) (cellsB (upTo L k)) ∧ Below w.heap.size w wr) (fun i _ => L.length + 8 - (intOf i).toNat)
  case atStart => exact ⟨0, by omega, rfl, hown1, hb1⟩
  case round =>
    clear hmk hown1 hb1 hbs1 hN1
    obtain ⟨k, hk, rfl, hown, hb⟩ := hrel
    by_cases hlt : k < L.length + 8
    · have hlt2 : (k : Int) < (L.length : Int) + 8 := by omega
      have hfz := hown.frozenAt k
      have hold : ∃ old : Value, wr.cell? ⟨w.heap.size, k, none⟩ = some old := by
        rw [hown.cellAt k (by omega)]
        have hlen : k < (cellsB (upTo L k)).length := by rw [hown.1]; omega
        exact ⟨_, List.getElem?_eq_getElem hlen⟩
      obtain ⟨old, hold⟩ := hold
      by_cases hkL : k < L.length
      · obtain ⟨g, off, rfl, hcell⟩ := HC.out k hkL
        have hgb : g < w.heap.size := cell_lt' hcell
        have s1 := (hown.stored k (.int .u8 77))
        have s2 := (s1.1.stored k (.int .u8 ((L.getD k 0 : Nat) : Int)))
        have R1 : ((wr.setCell ⟨w.heap.size, k, none⟩ (.int .u8 77)).setCell ⟨w.heap.size, k, none⟩ (.int .u8 ((L.getD k 0 : Nat) : Int))).ownsRow w.heap.size 5 1 (.slice (some ⟨w.heap.size, 0, none⟩) (L.length + 8) (L.length + 8)) (L.length + 8) (cellsB (upTo L (k + 1))) := by
          have h := s2.1
          rw [show (Value.int .u8 77) = Value.int .u8 (((77 : Nat) : Nat) : Int) from rfl, cellsB_set, cellsB_set, ← marked8_lo L k hkL, upTo_set2 L k 77 hlt, marked8_lo L k hkL] at h
          exact h
        have R2 : Below w.heap.size w ((wr.setCell ⟨w.heap.size, k, none⟩ (.int .u8 77)).setCell ⟨w.heap.size, k, none⟩ (.int .u8 ((L.getD k 0 : Nat) : Int))) := (hb.setCell (Nat.le_refl _) _).setCell (Nat.le_refl _) _
        have hcx : (wr.setCell ⟨w.heap.size, k, none⟩ (.int .u8 77)).cell? ⟨g, off + k, none⟩ = some (.int .u8 ((L.getD k 0 : Nat) : Int)) := by
          rw [(hb.setCell (p := ⟨w.heap.size, k, none⟩) (Nat.le_refl _) (.int .u8 77)).cell (p := ⟨g, off + k, none⟩) hgb]
          exact hcell
        have hfz2 := s1.1.frozenAt k
        have hold2 : (wr.setCell ⟨w.heap.size, k, none⟩ (.int .u8 77)).cell? ⟨w.heap.size, k, none⟩ = some (.int .u8 77) := by
          rw [s1.1.cellAt k (by omega), List.getElem?_set_self (by rw [hown.1]; omega)]
        generalize L.getD k 0 = z at *
        clear HC s1 s2 hown hb hcell
        go_wp2_with fail
        go_roundw
        case rel => exact ⟨k + 1, by omega, by go_num, R1, R2⟩
        case measure => simp [intOf]; omega
      · have s1 := (hown.stored k (.int .u8 77))
        have R1 : (wr.setCell ⟨w.heap.size, k, none⟩ (.int .u8 77)).ownsRow w.heap.size 5 1 (.slice (some ⟨w.heap.size, 0, none⟩) (L.length + 8) (L.length + 8)) (L.length + 8) (cellsB (upTo L (k + 1))) := by
          have h := s1.1
          rw [show (Value.int .u8 77) = Value.int .u8 (((77 : Nat) : Nat) : Int) from rfl, cellsB_set, ← marked8_hi L k (by omega) hlt, upTo_set L k hlt, marked8_hi L k (by omega) hlt] at h
          exact h
        have R2 : Below w.heap.size w (wr.setCell ⟨w.heap.size, k, none⟩ (.int .u8 77)) := hb.setCell (Nat.le_refl _) _
        have hkL2 : ¬ (k : Int) < (L.length : Int) := by omega
        clear HC s1 hown hb
        go_wp2_with fail
        go_roundw
        case rel => exact ⟨k + 1, by omega, by go_num, R1, R2⟩
        case measure => simp [intOf]; omega
    · obtain rfl : k = L.length + 8 := by omega
      rw [upTo_all] at hown
      have hq1 : ¬ ((L.length + 8 : Nat) : Int) < (L.length : Int) + 8 := by omega
      have hq2 : (L.length : Int) ≤ (L.length : Int) + 8 := by omega
      clear HC
      go_wp2_with fail
      go_ret
      exact ⟨rfl, hown, hb⟩
end Go.Proofs.YthiabdpihnjkcaaDoor
