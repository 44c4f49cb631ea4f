/-
  The walk of the law SumsTold: whatever it is given it returns true, and of what was there nothing turns. Conditions: the text and the bytes are no longer than what is read can be, the table of package sums lies as its text lays it.
-/
import Derived.Test.YtnbcmobdenjjfabDoorRowB
import Derived.Test.YtnbcmobdenjjfabDoorSumE
import Derived.Test.YtnbcmobdenjjfabDoorPick2
namespace Go.Proofs.YtnbcmobdenjjfabDoor
open Go.RowKit
set_option linter.unusedVariables false
theorem bool_eql (w : World) (a b : Bool) : (binOp .eql 4 (.bool a) (.bool b)).run Tryd.prog w = .ok (.bool (a == b)) w := by
  cases a <;> cases b <;> kernel_rfl
theorem ret_bool {a b : Bool} (h : a = b) : Ending.returned (.bool a) = .returned (.bool b) := by rw [h]
theorem xor8 (a b : Nat) (ha : a < 256) (hb : b < 256) : bits .xor .u8 (a : Int) (b : Int) = ((a ^^^ b : Nat) : Int) := u8_xor_nat a b ha hb
theorem told_eq (s : ByteArray) (M : List Nat) (k : Nat) (hlen : M.length = s.size) (hb : ∀ z ∈ M, z < 256) (ag : ∀ j, j < k ∨ k + 4 ≤ j → M[j]? = (Sums.bl s)[j]?) :
    ((((Sums.crcL (Sums.bl s) : Nat) : Int) == ((Sums.crcL (Sums.bl (rowS M)) : Nat) : Int)) == (s.toList == (rowS M).toList)) = true := by
  by_cases h : s = rowS M
  · have e : (Sums.crcL (Sums.bl s) : Nat) = Sums.crcL (Sums.bl (rowS M)) := by rw [← h]
    rw [e, ← h]; simp
  · have h1 : ¬ Sums.crcL (Sums.bl s) = Sums.crcL (Sums.bl (rowS M)) := fun e => h (Sums.bl_inj (by
      rw [bl_rowS M hb] at e ⊢
      exact Sums.crc_told (Sums.bl s) M k (by rw [Sums.bl_length]; exact hlen) (Sums.bl_byt s) hb ag e))
    have h2 : ¬ s.toList = (rowS M).toList := fun e => h (by
      rw [ByteArray.toList_eq, ByteArray.toList_eq] at e
      exact ByteArray.ext (Array.toList_inj.1 e))
    have e1 : (((Sums.crcL (Sums.bl s) : Nat) : Int) == ((Sums.crcL (Sums.bl (rowS M)) : Nat) : Int)) = false := beq_eq_false_iff_ne.2 (by omega)
    rw [e1, beq_eq_false_iff_ne.2 h2]; rfl
set_option maxHeartbeats 2000000 in
theorem sumsTold_any (s : ByteArray) (at_ : Int) (p : Option Addr) (cap : Nat) (L : List Nat) (w : World) (hs : s.size ≤ 140737488351232) (hp0 : -9223372036854775808 ≤ at_) (hp1 : at_ ≤ 9223372036854775807) (hL : L.length ≤ 140737488351232) (hz : ∀ z ∈ L, z < 256) (hc : ∀ i, i < L.length → ∃ g off, p = some ⟨g, off, none⟩ ∧ w.cell? ⟨g, off + i, none⟩ = some (.int .u8 ((L.getD i 0 : Nat) : Int))) (ht : Tab w) :
    Calls Tryd.prog 3 #[.string s, .int .i64 at_, .slice p L.length cap] w fun e w' => e = .returned (.bool true) ∧ Below w.heap.size w w' := by
  have HC := Hid.mk' hc
  have HZ := Hid.mk' hz
  have hbe := bool_eql
  clear hc hz
  go_enter Tryd.func3, Tryd.ntmps3
  go_wp2_with fail
  refine (examples_any _ ht).mono ?_
  rintro e w1 ⟨rfl, B1⟩
  have hsz := B1.size
  have HB1 := Hid.mk' B1
  clear B1
  go_wp2_with fail
  rw [Lib.run_convert_string_bytes w1 9 22 5 s Tryd.underlying9 Tryd.underlying22 Tryd.underlying5]
  have HB : Hid (Below w.heap.size w (Lib.bytesWorld w1 5 s)) := below_new HB1.out hsz s
  have HR : Hid (RowB w1.heap.size (Sums.bl s) (Lib.bytesWorld w1 5 s)) := RowB.new w1 s
  clear HB1
  generalize Lib.bytesWorld w1 5 s = w2 at *
  generalize grownCap w1 s.size 0 5 = c1 at *
  generalize w1.heap.size = g at *
  by_cases h0 : 0 < s.size
  · have g0 : (0 : Int) < (s.size : Int) := by omega
    go_wp2_with fail
    refine (pick_any at_ s.size _ (by omega) (by omega) hp0 hp1).mono ?_
    rintro e w3 ⟨⟨k, hk, rfl⟩, rfl⟩
    clear hp0 hp1
    go_wp2_with fail
    go_loopw [10] (fun i wr => ∃ j : Nat, j ≤ 4 ∧ i = .int .i64 (j : Int) ∧ Hid (RowB g (Sums.xr (Sums.bl s) k L j) wr) ∧ Hid (Below w.heap.size w wr)) (fun i _ => 4 - (intOf i).toNat)
    case atStart => exact ⟨0, by omega, rfl, HR, HB⟩
    case round =>
      clear HR HB
      obtain ⟨j, hj, rfl, HR, HB⟩ := hrel
      by_cases q1 : j < L.length
      · have r1 : (j : Int) < (L.length : Int) := by omega
        by_cases q2 : j < 4
        · have r2 : (j : Int) < 4 := by omega
          by_cases q3 : k + j < s.size
          · have r3 : (k : Int) + (j : Int) < (s.size : Int) := by omega
            obtain ⟨pg, off, rfl, hcell⟩ := HC.out j q1
            have hpb : pg < w.heap.size := World.block_lt_of_cell? w _ hcell
            have c2 : wr.cell? ⟨pg, off + j, none⟩ = some (.int .u8 ((L.getD j 0 : Nat) : Int)) := by rw [HB.out.cell hpb]; exact hcell
            have hlen : k + j < (Sums.xr (Sums.bl s) k L j).length := by rw [Sums.xr_len, Sums.bl_length]; exact q3
            obtain ⟨c1', f1'⟩ := HR.out (k + j) hlen
            have hx1 : (Sums.xr (Sums.bl s) k L j).getD (k + j) 0 < 256 := Sums.getD_lt _ (Sums.xr_byt (Sums.bl s) k L (Sums.bl_byt s) HZ.out j) _
            have hx2 : L.getD j 0 < 256 := Sums.getD_lt _ HZ.out _
            have HX := Hid.mk' (xor8 _ _ hx1 hx2)
            have HR2 : Hid (RowB g (Sums.xr (Sums.bl s) k L (j + 1)) (wr.setCell ⟨g, k + j, none⟩ (.int .u8 (((Sums.xr (Sums.bl s) k L j).getD (k + j) 0 ^^^ L.getD j 0 : Nat) : Int)))) := HR.out.set (k + j) _ hlen
            have HB2 : Hid (Below w.heap.size w (wr.setCell ⟨g, k + j, none⟩ (.int .u8 (((Sums.xr (Sums.bl s) k L j).getD (k + j) 0 ^^^ L.getD j 0 : Nat) : Int)))) := HB.out.setCell (by exact hsz) _
            clear HR hcell HC
            generalize (Sums.xr (Sums.bl s) k L j).getD (k + j) 0 = X1 at *
            generalize L.getD j 0 = X2 at *
            clear hx1 hx2 hlen
            go_wp2_with fail
            go_region
            rw [HX.out]
            have HR3 : Hid (RowB g (Sums.xr (Sums.bl s) k L (j + 1)) (wr.setCell ⟨g, k + j, none⟩ (.int .u8 ((X1 ^^^ X2 : Nat) : Int))).drew) := HR2
            have HB3 : Hid (Below w.heap.size w (wr.setCell ⟨g, k + j, none⟩ (.int .u8 ((X1 ^^^ X2 : Nat) : Int))).drew) := HB2.out.drew
            clear HR2 HB2 c1' f1' c2
            generalize (wr.setCell ⟨g, k + j, none⟩ (.int .u8 ((X1 ^^^ X2 : Nat) : Int))).drew = w9 at *
            go_wp2_with fail
            go_roundw
            case rel => exact ⟨j + 1, by omega, by go_num, HR3, HB3⟩
            case measure => simp [intOf]; omega
          · have r3 : ¬ (k : Int) + (j : Int) < (s.size : Int) := by omega
            have HT : Hid ((convert 22 9 (.slice (some ⟨g, 0, none⟩) s.size c1)).run Tryd.prog wr = .ok (.string (rowS (Sums.xr (Sums.bl s) k L j))) wr) := by
              have := HR.out.text c1
              rw [Sums.xr_len, Sums.bl_length] at this
              exact this
            have hcv := HT.out
            have hb3 : (rowS (Sums.xr (Sums.bl s) k L j)).size ≤ maxLen := by
              rw [← Sums.bl_length, bl_rowS _ (Sums.xr_byt (Sums.bl s) k L (Sums.bl_byt s) HZ.out j), Sums.xr_len, Sums.bl_length]
              unfold maxLen; omega
            have HQ := Hid.mk' (told_eq s (Sums.xr (Sums.bl s) k L j) k (by rw [Sums.xr_len, Sums.bl_length]) (Sums.xr_byt (Sums.bl s) k L (Sums.bl_byt s) HZ.out j) (fun i hi => Sums.xr_out (Sums.bl s) k L j i (by omega)))
            have htw : Tab wr := ht.below HB.out ht.pos
            go_wp2_with fail
            refine (crc_any s _ (by unfold maxLen; omega) htw).mono ?_
            rintro e w6 ⟨rfl, rfl⟩
            go_wp2_with fail
            refine (crc_any (rowS (Sums.xr (Sums.bl s) k L j)) _ hb3 htw).mono ?_
            rintro e w6 ⟨rfl, rfl⟩
            go_wp2_with fail
            go_ret
            exact ⟨ret_bool HQ.out, HB.out⟩
        · have r2 : ¬ (j : Int) < 4 := by omega
          have HT : Hid ((convert 22 9 (.slice (some ⟨g, 0, none⟩) s.size c1)).run Tryd.prog wr = .ok (.string (rowS (Sums.xr (Sums.bl s) k L j))) wr) := by
            have := HR.out.text c1
            rw [Sums.xr_len, Sums.bl_length] at this
            exact this
          have hcv := HT.out
          have hb3 : (rowS (Sums.xr (Sums.bl s) k L j)).size ≤ maxLen := by
            rw [← Sums.bl_length, bl_rowS _ (Sums.xr_byt (Sums.bl s) k L (Sums.bl_byt s) HZ.out j), Sums.xr_len, Sums.bl_length]
            unfold maxLen; omega
          have HQ := Hid.mk' (told_eq s (Sums.xr (Sums.bl s) k L j) k (by rw [Sums.xr_len, Sums.bl_length]) (Sums.xr_byt (Sums.bl s) k L (Sums.bl_byt s) HZ.out j) (fun i hi => Sums.xr_out (Sums.bl s) k L j i (by omega)))
          have htw : Tab wr := ht.below HB.out ht.pos
          go_wp2_with fail
          refine (crc_any s _ (by unfold maxLen; omega) htw).mono ?_
          rintro e w6 ⟨rfl, rfl⟩
          go_wp2_with fail
          refine (crc_any (rowS (Sums.xr (Sums.bl s) k L j)) _ hb3 htw).mono ?_
          rintro e w6 ⟨rfl, rfl⟩
          go_wp2_with fail
          go_ret
          exact ⟨ret_bool HQ.out, HB.out⟩
      · have r1 : ¬ (j : Int) < (L.length : Int) := by omega
        have HT : Hid ((convert 22 9 (.slice (some ⟨g, 0, none⟩) s.size c1)).run Tryd.prog wr = .ok (.string (rowS (Sums.xr (Sums.bl s) k L j))) wr) := by
          have := HR.out.text c1
          rw [Sums.xr_len, Sums.bl_length] at this
          exact this
        have hcv := HT.out
        have hb3 : (rowS (Sums.xr (Sums.bl s) k L j)).size ≤ maxLen := by
          rw [← Sums.bl_length, bl_rowS _ (Sums.xr_byt (Sums.bl s) k L (Sums.bl_byt s) HZ.out j), Sums.xr_len, Sums.bl_length]
          unfold maxLen; omega
        have HQ := Hid.mk' (told_eq s (Sums.xr (Sums.bl s) k L j) k (by rw [Sums.xr_len, Sums.bl_length]) (Sums.xr_byt (Sums.bl s) k L (Sums.bl_byt s) HZ.out j) (fun i hi => Sums.xr_out (Sums.bl s) k L j i (by omega)))
        have htw : Tab wr := ht.below HB.out ht.pos
        go_wp2_with fail
        refine (crc_any s _ (by unfold maxLen; omega) htw).mono ?_
        rintro e w6 ⟨rfl, rfl⟩
        go_wp2_with fail
        refine (crc_any (rowS (Sums.xr (Sums.bl s) k L j)) _ hb3 htw).mono ?_
        rintro e w6 ⟨rfl, rfl⟩
        go_wp2_with fail
        go_ret
        exact ⟨ret_bool HQ.out, HB.out⟩
  · have g0 : ¬ (0 : Int) < (s.size : Int) := by omega
    have HT : Hid ((convert 22 9 (.slice (some ⟨g, 0, none⟩) s.size c1)).run Tryd.prog w2 = .ok (.string (rowS (Sums.bl s))) w2) := by
      have := HR.out.text c1
      rw [Sums.bl_length] at this
      exact this
    have hcv := HT.out
    have hb3 : (rowS (Sums.bl s)).size ≤ maxLen := by
      rw [← Sums.bl_length, bl_rowS _ (Sums.bl_byt s), Sums.bl_length]
      unfold maxLen; omega
    have HQ := Hid.mk' (told_eq s (Sums.bl s) 0 (by rw [Sums.bl_length]) (Sums.bl_byt s) (fun i hi => rfl))
    have htw : Tab w2 := ht.below HB.out ht.pos
    go_wp2_with fail
    refine (crc_any s _ (by unfold maxLen; omega) htw).mono ?_
    rintro e w6 ⟨rfl, rfl⟩
    go_wp2_with fail
    refine (crc_any (rowS (Sums.bl s)) _ hb3 htw).mono ?_
    rintro e w6 ⟨rfl, rfl⟩
    go_wp2_with fail
    go_ret
    exact ⟨ret_bool HQ.out, HB.out⟩
end Go.Proofs.YtnbcmobdenjjfabDoor
