/-
  The walk of the law SumsOne: whatever it is given it returns true, and of what was there nothing turns. Conditions: the numbers are of their widths, the text is no longer than what is read can be, the table of package sums lies as its text lays it.
-/
import Derived.Test.YtnbcmobdenjjfabDoorRowB
import Derived.Test.YtnbcmobdenjjfabDoorSumF
import Derived.Test.YtnbcmobdenjjfabDoorPick2
import Derived.Test.YtnbcmobdenjjfabDoorXX
namespace Go.Proofs.YtnbcmobdenjjfabDoor
open Go.RowKit
set_option linter.unusedVariables false
theorem bool_eql (w : World) (a b : Bool) : (binOp .eql 4 (.bool a) (.bool b)).run Tryd.prog w = .ok (.bool (a == b)) w := by
  cases a <;> cases b <;> kernel_rfl
theorem ret_bool {a b : Bool} (h : a = b) : Ending.returned (.bool a) = .returned (.bool b) := by rw [h]
theorem one_eq (seed : Nat) (s t : ByteArray) (h : Sums.xx32 seed (Sums.bl s) = Sums.xx32 seed (Sums.bl t) → s = t) :
    ((((Sums.xx32 seed (Sums.bl s) : Nat) : Int) == ((Sums.xx32 seed (Sums.bl t) : Nat) : Int)) == (s.toList == t.toList)) = true := by
  by_cases e : s = t
  · subst e; simp
  · have h1 : ¬ Sums.xx32 seed (Sums.bl s) = Sums.xx32 seed (Sums.bl t) := fun x => e (h x)
    have h2 : ¬ s.toList = t.toList := fun x => e (by
      rw [ByteArray.toList_eq, ByteArray.toList_eq] at x
      exact ByteArray.ext (Array.toList_inj.1 x))
    have e1 : (((Sums.xx32 seed (Sums.bl s) : Nat) : Int) == ((Sums.xx32 seed (Sums.bl t) : Nat) : Int)) = false := beq_eq_false_iff_ne.2 (by omega)
    rw [e1, beq_eq_false_iff_ne.2 h2]; rfl
theorem set_self (l : List Nat) (i : Nat) (hi : i < l.length) : l.set i (l.getD i 0) = l := by
  apply List.ext_getElem?
  intro j
  rw [List.getElem?_set]
  by_cases e : i = j
  · subst e; rw [if_pos rfl, if_pos hi, List.getD_eq_getElem?_getD, List.getElem?_eq_getElem hi]; rfl
  · rw [if_neg e]
set_option maxHeartbeats 1000000 in
theorem sumsOne_any (seed : Nat) (s : ByteArray) (at_ : Int) (to : Nat) (w : World) (hq : seed < 4294967296) (hs : s.size ≤ 140737488351232) (hp0 : -9223372036854775808 ≤ at_) (hp1 : at_ ≤ 9223372036854775807) (hto : to < 256) (ht : Tab w) :
    Calls Tryd.prog 4 #[.int .u32 (seed : Int), .string s, .int .i64 at_, .int .u8 (to : Int)] w fun e w' => e = .returned (.bool true) ∧ Below w.heap.size w w' := by
  have hbe := bool_eql
  go_enter Tryd.func4, Tryd.ntmps4
  go_wp2_with fail
  refine (examples_any _ ht).mono ?_
  rintro e w1 ⟨rfl, B1⟩
  have hsz := B1.size
  have HB1 := Hid.mk' B1
  clear B1
  go_wp2_with fail
  rw [Lib.run_convert_string_bytes w1 9 22 5 s Tryd.underlying9 Tryd.underlying22 Tryd.underlying5]
  have HB : Hid (Below w.heap.size w (Lib.bytesWorld w1 5 s)) := below_new HB1.out hsz s
  have HR : Hid (RowB w1.heap.size (Sums.bl s) (Lib.bytesWorld w1 5 s)) := RowB.new w1 s
  clear HB1
  generalize Lib.bytesWorld w1 5 s = w2 at *
  generalize grownCap w1 s.size 0 5 = c1 at *
  generalize w1.heap.size = g at *
  by_cases h0 : 0 < s.size
  · have g0 : (0 : Int) < (s.size : Int) := by omega
    go_wp2_with fail
    refine (pick_any at_ s.size _ (by omega) (by omega) hp0 hp1).mono ?_
    rintro e w3 ⟨⟨k, hk, rfl⟩, rfl⟩
    clear hp0 hp1
    have hk2 : k < (Sums.bl s).length := by rw [Sums.bl_length]; omega
    obtain ⟨c1', f1'⟩ := HR.out k hk2
    have HR2 : Hid (RowB g ((Sums.bl s).set k to) (w3.setCell ⟨g, k, none⟩ (.int .u8 (to : Int)))) := HR.out.set k to hk2
    have HB2 : Hid (Below w.heap.size w (w3.setCell ⟨g, k, none⟩ (.int .u8 (to : Int)))) := HB.out.setCell (by exact hsz) _
    go_wp2_with fail
    clear HR HB c1' f1'
    generalize w3.setCell ⟨g, k, none⟩ (.int .u8 (to : Int)) = w4 at *
    have hM : ∀ z ∈ (Sums.bl s).set k to, z < 256 := Sums.byt_set (Sums.bl_byt s) k hto
    have hcv : (convert 22 9 (.slice (some ⟨g, 0, none⟩) s.size c1)).run Tryd.prog w4 = .ok (.string (rowS ((Sums.bl s).set k to))) w4 := by
      have := HR2.out.text c1
      rw [List.length_set, Sums.bl_length] at this
      exact this
    have hz : (rowS ((Sums.bl s).set k to)).size ≤ maxLen := by
      rw [← Sums.bl_length, bl_rowS _ hM, List.length_set, Sums.bl_length]
      unfold maxLen; omega
    have HQ := Hid.mk' (one_eq seed s (rowS ((Sums.bl s).set k to)) (fun e => Sums.bl_inj (by
      rw [bl_rowS _ hM] at e ⊢
      have e2 := Sums.xx_told seed hq (Sums.bl s) k to hk2 (Sums.bl_byt s) hto e
      rw [← e2]
      exact (set_self _ k hk2).symm)))
    clear hM HR2
    rw [hcv]
    generalize rowS ((Sums.bl s).set k to) = t at *
    clear hcv
    go_wp2_with fail
    refine (xx32_any seed s _ hq (by unfold maxLen; omega)).mono ?_
    rintro e w5 ⟨rfl, B5⟩
    have HB5 : Hid (Below w.heap.size w w5) := HB2.out.trans (B5.mono HB2.out.size)
    clear B5
    go_wp2_with fail
    refine (xx32_any seed t _ hq hz).mono ?_
    rintro e w6 ⟨rfl, B6⟩
    have HB6 : Hid (Below w.heap.size w w6) := HB5.out.trans (B6.mono HB5.out.size)
    clear B6
    go_wp2_with fail
    go_ret
    exact ⟨ret_bool HQ.out, HB6.out⟩
  · have g0 : ¬ (0 : Int) < (s.size : Int) := by omega
    have hcv : (convert 22 9 (.slice (some ⟨g, 0, none⟩) s.size c1)).run Tryd.prog w2 = .ok (.string (rowS (Sums.bl s))) w2 := by
      have := HR.out.text c1
      rw [Sums.bl_length] at this
      exact this
    have es : rowS (Sums.bl s) = s := Sums.bl_inj (bl_rowS _ (Sums.bl_byt s))
    rw [es] at hcv
    have HQ := Hid.mk' (one_eq seed s s (fun _ => rfl))
    clear es
    go_wp2_with fail
    refine (xx32_any seed s _ hq (by unfold maxLen; omega)).mono ?_
    rintro e w4 ⟨rfl, B4⟩
    have HB4 : Hid (Below w.heap.size w w4) := HB.out.trans (B4.mono HB.out.size)
    clear B4 hcv
    go_wp2_with fail
    refine (xx32_any seed s _ hq (by unfold maxLen; omega)).mono ?_
    rintro e w5 ⟨rfl, B5⟩
    have HB5 : Hid (Below w.heap.size w w5) := HB4.out.trans (B5.mono HB4.out.size)
    clear B5
    go_wp2_with fail
    go_ret
    exact ⟨rfl, HB5.out⟩
end Go.Proofs.YtnbcmobdenjjfabDoor
