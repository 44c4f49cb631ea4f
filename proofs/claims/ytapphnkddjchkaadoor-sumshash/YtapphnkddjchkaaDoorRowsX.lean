/-
  What eachRow does with the rows of an XX32. Conditions: the four numbers lie side by side in one block.
-/
import Derived.Test.YtapphnkddjchkaaDoorTake
namespace Go.Proofs.YtapphnkddjchkaaDoor
open Go.RowKit
set_option linter.unusedVariables false
def putF (cs : List Value) (o : Nat) (f : Sums.Four) : List Value :=
  (((cs.set o (.int .u32 (f.a : Int))).set (o + 1) (.int .u32 (f.b : Int))).set (o + 2) (.int .u32 (f.c : Int))).set (o + 3) (.int .u32 (f.d : Int))
def FourLt (f : Sums.Four) : Prop := f.a < 4294967296 ∧ f.b < 4294967296 ∧ f.c < 4294967296 ∧ f.d < 4294967296
theorem FourLt.get {f : Sums.Four} (h : FourLt f) (j : Nat) (hj : j < 4) : fget f j < 4294967296 := by
  obtain ⟨h0, h1, h2, h3⟩ := h
  obtain rfl | rfl | rfl | rfl : j = 0 ∨ j = 1 ∨ j = 2 ∨ j = 3 := by omega
  · exact h0
  · exact h1
  · exact h2
  · exact h3
theorem FourLt.take (f : Sums.Four) (l : List Nat) : FourLt (Sums.take32 f l) := ⟨Sums.lane_lt _ _, Sums.lane_lt _ _, Sums.lane_lt _ _, Sums.lane_lt _ _⟩
theorem putF_len (cs : List Value) (o : Nat) (f : Sums.Four) : (putF cs o f).length = cs.length := by simp [putF]
theorem putF_at (cs : List Value) (o : Nat) (f : Sums.Four) (h : o + 4 ≤ cs.length) (j : Nat) (hj : j < 4) : (putF cs o f)[o + j]? = some (.int .u32 ((fget f j : Nat) : Int)) := by
  unfold putF
  obtain rfl | rfl | rfl | rfl : j = 0 ∨ j = 1 ∨ j = 2 ∨ j = 3 := by omega
  · rw [List.getElem?_set_ne (by omega), List.getElem?_set_ne (by omega), List.getElem?_set_ne (by omega), Nat.add_zero, List.getElem?_set_self (by omega)]; rfl
  · rw [List.getElem?_set_ne (by omega), List.getElem?_set_ne (by omega), List.getElem?_set_self (by simp; omega)]; rfl
  · rw [List.getElem?_set_ne (by omega), List.getElem?_set_self (by simp; omega)]; rfl
  · rw [List.getElem?_set_self (by simp; omega)]; rfl
theorem putF_far (cs : List Value) (o : Nat) (f : Sums.Four) (i : Nat) (h : i < o ∨ o + 4 ≤ i) : (putF cs o f)[i]? = cs[i]? := by
  unfold putF
  rw [List.getElem?_set_ne (by omega), List.getElem?_set_ne (by omega), List.getElem?_set_ne (by omega), List.getElem?_set_ne (by omega)]
theorem setTo_len (cs : List Value) (o : Nat) (f : Sums.Four) (l : List Nat) : ∀ j, (setTo cs o f l j).length = cs.length
  | 0 => rfl
  | j + 1 => by rw [setTo, List.length_set, setTo_len cs o f l j]
theorem setTo_at (cs : List Value) (o : Nat) (f : Sums.Four) (l : List Nat) (n : Nat) (h : o + n ≤ cs.length) : ∀ m, m ≤ n → ∀ j, j < m → (setTo cs o f l m)[o + j]? = some (.int .u32 ((laneJ f l j : Nat) : Int))
  | 0, _, j, hj => by omega
  | m + 1, hm, j, hj => by
      rw [setTo, List.getElem?_set]
      by_cases e : j = m
      · subst e
        rw [if_pos rfl, if_pos (by rw [setTo_len]; omega)]
      · rw [if_neg (by omega)]
        exact setTo_at cs o f l n h m (by omega) j (by omega)
theorem fget_0 (f : Sums.Four) : fget f 0 = f.a := rfl
theorem fget_1 (f : Sums.Four) : fget f 1 = f.b := rfl
theorem fget_2 (f : Sums.Four) : fget f 2 = f.c := rfl
theorem fget_3 (f : Sums.Four) : fget f 3 = f.d := rfl
theorem take_get (f : Sums.Four) (l : List Nat) (j : Nat) (hj : j < 4) : fget (Sums.take32 f l) j = laneJ f l j := by
  obtain rfl | rfl | rfl | rfl : j = 0 ∨ j = 1 ∨ j = 2 ∨ j = 3 := by omega
  · rw [fget_0, laneJ, fget_0, Sums.take32, Nat.mul_zero, List.drop_zero]
  · rw [fget_1, laneJ, fget_1, Sums.take32, Nat.mul_one]
  · rw [fget_2, laneJ, fget_2, Sums.take32]
  · rw [fget_3, laneJ, fget_3, Sums.take32]
theorem fold_take (cs : List Value) (o : Nat) (f : Sums.Four) (l : List Nat) (h : o + 4 ≤ cs.length) : setTo (putF cs o f) o f l 4 = putF cs o (Sums.take32 f l) := by
  apply List.ext_getElem?
  intro i
  by_cases hi : i < o ∨ o + 4 ≤ i
  · rw [setTo_far _ _ _ _ _ _ hi, putF_far _ _ _ _ hi, putF_far _ _ _ _ hi]
  · obtain ⟨j, rfl⟩ : ∃ j, i = o + j := ⟨i - o, by omega⟩
    have hj : j < 4 := by omega
    rw [setTo_at (putF cs o f) o f l 4 (by rw [putF_len]; exact h) 4 (Nat.le_refl _) j hj, putF_at cs o _ h j hj, take_get f l j hj]
theorem putF_self (cs : List Value) (o : Nat) (f : Sums.Four) (h : o + 4 ≤ cs.length) (hf : ∀ j, j < 4 → cs[o + j]? = some (.int .u32 ((fget f j : Nat) : Int))) : putF cs o f = cs := by
  apply List.ext_getElem?
  intro i
  by_cases hi : i < o ∨ o + 4 ≤ i
  · rw [putF_far _ _ _ _ hi]
  · obtain ⟨j, rfl⟩ : ∃ j, i = o + j := ⟨i - o, by omega⟩
    rw [putF_at cs o f h j (by omega), hf j (by omega)]
theorem w4_take (l : List Nat) (n : Nat) (h : 4 ≤ n) : Sums.w4 (l.take n) = Sums.w4 l := by
  unfold Sums.w4
  simp only [List.getD_eq_getElem?_getD]
  rw [List.getElem?_take_of_lt (by omega), List.getElem?_take_of_lt (by omega), List.getElem?_take_of_lt (by omega), List.getElem?_take_of_lt (by omega)]
theorem take32_row (f : Sums.Four) (l : List Nat) : Sums.take32 f (l.take 16) = Sums.take32 f l := by
  unfold Sums.take32
  rw [w4_take l 16 (by omega), List.drop_take, List.drop_take, List.drop_take, w4_take _ _ (by omega), w4_take _ _ (by omega), w4_take _ _ (by omega)]
set_option maxHeartbeats 1000000 in
theorem eachRow_take (g o : Nat) (t : TypeId) (cs : List Value) (f : Sums.Four) (s : ByteArray) (w : World) (hg : w.heap[g]? = some (.cells (putF cs o f).toArray t (0, 0))) (ho : o + 4 ≤ cs.length) (hl : FourLt f) (hm : s.size ≤ maxLen) :
    Calls Tryd.prog 17 #[.string s, .int .i64 16, .func (.func 16) #[.pointer (some ⟨g, o, none⟩)] #[]] w fun e w' => ∃ r : ByteArray, e = .returned (.string r) ∧ r.size ≤ s.size ∧ Sums.bl r = (Sums.rows32 f (Sums.bl s)).2 ∧ Put g t (putF cs o (Sums.rows32 f (Sums.bl s)).1) w w' := by
  unfold maxLen at hm
  have HP := Hid.mk' (Put.refl hg)
  have HL := Hid.mk' hl
  clear hg hl
  go_enter Tryd.func17, Tryd.ntmps17
  go_wp2_with fail
  go_loopw [0] (fun y wr => ∃ (r : ByteArray) (F : Sums.Four), y = .string r ∧ r.size ≤ s.size ∧ Hid (Sums.rows32 F (Sums.bl r) = Sums.rows32 f (Sums.bl s)) ∧ Hid (FourLt F) ∧ Hid (Put g t (putF cs o F) w wr)) (fun y _ => lenV y)
  case atStart => exact ⟨s, f, rfl, Nat.le_refl _, rfl, HL, HP⟩
  case round =>
    clear HP HL
    obtain ⟨r, F, rfl, hr, HI, HL, HP⟩ := hrel
    by_cases h16 : 16 ≤ r.size
    · have g16 : (16 : Int) ≤ (r.size : Int) := by omega
      have HI2 : Hid (Sums.rows32 (Sums.take32 F (Sums.bl r)) (Sums.bl (r.extract 16 r.size)) = Sums.rows32 f (Sums.bl s)) := by
        show _ = _
        rw [bl_from, ← Sums.rows32_more _ _ (by rw [Sums.bl_length]; exact h16)]
        exact HI.out
      have q3 : 16 ≤ (r.extract 0 16).size := by simp only [ByteArray.size_extract]; omega
      have q4 : (r.extract 0 16).size ≤ maxLen := by unfold maxLen; simp only [ByteArray.size_extract]; omega
      clear HI
      go_wp2_with fail
      refine (take_any g o t (putF cs o F) F (r.extract 0 16) _ HP.out.row (putF_at cs o F ho) HL.out.get q3 q4).mono ?_
      rintro e w1 ⟨rfl, P1⟩
      have HP2 : Hid (Put g t (putF cs o (Sums.take32 F (Sums.bl r))) w w1) := by
        have e1 : Sums.take32 F (Sums.bl (r.extract 0 16)) = Sums.take32 F (Sums.bl r) := by rw [Sums.bl_take, take32_row]
        rw [fold_take cs o F _ ho, e1] at P1
        exact HP.out.trans P1
      clear P1 HP q3 q4
      go_wp2_with fail
      go_roundw
      case rel => exact ⟨r.extract 16 r.size, _, rfl, by simp only [ByteArray.size_extract]; omega, HI2, FourLt.take _ _, HP2⟩
      case measure => simp [lenV]; omega
    · have g16 : ¬ (16 : Int) ≤ (r.size : Int) := by omega
      have HE : Hid (Sums.rows32 f (Sums.bl s) = (F, Sums.bl r)) := by
        show _ = _
        rw [← HI.out, Sums.rows32_end _ _ (by rw [Sums.bl_length]; exact h16)]
      clear HI
      go_wp2_with fail
      go_ret
      refine ⟨r, rfl, hr, ?_, ?_⟩
      · rw [HE.out]
      · rw [HE.out]; exact HP.out
end Go.Proofs.YtapphnkddjchkaaDoor
