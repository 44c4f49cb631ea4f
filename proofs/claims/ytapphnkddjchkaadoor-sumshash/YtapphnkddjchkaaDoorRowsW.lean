/-
  What eachRow does with the rows of an XX64. Conditions: the four numbers lie side by side in one block.
-/
import Derived.Test.YtapphnkddjchkaaDoorTakeW
namespace Go.Proofs.YtapphnkddjchkaaDoor
open Go.RowKit
set_option linter.unusedVariables false
def putW (cs : List Value) (o : Nat) (f : Sums.Four) : List Value :=
  (((cs.set o (.int .u64 (f.a : Int))).set (o + 1) (.int .u64 (f.b : Int))).set (o + 2) (.int .u64 (f.c : Int))).set (o + 3) (.int .u64 (f.d : Int))
def FourLtW (f : Sums.Four) : Prop := f.a < 18446744073709551616 ∧ f.b < 18446744073709551616 ∧ f.c < 18446744073709551616 ∧ f.d < 18446744073709551616
theorem FourLtW.get {f : Sums.Four} (h : FourLtW f) (j : Nat) (hj : j < 4) : fget f j < 18446744073709551616 := by
  obtain ⟨h0, h1, h2, h3⟩ := h
  obtain rfl | rfl | rfl | rfl : j = 0 ∨ j = 1 ∨ j = 2 ∨ j = 3 := by omega
  · exact h0
  · exact h1
  · exact h2
  · exact h3
theorem FourLtW.take (f : Sums.Four) (l : List Nat) : FourLtW (Sums.take64 f l) := ⟨Sums.round64_lt _ _, Sums.round64_lt _ _, Sums.round64_lt _ _, Sums.round64_lt _ _⟩
theorem putW_len (cs : List Value) (o : Nat) (f : Sums.Four) : (putW cs o f).length = cs.length := by simp [putW]
theorem putW_at (cs : List Value) (o : Nat) (f : Sums.Four) (h : o + 4 ≤ cs.length) (j : Nat) (hj : j < 4) : (putW cs o f)[o + j]? = some (.int .u64 ((fget f j : Nat) : Int)) := by
  unfold putW
  obtain rfl | rfl | rfl | rfl : j = 0 ∨ j = 1 ∨ j = 2 ∨ j = 3 := by omega
  · rw [List.getElem?_set_ne (by omega), List.getElem?_set_ne (by omega), List.getElem?_set_ne (by omega), Nat.add_zero, List.getElem?_set_self (by omega)]; rfl
  · rw [List.getElem?_set_ne (by omega), List.getElem?_set_ne (by omega), List.getElem?_set_self (by simp; omega)]; rfl
  · rw [List.getElem?_set_ne (by omega), List.getElem?_set_self (by simp; omega)]; rfl
  · rw [List.getElem?_set_self (by simp; omega)]; rfl
theorem putW_far (cs : List Value) (o : Nat) (f : Sums.Four) (i : Nat) (h : i < o ∨ o + 4 ≤ i) : (putW cs o f)[i]? = cs[i]? := by
  unfold putW
  rw [List.getElem?_set_ne (by omega), List.getElem?_set_ne (by omega), List.getElem?_set_ne (by omega), List.getElem?_set_ne (by omega)]
theorem setToW_len (cs : List Value) (o : Nat) (f : Sums.Four) (l : List Nat) : ∀ j, (setToW cs o f l j).length = cs.length
  | 0 => rfl
  | j + 1 => by rw [setToW, List.length_set, setToW_len cs o f l j]
theorem setToW_at (cs : List Value) (o : Nat) (f : Sums.Four) (l : List Nat) (n : Nat) (h : o + n ≤ cs.length) : ∀ m, m ≤ n → ∀ j, j < m → (setToW cs o f l m)[o + j]? = some (.int .u64 ((roundJ f l j : Nat) : Int))
  | 0, _, j, hj => by omega
  | m + 1, hm, j, hj => by
      rw [setToW, List.getElem?_set]
      by_cases e : j = m
      · subst e
        rw [if_pos rfl, if_pos (by rw [setToW_len]; omega)]
      · rw [if_neg (by omega)]
        exact setToW_at cs o f l n h m (by omega) j (by omega)
theorem take64_get (f : Sums.Four) (l : List Nat) (j : Nat) (hj : j < 4) : fget (Sums.take64 f l) j = roundJ f l j := by
  obtain rfl | rfl | rfl | rfl : j = 0 ∨ j = 1 ∨ j = 2 ∨ j = 3 := by omega
  · rw [fget_0, roundJ, fget_0, Sums.take64, Nat.mul_zero, List.drop_zero]
  · rw [fget_1, roundJ, fget_1, Sums.take64, Nat.mul_one]
  · rw [fget_2, roundJ, fget_2, Sums.take64]
  · rw [fget_3, roundJ, fget_3, Sums.take64]
theorem fold_takeW (cs : List Value) (o : Nat) (f : Sums.Four) (l : List Nat) (h : o + 4 ≤ cs.length) : setToW (putW cs o f) o f l 4 = putW cs o (Sums.take64 f l) := by
  apply List.ext_getElem?
  intro i
  by_cases hi : i < o ∨ o + 4 ≤ i
  · rw [setToW_far _ _ _ _ _ _ hi, putW_far _ _ _ _ hi, putW_far _ _ _ _ hi]
  · obtain ⟨j, rfl⟩ : ∃ j, i = o + j := ⟨i - o, by omega⟩
    have hj : j < 4 := by omega
    rw [setToW_at (putW cs o f) o f l 4 (by rw [putW_len]; exact h) 4 (Nat.le_refl _) j hj, putW_at cs o _ h j hj, take64_get f l j hj]
theorem w8_take (l : List Nat) (n : Nat) (h : 8 ≤ n) : Sums.w8 (l.take n) = Sums.w8 l := by
  unfold Sums.w8
  rw [w4_take l n (by omega), List.drop_take, w4_take _ _ (by omega)]
theorem take64_row (f : Sums.Four) (l : List Nat) : Sums.take64 f (l.take 32) = Sums.take64 f l := by
  unfold Sums.take64
  rw [w8_take l 32 (by omega), List.drop_take, List.drop_take, List.drop_take, w8_take _ _ (by omega), w8_take _ _ (by omega), w8_take _ _ (by omega)]
set_option maxHeartbeats 1000000 in
theorem eachRow_takeW (g o : Nat) (t : TypeId) (cs : List Value) (f : Sums.Four) (s : ByteArray) (w : World) (hg : w.heap[g]? = some (.cells (putW cs o f).toArray t (0, 0))) (ho : o + 4 ≤ cs.length) (hl : FourLtW f) (hm : s.size ≤ maxLen) :
    Calls Tryd.prog 17 #[.string s, .int .i64 32, .func (.func 24) #[.pointer (some ⟨g, o, none⟩)] #[]] w fun e w' => ∃ r : ByteArray, e = .returned (.string r) ∧ r.size ≤ s.size ∧ Sums.bl r = (Sums.rows64 f (Sums.bl s)).2 ∧ Put g t (putW cs o (Sums.rows64 f (Sums.bl s)).1) w w' := by
  unfold maxLen at hm
  have HP := Hid.mk' (Put.refl hg)
  have HL := Hid.mk' hl
  clear hg hl
  go_enter Tryd.func17, Tryd.ntmps17
  go_wp2_with fail
  go_loopw [0] (fun y wr => ∃ (r : ByteArray) (F : Sums.Four), y = .string r ∧ r.size ≤ s.size ∧ Hid (Sums.rows64 F (Sums.bl r) = Sums.rows64 f (Sums.bl s)) ∧ Hid (FourLtW F) ∧ Hid (Put g t (putW cs o F) w wr)) (fun y _ => lenV y)
  case atStart => exact ⟨s, f, rfl, Nat.le_refl _, rfl, HL, HP⟩
  case round =>
    clear HP HL
    obtain ⟨r, F, rfl, hr, HI, HL, HP⟩ := hrel
    by_cases h16 : 32 ≤ r.size
    · have g16 : (32 : Int) ≤ (r.size : Int) := by omega
      have HI2 : Hid (Sums.rows64 (Sums.take64 F (Sums.bl r)) (Sums.bl (r.extract 32 r.size)) = Sums.rows64 f (Sums.bl s)) := by
        show _ = _
        rw [bl_from, ← Sums.rows64_more _ _ (by rw [Sums.bl_length]; exact h16)]
        exact HI.out
      have q3 : 32 ≤ (r.extract 0 32).size := by simp only [ByteArray.size_extract]; omega
      have q4 : (r.extract 0 32).size ≤ maxLen := by unfold maxLen; simp only [ByteArray.size_extract]; omega
      clear HI
      go_wp2_with fail
      refine (take64_any g o t (putW cs o F) F (r.extract 0 32) _ HP.out.row (putW_at cs o F ho) HL.out.get q3 q4).mono ?_
      rintro e w1 ⟨rfl, P1⟩
      have HP2 : Hid (Put g t (putW cs o (Sums.take64 F (Sums.bl r))) w w1) := by
        have e1 : Sums.take64 F (Sums.bl (r.extract 0 32)) = Sums.take64 F (Sums.bl r) := by rw [Sums.bl_take, take64_row]
        rw [fold_takeW cs o F _ ho, e1] at P1
        exact HP.out.trans P1
      clear P1 HP q3 q4
      go_wp2_with fail
      go_roundw
      case rel => exact ⟨r.extract 32 r.size, _, rfl, by simp only [ByteArray.size_extract]; omega, HI2, FourLtW.take _ _, HP2⟩
      case measure => simp [lenV]; omega
    · have g16 : ¬ (32 : Int) ≤ (r.size : Int) := by omega
      have HE : Hid (Sums.rows64 f (Sums.bl s) = (F, Sums.bl r)) := by
        show _ = _
        rw [← HI.out, Sums.rows64_end _ _ (by rw [Sums.bl_length]; exact h16)]
      clear HI
      go_wp2_with fail
      go_ret
      refine ⟨r, rfl, hr, ?_, ?_⟩
      · rw [HE.out]
      · rw [HE.out]; exact HP.out
end Go.Proofs.YtapphnkddjchkaaDoor
