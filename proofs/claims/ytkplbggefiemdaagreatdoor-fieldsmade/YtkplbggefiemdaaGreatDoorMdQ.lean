/-
  The law's own quoted and bare: of any text. Conditions: a text's size as it says.
-/
import Derived.Test.YtkplbggefiemdaaGreatDoorMdN
namespace Go.Proofs.YtkplbggefiemdaaGreatDoor
open Go.RowKit
set_option linter.unusedVariables false
set_option linter.unusedSimpArgs false
theorem esc_len (l : List Nat) : (escF l).length ≤ 2 * l.length := by
  induction l with
  | nil => simp [escF]
  | cons x r ih =>
    rw [escF]
    split <;> simp <;> omega
set_option maxRecDepth 100000 in
set_option maxHeartbeats 4000000 in
theorem quoted14_any (S : ByteArray) (w : World) (hS : S.size ≤ 8192) : Calls Tryz.prog 16 #[.string S] w fun e w' => (∃ R, Sums.bl R = valL true (Sums.bl S) ∧ e = .returned (.string R)) ∧ w' = w := by
  have hSI : (S.size : Int) ≤ 8192 := by omega
  obtain ⟨F, hF⟩ : ∃ F, 34 :: escF (Sums.bl S) = F := ⟨_, rfl⟩
  have hFl : F.length ≤ 2 * 8192 + 1 := by
    have := esc_len (Sums.bl S)
    rw [← hF, List.length_cons]
    rw [Sums.bl_length] at this
    omega
  have hv : valL true (Sums.bl S) = F ++ [34] := by unfold valL; rw [if_pos rfl, ← hF]; simp
  rw [hv]
  have HF := Hid.mk' hF
  clear hF hv
  go_enter Tryz.func16, Tryz.ntmps16
  go_wp2_with fail
  go_loopw [3, 4] (fun ov iv wr => ∃ (i : Nat) (B : ByteArray), ov = .string B ∧ iv = .int .i64 (i : Int) ∧ i ≤ S.size ∧ Hid (Sums.bl B ++ escF ((Sums.bl S).drop i) = F) ∧ Hid (wr = w)) (fun ov iv _ => S.size - (intOf iv).toNat)
  case atStart => exact ⟨0, ⟨#[34]⟩, rfl, rfl, by omega, Hid.mk' HF.out, Hid.mk' rfl⟩
  case round =>
    obtain ⟨i, B, rfl, rfl, hi, HB, HW⟩ := hrel
    rename World => wr
    have hBs : B.size ≤ 16385 := by
      have h := congrArg List.length HB.out
      rw [List.length_append, Sums.bl_length] at h
      omega
    by_cases hlt : i < S.size
    · obtain ⟨c, rest, hd⟩ : ∃ c rest, (Sums.bl S).drop i = c :: rest := by
        cases hd : (Sums.bl S).drop i with
        | nil => have := ob_nil S i (by omega) hd; omega
        | cons c rest => exact ⟨c, rest, rfl⟩
      have hidx := ob_idx S i c rest hd
      obtain ⟨_, hc256, hd1⟩ := ob_facts S i c rest hd
      have g1 : decide ((i : Int) < (S.size : Int)) = true := decide_eq_true (by omega)
      have hsl := fun W => sl_at1 S i hlt W
      have hD : Sums.bl (S.extract i (i + 1)) = [c] := by
        have e : Sums.bl (S.extract i (i + 1)) = ((Sums.bl S).drop i).take 1 := by
          unfold Sums.bl
          simp [ByteArray.data_extract, List.take_drop]
        rw [e, hd]; rfl
      have hDs : (S.extract i (i + 1)).size = 1 := by have := Sums.bl_length (S.extract i (i + 1)); rw [hD] at this; exact this.symm
      generalize S.extract i (i + 1) = D at hsl hD hDs
      obtain ⟨p, hp⟩ : ∃ p, decide (c = 34) = p := ⟨_, rfl⟩
      obtain ⟨q, hq⟩ : ∃ q, decide (c = 92) = q := ⟨_, rfl⟩
      have t3 : ((c : Int) == 34) = p := by rw [← hp, Bool.eq_iff_iff]; simp; omega
      have t5 : (c == 34) = p := by rw [← hp, Bool.eq_iff_iff]; simp
      have t6 : ((c : Int) == 92) = q := by rw [← hq, Bool.eq_iff_iff]; simp; omega
      have t7 : (c == 92) = q := by rw [← hq, Bool.eq_iff_iff]; simp
      have HY : Hid ((p || q) = true → Sums.bl ((B ++ ⟨#[92]⟩) ++ D) ++ escF ((Sums.bl S).drop (i + 1)) = F) := Hid.mk' (fun e => by
        rw [← HB.out, hd, escF, if_pos (by rw [← hp, ← hq] at e; simpa using e), Sums.bl_append, Sums.bl_append, hD, hd1]
        simp [Sums.bl])
      have HN : Hid ((p || q) = false → Sums.bl (B ++ D) ++ escF ((Sums.bl S).drop (i + 1)) = F) := Hid.mk' (fun e => by
        rw [← HB.out, hd, escF, if_neg (by rw [← hp, ← hq] at e; simpa using e), Sums.bl_append, hD, hd1]
        simp)
      clear hd hd1 hD hp hq HB
      cases p
      · cases q
        · have H2 := Hid.mk' (HN.out rfl)
          clear HN HY
          go_wp2_with fail
          go_roundw
          case rel => exact ⟨i + 1, B ++ D, rfl, by go_num, by omega, H2, HW⟩
          case measure => simp [intOf]; omega
        · have H2 := Hid.mk' (HY.out rfl)
          clear HN HY
          go_wp2_with fail
          go_roundw
          case rel => exact ⟨i + 1, _, rfl, by go_num, by omega, H2, HW⟩
          case measure => simp [intOf]; omega
      · have H2 := Hid.mk' (HY.out (by cases q <;> rfl))
        clear HN HY t6 t7
        go_wp2_with fail
        go_roundw
        case rel => exact ⟨i + 1, _, rfl, by go_num, by omega, H2, HW⟩
        case measure => simp [intOf]; omega
    · have g1 : decide ((i : Int) < (S.size : Int)) = false := decide_eq_false (by omega)
      have hE : Sums.bl B = F := by
        have h := HB.out
        rw [List.drop_eq_nil_of_le (by rw [Sums.bl_length]; omega), escF, List.append_nil] at h
        exact h
      have HR : Hid (Sums.bl (B ++ ⟨#[34]⟩) = F ++ [34]) := Hid.mk' (by rw [Sums.bl_append, hE]; rfl)
      clear HB hE
      go_wp2_with fail
      go_ret
      exact ⟨⟨_, HR.out, rfl⟩, HW.out⟩
set_option maxRecDepth 100000 in
set_option maxHeartbeats 4000000 in
theorem bare14_any (S : ByteArray) (w : World) (hS : S.size ≤ 140737488351232) : Calls Tryz.prog 15 #[.string S] w fun e w' => e = .returned (.bool (barF (Sums.bl S))) ∧ w' = w := by
  have hSI : (S.size : Int) ≤ 140737488351232 := by omega
  obtain ⟨r, hr⟩ : ∃ r, barF (Sums.bl S) = r := ⟨_, rfl⟩
  rw [hr]
  have HR := Hid.mk' hr
  clear hr
  go_enter Tryz.func15, Tryz.ntmps15
  go_wp2_with fail
  go_loopw [3] (fun iv wr => ∃ (i : Nat), iv = .int .i64 (i : Int) ∧ i ≤ S.size ∧ Hid ((Sums.bl S).all vlB = ((Sums.bl S).drop i).all vlB) ∧ Hid (wr = w)) (fun iv _ => S.size - (intOf iv).toNat)
  case atStart => exact ⟨0, rfl, by omega, Hid.mk' rfl, Hid.mk' rfl⟩
  case round =>
    obtain ⟨i, rfl, hi, HB, HW⟩ := hrel
    rename World => wr
    by_cases hlt : i < S.size
    · obtain ⟨c, rest, hd⟩ : ∃ c rest, (Sums.bl S).drop i = c :: rest := by
        cases hd : (Sums.bl S).drop i with
        | nil => have := ob_nil S i (by omega) hd; omega
        | cons c rest => exact ⟨c, rest, rfl⟩
      have hidx := ob_idx S i c rest hd
      obtain ⟨_, hc256, hd1⟩ := ob_facts S i c rest hd
      have g1 : decide ((i : Int) < (S.size : Int)) = true := decide_eq_true (by omega)
      have hv : vlB c = !(decide (c = 32) || decide (c = 9) || decide (c = 44) || decide (c = 59)) := by
        have e := hc256
        have h : ∀ c : Fin 256, vlB c.val = !(decide (c.val = 32) || decide (c.val = 9) || decide (c.val = 44) || decide (c.val = 59)) := by decide +kernel
        exact h ⟨c, hc256⟩
      have HS : Hid (∀ v, vlB c = v → (v = false → barF (Sums.bl S) = false) ∧ (v = true → (Sums.bl S).all vlB = ((Sums.bl S).drop (i + 1)).all vlB)) := Hid.mk' (fun v hv => by
        constructor
        · intro e
          unfold barF
          rw [HB.out, hd, List.all_cons, hv, e]
          rfl
        · intro e
          rw [HB.out, hd, List.all_cons, hv, e, hd1]
          simp)
      rw [hv] at HS
      clear hv HB hd hd1
      by_cases c1 : c = 32 ∨ c = 9 ∨ c = 44 ∨ c = 59
      · have hb := (HS.out false (by rcases c1 with rfl | rfl | rfl | rfl <;> decide)).1 rfl
        rw [HR.out] at hb
        subst hb
        clear HS
        rcases c1 with rfl | rfl | rfl | rfl <;>
          · go_wp2_with fail
            go_ret
            exact ⟨rfl, HW.out⟩
      · have hb := (HS.out true (by simp; omega)).2 rfl
        have HB2 := Hid.mk' hb
        have n1 : ((c : Int) == 32) = false := beq_eq_false_iff_ne.2 (by omega)
        have n2 : ((c : Int) == 9) = false := beq_eq_false_iff_ne.2 (by omega)
        have n3 : ((c : Int) == 44) = false := beq_eq_false_iff_ne.2 (by omega)
        have n4 : ((c : Int) == 59) = false := beq_eq_false_iff_ne.2 (by omega)
        have m1 : (c == 32) = false := beq_eq_false_iff_ne.2 (by omega)
        have m2 : (c == 9) = false := beq_eq_false_iff_ne.2 (by omega)
        have m3 : (c == 44) = false := beq_eq_false_iff_ne.2 (by omega)
        have m4 : (c == 59) = false := beq_eq_false_iff_ne.2 (by omega)
        clear HS hb c1
        go_wp2_with fail
        go_roundw
        case rel => exact ⟨i + 1, by go_num, by omega, HB2, HW⟩
        case measure => simp [intOf]; omega
    · have g1 : decide ((i : Int) < (S.size : Int)) = false := decide_eq_false (by omega)
      have hall : (Sums.bl S).all vlB = true := by
        rw [HB.out, List.drop_eq_nil_of_le (by rw [Sums.bl_length]; omega)]; rfl
      have hr2 := HR.out
      unfold barF at hr2
      rw [hall, Bool.true_and] at hr2
      clear HB hall HR
      by_cases h0 : S.size = 0
      · have hl : Sums.bl S = [] := List.eq_nil_of_length_eq_zero (by rw [Sums.bl_length]; exact h0)
        rw [hl] at hr2
        have hr3 : true = r := hr2
        subst hr3
        have g3 : ((S.size : Int) == 0) = true := by simp [h0]
        have g4 : (S.size == 0) = true := by simp [h0]
        clear h0 hl hr2
        go_wp2_with fail
        go_ret
        exact ⟨rfl, HW.out⟩
      · obtain ⟨c, rest, hd⟩ : ∃ c rest, Sums.bl S = c :: rest := by
          cases hd : Sums.bl S with
          | nil => have := Sums.bl_length S; rw [hd] at this; simp at this; omega
          | cons c rest => exact ⟨c, rest, rfl⟩
        have hidx : ∀ W, (Instr.index 9 (.string S) (.int .i64 0)).run Tryz.prog W = .ok (.int .u8 (c : Int)) W := fun W => ob_idx S 0 c rest hd W
        rw [hd] at hr2
        have g3 : ((S.size : Int) == 0) = false := beq_eq_false_iff_ne.2 (by omega)
        have g4 : (S.size == 0) = false := beq_eq_false_iff_ne.2 h0
        have g5 : ((c : Int) != 34) = r := by rw [← hr2]; simp [hasO, bne]; rw [Bool.eq_iff_iff]; simp; omega
        have g6 : (c != 34) = r := by rw [← hr2]; simp [hasO, bne]
        clear hr2 hd h0
        go_wp2_with fail
        go_ret
        exact ⟨rfl, HW.out⟩
end Go.Proofs.YtkplbggefiemdaaGreatDoor
