/-
  What Write of a Hash does where a row is filled. Conditions: as it says.
-/
import Derived.Test.YtapphnkddjchkaaDoorWriteA
namespace Go.Proofs.YtapphnkddjchkaaDoor
open Go.RowKit
set_option linter.unusedVariables false
theorem rowStr_size (row : List Nat) (n : Nat) (hb : ∀ z ∈ row, z < 256) (hn : n ≤ row.length) : (rowStr row n).size = n := by
  rw [← Sums.bl_length, bl_rowStr row n hb, List.length_take]; omega
theorem hashC_four (seed : Nat) (f : Sums.Four) (row : List Nat) (wt len j : Nat) (hj : j < 4) : (hashC seed f row wt len)[1 + j]? = some (.int .u32 ((fget f j : Nat) : Int)) := by
  obtain rfl | rfl | rfl | rfl : j = 0 ∨ j = 1 ∨ j = 2 ∨ j = 3 := by omega
  · rfl
  · rfl
  · rfl
  · rfl
set_option maxHeartbeats 2000000 in
theorem write_full (g seed : Nat) (f : Sums.Four) (row : List Nat) (wt len : Nat) (s : ByteArray) (w : World) (hrow : row.length = 16) (hby : ∀ z ∈ row, z < 256) (hf : FourLt f) (hl : len + s.size < 9223372036854775808) (hw0 : 0 < wt) (hw1 : wt < 16) (hs : ¬ wt + s.size < 16) (h : w.heap[g]? = some (.cells (hashC seed f row wt len).toArray 48 (0, 0))) :
    Calls Tryd.prog 6 #[.pointer (some ⟨g, 0, none⟩), .string s] w fun e w' => e = .returned (.tuple #[]) ∧ Put g 48 (hashC seed (Sums.rows32 (Sums.take32 f (laid row wt ((Sums.bl s).take (16 - wt)))) ((Sums.bl s).drop (16 - wt))).1 (laid (laid row wt ((Sums.bl s).take (16 - wt))) 0 (Sums.rows32 (Sums.take32 f (laid row wt ((Sums.bl s).take (16 - wt)))) ((Sums.bl s).drop (16 - wt))).2) (Sums.rows32 (Sums.take32 f (laid row wt ((Sums.bl s).take (16 - wt)))) ((Sums.bl s).drop (16 - wt))).2.length (len + s.size)) w w' := by
  have hp := Put.refl h
  have c21 : w.cell? ⟨g, 21, none⟩ = some (.int .i64 (wt : Int)) := hp.cell _ (hashC_21 _ _ _ _ _ hrow)
  have c22 : w.cell? ⟨g, 22, none⟩ = some (.int .i64 (len : Int)) := hp.cell _ (hashC_22 _ _ _ _ _ hrow)
  have f22 : w.frozen? ⟨g, 22, none⟩ = false := hp.frozen
  have HP := Hid.mk' hp
  clear hp h
  have g0 : (0 : Int) < (wt : Int) := by omega
  have g16 : (wt : Int) ≤ 16 := by omega
  have hmf : ∀ (fn : Fn) (first cap : Array Value) (w : World), (Instr.makeFunc fn first cap).run Tryd.prog w = .ok (.func fn first cap) w := fun _ _ _ _ => rfl
  go_enter Tryd.func6, Tryd.ntmps6
  go_wp2_with fail
  have P1 : Put g 48 (hashC seed f row wt (len + s.size)) w (w.setCell ⟨g, 22, none⟩ (.int .i64 ((len : Int) + (s.size : Int)))) := by
    have := HP.out.setCell (o := 22) (.int .i64 ((len + s.size : Nat) : Int))
    rw [hashC_set22 _ _ _ _ _ _ hrow] at this
    exact this
  have HP1 := Hid.mk' P1
  clear P1 HP c21 c22 f22
  generalize w.setCell ⟨g, 22, none⟩ (.int .i64 ((len : Int) + (s.size : Int))) = w1 at *
  have c21 : w1.cell? ⟨g, 21, none⟩ = some (.int .i64 (wt : Int)) := HP1.out.cell _ (hashC_21 _ _ _ _ _ hrow)
  have hwl : ¬ (16 = wt) := by omega
  go_region_law (refine step_copyIn rfl (.tmp 27) (.tmp 28) rfl rfl w g seed f row wt (len + s.size) wt (16 - wt) (16 - wt) s rfl rfl hrow HP1.out.drew (by omega) ?_; intro w2 HP2)
  have em : Nat.min s.size (16 - wt) = 16 - wt := Nat.min_eq_right (by omega)
  rw [em] at HP2
  rw [em]
  obtain ⟨R, HR⟩ : ∃ R, Hid (R = laid row wt ((Sums.bl s).take (16 - wt))) := ⟨_, Hid.mk' rfl⟩
  rw [← HR.out] at HP2
  have hR : R.length = 16 := by
    rw [HR.out, laid_len _ _ _ (by rw [List.length_take, Sums.bl_length]; omega)]; exact hrow
  have hRb : ∀ z ∈ R, z < 256 := by
    rw [HR.out]; exact laid_byt hby (fun z hz => Sums.bl_byt s z (List.mem_of_mem_take hz))
  clear em c21 HP1 hwl
  have d21 : w2.cell? ⟨g, 21, none⟩ = some (.int .i64 (wt : Int)) := HP2.out.cell _ (hashC_21 _ _ _ _ _ hR)
  have f21 : w2.frozen? ⟨g, 21, none⟩ = false := HP2.out.frozen
  have e16 : (wt : Int) + ((16 - wt : Nat) : Int) = 16 := by omega
  obtain ⟨w3, hw3⟩ : ∃ w3, w3 = w2.setCell ⟨g, 21, none⟩ (.int .i64 16) := ⟨_, rfl⟩
  have HP3 : Hid (Put g 48 (hashC seed f R 16 (len + s.size)) w w3) := by
    have := HP2.out.setCell (o := 21) (.int .i64 ((16 : Nat) : Int))
    rw [hashC_set21 _ _ _ _ _ _ hR] at this
    rw [hw3]
    exact this
  have HW3 := Hid.mk' hw3
  clear hw3
  generalize hN : 16 - wt = N at *
  have HNN := Hid.mk' hN
  clear hN
  go_wp2_with fail
  rw [← HW3.out]
  clear HW3 HP2 d21 f21 g0 g16 e16
  have hcv1 : (convert 49 9 (.slice (some ⟨g, 5, none⟩) 16 16)).run Tryd.prog w3.drew = .ok (.string (rowStr R 16)) w3.drew := rowText w w3.drew g seed f R 16 (len + s.size) 16 16 hR (by omega) HP3.out.drew
  have q1 : 16 ≤ (rowStr R 16).size := by rw [rowStr_size R 16 hRb (by omega)]; exact Nat.le_refl _
  have q2 : (rowStr R 16).size ≤ maxLen := by rw [rowStr_size R 16 hRb (by omega)]; decide
  go_region_with (go_at_call 16; refine (take_any g 1 48 (hashC seed f R 16 (len + s.size)) f (rowStr R 16) _ HP3.out.drew.row (hashC_four seed f R 16 (len + s.size)) hf.get q1 q2).mono ?_; rintro e w4 ⟨rfl, P4⟩; have HP4 := Hid.mk' P4; clear P4)
  have eR : Sums.bl (rowStr R 16) = R := by rw [bl_rowStr R 16 hRb, ← hR, List.take_length]
  obtain ⟨F, HF⟩ : ∃ F, Hid (F = Sums.take32 f R) := ⟨_, Hid.mk' rfl⟩
  have HP5 : Hid (Put g 48 (hashC seed F R 16 (len + s.size)) w w4) := by
    have h5 := HP4.out
    rw [eR, ← putF_hash seed f f R 16 (len + s.size), fold_take _ _ _ _ (by rw [hashC_len _ _ _ _ _ hR]; decide), putF_hash] at h5
    rw [HF.out]
    exact HP3.out.drew.trans h5
  have hFl : FourLt F := by rw [HF.out]; exact FourLt.take f R
  clear HP4 HP3 eR q1 q2
  have hN : N ≤ s.size := by have := HNN.out; omega
  have hN1 : (N : Int) ≤ (s.size : Int) := by omega
  have hN2 : (0 : Int) ≤ (N : Int) := by omega
  go_wp2_with fail
  refine (eachRow_take g 1 48 (hashC seed F R 16 (len + s.size)) F (s.extract N s.size) w4 (by rw [putF_hash]; exact HP5.out.row) (by rw [hashC_len _ _ _ _ _ hR]; decide) hFl (by unfold maxLen; simp only [ByteArray.size_extract]; omega)).mono ?_
  rintro e w5 ⟨r, rfl, hrs, hr, P6⟩
  rw [putF_hash, bl_from] at P6
  rw [bl_from] at hr
  have hr16 : (Sums.rows32 F ((Sums.bl s).drop N)).2.length < 16 := rows_rest _ _ _ (Nat.le_refl _)
  have hrl : r.size = (Sums.rows32 F ((Sums.bl s).drop N)).2.length := by rw [← hr, Sums.bl_length]
  have P7 := HP5.out.trans P6
  rw [← hr] at hr16 hrl
  obtain ⟨F2, HF2⟩ : ∃ F2, Hid (F2 = (Sums.rows32 F ((Sums.bl s).drop N)).1) := ⟨_, Hid.mk' rfl⟩
  rw [← HF2.out] at P7
  have HP7 := Hid.mk' P7
  have HRr := Hid.mk' hr
  clear P6 P7 HP5 hr hrs
  go_wp2_with fail
  obtain ⟨w6, E6, P8⟩ := copy_in w5 w g seed F2 R 16 (len + s.size) 0 16 16 r hR HP7.out (by omega)
  have hr2 : r.size < 16 := by rw [hrl]; exact hr16
  have em2 : Nat.min r.size 16 = r.size := Nat.min_eq_left (by omega)
  have et2 : (Sums.bl r).take r.size = Sums.bl r := by rw [← Sums.bl_length, List.take_length]
  rw [em2] at E6 P8
  rw [et2] at P8
  rw [E6]
  have hr3 : (laid R 0 (Sums.bl r)).length = 16 := by rw [laid_len _ _ _ (by rw [Sums.bl_length]; omega)]; exact hR
  have d21 : w6.cell? ⟨g, 21, none⟩ = some (.int .i64 16) := P8.cell _ (hashC_21 _ _ _ 16 _ hr3)
  have f21 : w6.frozen? ⟨g, 21, none⟩ = false := P8.frozen
  have HP8 := Hid.mk' P8
  clear P8 E6 HP7 em2 et2 hr16
  go_wp2_with fail
  go_end0
  refine ⟨rfl, ?_⟩
  have := HP8.out.setCell (o := 21) (.int .i64 ((r.size : Nat) : Int))
  rw [hashC_set21 _ _ _ _ _ _ hr3] at this
  rw [HNN.out, ← HR.out, ← HF.out, ← HRr.out, Sums.bl_length, ← HF2.out]
  exact this
end Go.Proofs.YtapphnkddjchkaaDoor
