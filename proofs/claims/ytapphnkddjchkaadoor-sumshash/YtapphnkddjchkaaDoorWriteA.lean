/-
  What Write, Sum and Reset of a Hash do. Conditions: as each says.
-/
import Derived.Test.YtapphnkddjchkaaDoorXX
import Derived.Deep.RegionWith
namespace Go.Proofs.YtapphnkddjchkaaDoor
open Go.RowKit
set_option linter.unusedVariables false
theorem putF_hash (seed : Nat) (f h : Sums.Four) (row : List Nat) (wt len : Nat) : putF (hashC seed f row wt len) 1 h = hashC seed h row wt len := rfl
theorem rows_rest (n : Nat) : ∀ (l : List Nat) (f : Sums.Four), l.length ≤ n → (Sums.rows32 f l).2.length < 16 := by
  induction n with
  | zero => intro l f hl; rw [Sums.rows32_end f l (by omega)]; show l.length < 16; omega
  | succ n ih =>
      intro l f hl
      by_cases h : 16 ≤ l.length
      · rw [Sums.rows32_more f l h]
        exact ih _ _ (by rw [List.length_drop]; omega)
      · rw [Sums.rows32_end f l h]; show l.length < 16; omega
theorem w4_pre (l m : List Nat) (k : Nat) (h : k + 4 ≤ l.length) : Sums.w4 ((l ++ m).drop k) = Sums.w4 (l.drop k) := by
  have key : ∀ j, j < 4 → ((l ++ m).drop k).getD j 0 = (l.drop k).getD j 0 := by
    intro j hj
    rw [List.getD_eq_getElem?_getD, List.getElem?_drop, List.getElem?_append_left (by omega), List.getD_eq_getElem?_getD, List.getElem?_drop]
  unfold Sums.w4
  rw [key 0 (by omega), key 1 (by omega), key 2 (by omega), key 3 (by omega)]
theorem take_pre (f : Sums.Four) (l m : List Nat) (h : 16 ≤ l.length) : Sums.take32 f (l ++ m) = Sums.take32 f l := by
  have h0 := w4_pre l m 0 (by omega)
  rw [List.drop_zero, List.drop_zero] at h0
  rw [Sums.take32, Sums.take32, h0, w4_pre l m 4 (by omega), w4_pre l m 8 (by omega), w4_pre l m 12 (by omega)]
theorem rows_append (n : Nat) (m : List Nat) : ∀ (l : List Nat) (f : Sums.Four), l.length ≤ n → Sums.rows32 f (l ++ m) = Sums.rows32 (Sums.rows32 f l).1 ((Sums.rows32 f l).2 ++ m) := by
  induction n with
  | zero => intro l f hl; rw [Sums.rows32_end f l (by omega)]
  | succ n ih =>
      intro l f hl
      by_cases h : 16 ≤ l.length
      · rw [Sums.rows32_more f l h, Sums.rows32_more f (l ++ m) (by rw [List.length_append]; omega), take_pre f l m h, List.drop_append_of_le_length h]
        exact ih _ _ (by rw [List.length_drop]; omega)
      · rw [Sums.rows32_end f l h]
/-- block g holds a Hash to which l was written -/
structure HashOf (g seed : Nat) (l : List Nat) (w : World) (f : Sums.Four) (row : List Nat) (wt : Nat) : Prop where
  mem : w.heap[g]? = some (.cells (hashC seed f row wt l.length).toArray 48 (0, 0))
  len : row.length = 16
  byt : ∀ z ∈ row, z < 256
  four : f = (Sums.rows32 (Sums.begin32 seed) l).1
  rest : row.take wt = (Sums.rows32 (Sums.begin32 seed) l).2
  less : wt < 16
theorem laid_byt {row l : List Nat} {o : Nat} (hr : ∀ z ∈ row, z < 256) (hl : ∀ z ∈ l, z < 256) : ∀ z ∈ laid row o l, z < 256 := by
  intro z hz
  unfold laid at hz
  rcases List.mem_append.1 hz with h | h
  · rcases List.mem_append.1 h with h | h
    · exact hr z (List.mem_of_mem_take h)
    · exact hl z h
  · exact hr z (List.mem_of_mem_drop h)
theorem laid_take0 (row l : List Nat) : (laid row 0 l).take l.length = l := by
  unfold laid
  rw [List.take_zero, List.nil_append, List.take_left']
  rfl
theorem laid_take (row l : List Nat) (o : Nat) (ho : o ≤ row.length) : (laid row o l).take (o + l.length) = row.take o ++ l := by
  unfold laid
  have h : (row.take o ++ l).length = o + l.length := by rw [List.length_append, List.length_take]; omega
  rw [← h, List.take_left']
  rfl
set_option maxHeartbeats 1000000 in
theorem write_at0 (g seed : Nat) (f : Sums.Four) (row : List Nat) (len : Nat) (s : ByteArray) (w : World) (hrow : row.length = 16) (hf : FourLt f) (hl : len + s.size < 9223372036854775808) (h : w.heap[g]? = some (.cells (hashC seed f row 0 len).toArray 48 (0, 0))) :
    Calls Tryd.prog 6 #[.pointer (some ⟨g, 0, none⟩), .string s] w fun e w' => e = .returned (.tuple #[]) ∧ Put g 48 (hashC seed (Sums.rows32 f (Sums.bl s)).1 (laid row 0 (Sums.rows32 f (Sums.bl s)).2) (Sums.rows32 f (Sums.bl s)).2.length (len + s.size)) w w' := by
  have hp := Put.refl h
  have c21 : w.cell? ⟨g, 21, none⟩ = some (.int .i64 0) := hp.cell _ (hashC_21 _ _ _ 0 _ hrow)
  have c22 : w.cell? ⟨g, 22, none⟩ = some (.int .i64 (len : Int)) := hp.cell _ (hashC_22 _ _ _ _ _ hrow)
  have f22 : w.frozen? ⟨g, 22, none⟩ = false := hp.frozen
  have HP := Hid.mk' hp
  clear hp h
  have hmf : ∀ (fn : Fn) (first cap : Array Value) (w : World), (Instr.makeFunc fn first cap).run Tryd.prog w = .ok (.func fn first cap) w := fun _ _ _ _ => rfl
  go_enter Tryd.func6, Tryd.ntmps6
  go_wp2_with fail
  have P1 : Put g 48 (hashC seed f row 0 (len + s.size)) w (w.setCell ⟨g, 22, none⟩ (.int .i64 ((len : Int) + (s.size : Int)))) := by
    have := HP.out.setCell (o := 22) (.int .i64 ((len + s.size : Nat) : Int))
    rw [hashC_set22 _ _ _ _ _ _ hrow] at this
    exact this
  have HP1 := Hid.mk' P1
  clear P1 HP c21 c22 f22
  generalize w.setCell ⟨g, 22, none⟩ (.int .i64 ((len : Int) + (s.size : Int))) = w1 at *
  refine (eachRow_take g 1 48 (hashC seed f row 0 (len + s.size)) f s w1 (by rw [putF_hash]; exact HP1.out.row) (by rw [hashC_len _ _ _ _ _ hrow]; decide) hf (by unfold maxLen; omega)).mono ?_
  rintro e w2 ⟨r, rfl, hrs, hr, P2⟩
  rw [putF_hash] at P2
  have hr16 : (Sums.rows32 f (Sums.bl s)).2.length < 16 := rows_rest _ _ _ (Nat.le_refl _)
  have hrl : r.size = (Sums.rows32 f (Sums.bl s)).2.length := by rw [← hr, Sums.bl_length]
  have P3 := HP1.out.trans P2
  rw [← hr] at hr16 hrl
  obtain ⟨F, HF⟩ : ∃ F, Hid (F = (Sums.rows32 f (Sums.bl s)).1) := ⟨_, Hid.mk' rfl⟩
  rw [← HF.out] at P3
  have HP3 := Hid.mk' P3
  have HRr := Hid.mk' hr
  clear P2 P3 HP1 hr
  go_wp2_with fail
  obtain ⟨w3, E3, P4⟩ := copy_in w2 w g seed F row 0 (len + s.size) 0 16 16 r hrow HP3.out (by omega)
  have hr2 : r.size < 16 := by rw [hrl]; exact hr16
  have em : Nat.min r.size 16 = r.size := Nat.min_eq_left (by omega)
  have et : (Sums.bl r).take r.size = Sums.bl r := by rw [← Sums.bl_length, List.take_length]
  rw [em] at E3 P4
  rw [et] at P4
  rw [E3]
  have hr3 : (laid row 0 (Sums.bl r)).length = 16 := by rw [laid_len _ _ _ (by rw [Sums.bl_length]; omega)]; exact hrow
  have d21 : w3.cell? ⟨g, 21, none⟩ = some (.int .i64 0) := P4.cell _ (hashC_21 _ _ _ 0 _ hr3)
  have f21 : w3.frozen? ⟨g, 21, none⟩ = false := P4.frozen
  have HP4 := Hid.mk' P4
  clear P4 E3 HP3 em et hr16
  go_wp2_with fail
  go_end0
  refine ⟨rfl, ?_⟩
  have := HP4.out.setCell (o := 21) (.int .i64 ((r.size : Nat) : Int))
  rw [hashC_set21 _ _ _ _ _ _ hr3] at this
  rw [← HRr.out, Sums.bl_length, ← HF.out]
  exact this
end Go.Proofs.YtapphnkddjchkaaDoor
