/-
  moment: the taker: number. Conditions: at most 15 digits.
-/
import Derived.Test.YthmpokndffbkdaaDoorMoK
namespace Go.Proofs.YthmpokndffbkdaaDoor
open Go.RowKit
set_option linter.unusedVariables false
theorem numN_lt : ∀ (k a : Nat) (l : List Nat), numN k a l < (a + 1) * 10 ^ k
  | 0, a, l => by simp [numN]
  | k + 1, a, [] => by rw [numN]; exact Nat.mul_pos (by omega) (Nat.pow_pos (by decide))
  | k + 1, a, x :: r => by
    rw [numN]
    split
    · have h := numN_lt k (a * 10 + (x - 48)) r
      have : (a * 10 + (x - 48) + 1) ≤ (a + 1) * 10 := by omega
      have h2 := Nat.mul_le_mul_right (10 ^ k) this
      rw [Nat.pow_succ, Nat.mul_comm (10 ^ k) 10, ← Nat.mul_assoc]
      omega
    · exact Nat.mul_pos (by omega) (Nat.pow_pos (by decide))
set_option maxRecDepth 100000 in
set_option maxHeartbeats 2000000 in
theorem number_any (g k : Nat) (l : List Nat) (b : Bool) (w : World) (h : Tk g l b w) (hk : k ≤ 15) :
    Calls Tryd.prog 64 #[.pointer (some ⟨g, 0, none⟩), .int .i64 (k : Int)] w fun e w' => e = .returned (.int .i64 ((numN k 0 l : Nat) : Int)) ∧ Tk g (numL k l) (b || numB k l) w' ∧ Only g w w' := by
  obtain ⟨N, hN⟩ : ∃ N, numN k 0 l = N := ⟨_, rfl⟩
  obtain ⟨L, hL⟩ : ∃ L, numL k l = L := ⟨_, rfl⟩
  obtain ⟨B, hB⟩ : ∃ B, numB k l = B := ⟨_, rfl⟩
  rw [hN, hL, hB]
  have H0 := Hid.mk' (And.intro hN (And.intro hL hB))
  have HT := Hid.mk' h
  clear hN hL hB h
  go_enter Tryd.func64, Tryd.ntmps64
  go_wp2
  go_loopw [5, 7] (fun nv iv wr => ∃ (j a m : Nat) (l' : List Nat), iv = .int .i64 ((j : Nat) : Int) ∧ nv = .int .i64 ((a : Nat) : Int) ∧ j + m = k ∧ a < 10 ^ j ∧ Hid (numN m a l' = N ∧ numL m l' = L ∧ numB m l' = B) ∧ Hid (Tk g l' b wr ∧ Only g w wr)) (fun _ iv _ => k - (intOf iv).toNat)
  case atStart => exact ⟨0, 0, k, l, rfl, rfl, by omega, by decide, H0, ⟨HT.out, Only.refl _ _⟩⟩
  case round =>
    obtain ⟨j, a, m, l', rfl, rfl, hj, ha, hn, ht⟩ := hrel
    have hab : a < 1000000000000000 := by
      have := Nat.pow_le_pow_right (n := 10) (by decide) (show j ≤ 15 by omega)
      have : (10 : Nat) ^ 15 = 1000000000000000 := by decide
      omega
    cases m with
    | zero =>
      have hjk : ¬ (j : Int) < (k : Int) := by omega
      have e1 := hn.out.1
      have e2 := hn.out.2.1
      have e3 := hn.out.2.2
      simp only [numN, numL, numB] at e1 e2 e3
      have HE := Hid.mk' (And.intro e1 (And.intro e2 e3))
      clear e1 e2 e3 ha
      go_wp2
      go_ret
      refine ⟨ret_i64 (by rw [HE.out.1]), ?_, ht.out.2⟩
      rw [← HE.out.2.1, ← HE.out.2.2, Bool.or_false]
      exact ht.out.1
    | succ m =>
      have hjk : (j : Int) < (k : Int) := by omega
      obtain ⟨t, hbl, hg⟩ := ht.out.1.ex
      have c0 : wr.cell? ⟨g, 0, none⟩ = some (.string t) := by simp [World.cell?, hg]
      have f0 : wr.frozen? ⟨g, 0, none⟩ = false := by simp [World.frozen?, hg]
      have c1 : wr.cell? ⟨g, 1, none⟩ = some (.bool b) := by simp [World.cell?, hg]
      have f1 : wr.frozen? ⟨g, 1, none⟩ = false := by simp [World.frozen?, hg]
      have HG := Hid.mk' hg
      have HBL := Hid.mk' hbl
      have HA := Hid.mk' ha
      clear hg ha
      cases l' with
      | nil =>
        obtain ⟨he, he2⟩ := tk_nil t hbl
        clear hbl
        have e1 := hn.out.1
        have e2 := hn.out.2.1
        have e3 := hn.out.2.2
        simp only [numN, numL, numB] at e1 e2 e3
        have HE := Hid.mk' (And.intro e1 (And.intro e2 e3))
        clear e1 e2 e3
        go_wp2
        go_ret
        have hq := only_set (o := 1) wr (.bool true) HG.out
        refine ⟨ret_i64 (by rw [← HE.out.1]; rfl), ?_, ht.out.2.trans hq.1⟩
        rw [← HE.out.2.1, ← HE.out.2.2, Bool.or_true]
        exact ⟨t, HBL.out, by simpa using hq.2⟩
      | cons x r =>
        have hi := tk_idx t x r hbl
        obtain ⟨n1, n2, n3, n4⟩ := tk_cons t x r hbl
        clear hbl
        by_cases hx : 48 ≤ x ∧ x ≤ 57
        · have d1 : decide ((x : Int) < 48) = false := by simp; omega
          have d2 : decide ((57 : Int) < (x : Int)) = false := by simp; omega
          have d3 : ¬ (x : Int) < 48 := by omega
          have d4 : ¬ (57 : Int) < (x : Int) := by omega
          obtain ⟨z, hz⟩ : ∃ z, x - 48 = z := ⟨_, rfl⟩
          have hzI : (x : Int) - 48 = (z : Int) := by omega
          have hzb : z ≤ 9 := by omega
          have e1 := hn.out.1
          have e2 := hn.out.2.1
          have e3 := hn.out.2.2
          simp only [numN, numL, numB, if_pos hx, hz] at e1 e2 e3
          have HE := Hid.mk' (And.intro e1 (And.intro e2 e3))
          clear e1 e2 e3 hz hx
          go_wp2
          go_roundw
          case rel =>
            have hq := only_set (o := 0) wr (.string (t.extract 1 t.size)) HG.out
            refine ⟨j + 1, a * 10 + z, m, r, by simp, int_eq (by omega), by omega, ?_, HE, ?_⟩
            · have := HA.out; rw [Nat.pow_succ]; omega
            · exact ⟨⟨_, tk_rest t x r HBL.out, by simpa using hq.2⟩, ht.out.2.trans hq.1⟩
          case measure => simp [intOf]; omega
        · have e1 := hn.out.1
          have e2 := hn.out.2.1
          have e3 := hn.out.2.2
          simp only [numN, numL, numB, if_neg hx] at e1 e2 e3
          have HE := Hid.mk' (And.intro e1 (And.intro e2 e3))
          clear e1 e2 e3
          by_cases hx1 : x < 48
          · have d1 : decide ((x : Int) < 48) = true := by simp; omega
            have d3 : (x : Int) < 48 := by omega
            clear hx
            go_wp2
            go_ret
            have hq := only_set (o := 1) wr (.bool true) HG.out
            refine ⟨ret_i64 (by rw [← HE.out.1]; rfl), ?_, ht.out.2.trans hq.1⟩
            rw [← HE.out.2.1, ← HE.out.2.2, Bool.or_true]
            exact ⟨t, HBL.out, by simpa using hq.2⟩
          · have d1 : decide ((x : Int) < 48) = false := by simp; omega
            have d3 : ¬ (x : Int) < 48 := by omega
            have d2 : decide ((57 : Int) < (x : Int)) = true := by simp; omega
            have d4 : (57 : Int) < (x : Int) := by omega
            clear hx hx1
            go_wp2
            go_ret
            have hq := only_set (o := 1) wr (.bool true) HG.out
            refine ⟨ret_i64 (by rw [← HE.out.1]; rfl), ?_, ht.out.2.trans hq.1⟩
            rw [← HE.out.2.1, ← HE.out.2.2, Bool.or_true]
            exact ⟨t, HBL.out, by simpa using hq.2⟩
end Go.Proofs.YthmpokndffbkdaaDoor
