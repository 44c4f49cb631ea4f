/-
  A stamp's text is read as that stamp. No program is named here.
-/
import Derived.Test.YthmpokndffbkdabDoorMomentOrderW
namespace Go.Proofs.YthmpokndffbkdabDoor
open Go.RowKit
set_option linter.unusedVariables false
def foldN (a : Nat) (l : List Nat) : Nat := l.foldl (fun a x => a * 10 + (x - 48)) a
theorem num_app : ∀ (l : List Nat) (j a : Nat) (r : List Nat), (∀ z ∈ l, 48 ≤ z ∧ z ≤ 57) → numN (l.length + j) a (l ++ r) = numN j (foldN a l) r ∧ numL (l.length + j) (l ++ r) = numL j r ∧ numB (l.length + j) (l ++ r) = numB j r
  | [], j, a, r, _ => by simp [foldN]
  | x :: l, j, a, r, h => by
    have hx := h x (by simp)
    have ih := num_app l j (a * 10 + (x - 48)) r (fun z hz => h z (by simp [hz]))
    rw [List.length_cons, List.cons_append, show l.length + 1 + j = (l.length + j) + 1 by omega]
    rw [numN, numL, numB, if_pos hx, if_pos hx, if_pos hx]
    exact ih
theorem dg_dig (k v : Nat) : ∀ z ∈ dg k v, 48 ≤ z ∧ z ≤ 57 := by
  induction k generalizing v with
  | zero => intro z hz; cases hz
  | succ k ih =>
    intro z hz
    rw [dg] at hz
    rcases List.mem_append.1 hz with h | h
    · exact ih _ z h
    · have : z = 48 + v % 10 := by simpa using h
      omega
theorem fold_dg (k v a : Nat) : foldN a (dg k v) = a * 10 ^ k + v % 10 ^ k := by
  induction k generalizing v with
  | zero => simp [foldN, dg, Nat.mod_one]
  | succ k ih =>
    rw [dg]
    unfold foldN at ih ⊢
    rw [List.foldl_append, ih]
    simp only [List.foldl_cons, List.foldl_nil, Nat.add_sub_cancel_left]
    rw [Nat.pow_succ]
    have h1 : v % (10 ^ k * 10) = v % 10 + 10 * (v / 10 % 10 ^ k) := by
      rw [Nat.mul_comm (10 ^ k) 10, Nat.mod_mul]
    rw [h1, Nat.add_mul, Nat.mul_assoc]
    omega
theorem num_dg (k v : Nat) (r : List Nat) (h : v < 10 ^ k) : numN k 0 (dg k v ++ r) = v ∧ numL k (dg k v ++ r) = r ∧ numB k (dg k v ++ r) = false := by
  have := num_app (dg k v) 0 0 r (dg_dig k v)
  rw [dg_len, Nat.add_zero, fold_dg, Nat.zero_mul, Nat.zero_add, Nat.mod_eq_of_lt h] at this
  exact this
def TZ (y m d h mi s ms sg zh zm : Nat) : List Nat := dg 4 y ++ ([45] ++ (dg 2 m ++ ([45] ++ (dg 2 d ++ ([84] ++ (dg 2 h ++ ([58] ++ (dg 2 mi ++ ([58] ++ (dg 2 s ++ ([46] ++ (dg 3 ms ++ ([sg] ++ (dg 2 zh ++ ([58] ++ (dg 2 zm ++ []))))))))))))))))
theorem read_TZ {y m d h mi s ms sg zh zm : Nat} (a1 : y < 10000) (a2 : m < 100) (a3 : d < 100) (a4 : h < 100) (a5 : mi < 100) (a6 : s < 100) (a7 : ms < 1000) (a8 : zh < 100) (a9 : zm < 100) (hsg : sg = 43 ∨ sg = 45) :
    readR (TZ y m d h mi s ms sg zh zm) = stR y m d h mi s ms (if sg = 45 then -1 else 1) zh zm := by
  have n4 := fun r => num_dg 4 y r a1
  have nm := fun r => num_dg 2 m r a2
  have nd := fun r => num_dg 2 d r a3
  have nh := fun r => num_dg 2 h r a4
  have ni := fun r => num_dg 2 mi r a5
  have ns := fun r => num_dg 2 s r a6
  have nq := fun r => num_dg 3 ms r a7
  have nz := fun r => num_dg 2 zh r a8
  have nw := fun r => num_dg 2 zm r a9
  have nw0 := nw []
  rw [List.append_nil] at nw0
  have c : ∀ x (r : List Nat), [x] ++ r = x :: r := fun _ _ => rfl
  unfold TZ
  rcases hsg with rfl | rfl
  all_goals
    simp only [readR, rdBad, rd2, rd3, dayL, dayB, day0, day1, day2, n4, nm, nd, c, restF, hasF, if_true, BEq.rfl, Bool.not_true, Bool.or_false, Bool.false_or, timL, timB, timMs, secL, secB, sec0, sec1, sec2, nh, ni, ns, nq, zonL, zonB, zonS, zonH, zonM, pmL, pmB, pmV, nz, nw]
    simp [nz, nw0]
end Go.Proofs.YthmpokndffbkdabDoor
