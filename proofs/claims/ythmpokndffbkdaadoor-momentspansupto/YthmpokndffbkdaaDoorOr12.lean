/-
  The order of texts of stamps is that of the stamps. No program is named here.
-/
import Derived.Test.YthmpokndffbkdaaDoorPk12
namespace Go.Proofs.YthmpokndffbkdaaDoor
open Go.RowKit
set_option linter.unusedVariables false
def lx : List Nat → List Nat → Bool
  | [], [] => false
  | [], _ :: _ => true
  | _ :: _, [] => false
  | x :: a, y :: b => decide (x < y) || (decide (x = y) && lx a b)
theorem lx_app : ∀ (a b r q : List Nat), a.length = b.length → lx (a ++ r) (b ++ q) = (lx a b || (decide (a = b) && lx r q))
  | [], [], r, q, _ => by simp [lx]
  | x :: a, y :: b, r, q, h => by
    have ih := lx_app a b r q (by simpa using h)
    simp only [List.cons_append, lx, ih]
    by_cases e : x = y
    · subst e; simp
    · simp [e]
theorem lx_same (a : List Nat) : lx a a = false := by
  induction a with
  | nil => rfl
  | cons x a ih => simp [lx, ih]
theorem lx_pre (p r q : List Nat) : lx (p ++ r) (p ++ q) = lx r q := by
  rw [lx_app p p r q rfl, lx_same]; simp
/-- so many digits of a number -/
def dg : Nat → Nat → List Nat
  | 0, _ => []
  | k + 1, v => dg k (v / 10) ++ [48 + v % 10]
theorem dg_len (k v : Nat) : (dg k v).length = k := by
  induction k generalizing v with
  | zero => rfl
  | succ k ih => rw [dg, List.length_append, ih]; rfl
theorem dg_inj : ∀ (k v u : Nat), v < 10 ^ k → u < 10 ^ k → dg k v = dg k u → v = u
  | 0, v, u, h1, h2, _ => by simp at h1 h2; omega
  | k + 1, v, u, h1, h2, h => by
    rw [dg, dg] at h
    have h3 := List.append_inj h (by rw [dg_len, dg_len])
    rw [Nat.pow_succ] at h1 h2
    have h4 := dg_inj k (v / 10) (u / 10) (by omega) (by omega) h3.1
    have h5 : 48 + v % 10 = 48 + u % 10 := by simpa using h3.2
    omega
theorem dg_lx : ∀ (k v u : Nat), v < 10 ^ k → u < 10 ^ k → lx (dg k v) (dg k u) = decide (v < u)
  | 0, v, u, h1, h2 => by simp at h1 h2; subst h1 h2; simp [dg, lx]
  | k + 1, v, u, h1, h2 => by
    rw [Nat.pow_succ] at h1 h2
    rw [dg, dg, lx_app _ _ _ _ (by rw [dg_len, dg_len]), dg_lx k (v / 10) (u / 10) (by omega) (by omega)]
    have e : decide (dg k (v / 10) = dg k (u / 10)) = decide (v / 10 = u / 10) := by
      by_cases c : v / 10 = u / 10
      · simp [c]
      · have : ¬ dg k (v / 10) = dg k (u / 10) := fun h => c (dg_inj k _ _ (by omega) (by omega) h)
        simp [c, this]
    rw [e]
    simp only [lx, Bool.and_false, Bool.or_false]
    rw [Bool.eq_iff_iff]
    simp only [Bool.or_eq_true, Bool.and_eq_true, decide_eq_true_eq]
    omega
theorem sh_dg (y m d h mi s ms : Nat) : Mo.sh y m d h mi s ms = dg 4 y ++ ([45] ++ (dg 2 m ++ ([45] ++ (dg 2 d ++ ([84] ++ (dg 2 h ++ ([58] ++ (dg 2 mi ++ ([58] ++ (dg 2 s ++ ([46] ++ (dg 3 ms ++ [90])))))))))))) := by
  simp [Mo.sh, dg, Nat.div_div_eq_div_mul]
/-- a day and a time, in order -/
def lx7 (y m d h mi s ms y' m' d' h' mi' s' ms' : Nat) : Bool := decide (y < y') || (decide (y = y') && (decide (m < m') || (decide (m = m') && (decide (d < d') || (decide (d = d') && (decide (h < h') || (decide (h = h') && (decide (mi < mi') || (decide (mi = mi') && (decide (s < s') || (decide (s = s') && decide (ms < ms'))))))))))))
theorem blk (k v u : Nat) (r q : List Nat) (h1 : v < 10 ^ k) (h2 : u < 10 ^ k) (p : List Nat) : lx (dg k v ++ (p ++ r)) (dg k u ++ (p ++ q)) = (decide (v < u) || (decide (v = u) && lx r q)) := by
  rw [lx_app _ _ _ _ (by rw [dg_len, dg_len]), dg_lx k v u h1 h2, lx_pre]
  congr 2
  by_cases c : v = u
  · simp [c]
  · have : ¬ dg k v = dg k u := fun h => c (dg_inj k _ _ h1 h2 h)
    simp [c, this]
theorem sh_lx {y m d h mi s ms y' m' d' h' mi' s' ms' : Nat} (a1 : y < 10000) (a2 : m < 100) (a3 : d < 100) (a4 : h < 100) (a5 : mi < 100) (a6 : s < 100) (a7 : ms < 1000) (b1 : y' < 10000) (b2 : m' < 100) (b3 : d' < 100) (b4 : h' < 100) (b5 : mi' < 100) (b6 : s' < 100) (b7 : ms' < 1000) : lx (Mo.sh y m d h mi s ms) (Mo.sh y' m' d' h' mi' s' ms') = lx7 y m d h mi s ms y' m' d' h' mi' s' ms' := by
  rw [sh_dg, sh_dg, blk 4 y y' _ _ a1 b1, blk 2 m m' _ _ a2 b2, blk 2 d d' _ _ a3 b3, blk 2 h h' _ _ a4 b4, blk 2 mi mi' _ _ a5 b5, blk 2 s s' _ _ a6 b6]
  have e := blk 3 ms ms' [] [] a7 b7 [90]
  rw [List.append_nil] at e
  rw [e]
  simp [lx7, lx]
theorem sh_inj {y m d h mi s ms y' m' d' h' mi' s' ms' : Nat} (a1 : y < 10000) (a2 : m < 100) (a3 : d < 100) (a4 : h < 100) (a5 : mi < 100) (a6 : s < 100) (a7 : ms < 1000) (b1 : y' < 10000) (b2 : m' < 100) (b3 : d' < 100) (b4 : h' < 100) (b5 : mi' < 100) (b6 : s' < 100) (b7 : ms' < 1000) (e : Mo.sh y m d h mi s ms = Mo.sh y' m' d' h' mi' s' ms') : y = y' ∧ m = m' ∧ d = d' ∧ h = h' ∧ mi = mi' ∧ s = s' ∧ ms = ms' := by
  rw [sh_dg, sh_dg] at e
  obtain ⟨e1, e⟩ := List.append_inj e (by rw [dg_len, dg_len])
  have e := List.append_cancel_left e
  obtain ⟨e2, e⟩ := List.append_inj e (by rw [dg_len, dg_len])
  have e := List.append_cancel_left e
  obtain ⟨e3, e⟩ := List.append_inj e (by rw [dg_len, dg_len])
  have e := List.append_cancel_left e
  obtain ⟨e4, e⟩ := List.append_inj e (by rw [dg_len, dg_len])
  have e := List.append_cancel_left e
  obtain ⟨e5, e⟩ := List.append_inj e (by rw [dg_len, dg_len])
  have e := List.append_cancel_left e
  obtain ⟨e6, e⟩ := List.append_inj e (by rw [dg_len, dg_len])
  have e := List.append_cancel_left e
  obtain ⟨e7, e⟩ := List.append_inj e (by rw [dg_len, dg_len])
  exact ⟨dg_inj 4 _ _ a1 b1 e1, dg_inj 2 _ _ a2 b2 e2, dg_inj 2 _ _ a3 b3 e3, dg_inj 2 _ _ a4 b4 e4, dg_inj 2 _ _ a5 b5 e5, dg_inj 2 _ _ a6 b6 e6, dg_inj 3 _ _ a7 b7 e7⟩
/-- days in order are numbers in order -/
theorem day_lt {n n' y m d y' m' d' : Nat} (a : Mo.IsDay n y m d) (b : Mo.IsDay n' y' m' d') : n < n' ↔ (y < y' ∨ (y = y' ∧ (m < m' ∨ (m = m' ∧ d < d')))) := by
  have ia := a.inside
  have ib := b.inside
  have na := a.num
  have nb := b.num
  have da := a.d1
  have db := b.d1
  have da0 := a.d0
  have db0 := b.d0
  have ma := a.m0
  have mb := b.m0
  rcases Nat.lt_trichotomy y y' with l | l | l
  · have := Mo.ys_lt a.y0 l
    constructor
    · intro _; exact .inl l
    · intro _; omega
  · subst l
    rcases Nat.lt_trichotomy m m' with k | k | k
    · have := Mo.ml_lt y (a := m - 1) (b := m' - 1) (by omega)
      rw [Nat.sub_add_cancel ma] at this
      constructor
      · intro _; exact .inr ⟨rfl, .inl k⟩
      · intro _; omega
    · subst k
      constructor
      · intro _; exact .inr ⟨rfl, .inr ⟨rfl, by omega⟩⟩
      · intro _; omega
    · have := Mo.ml_lt y (a := m' - 1) (b := m - 1) (by omega)
      rw [Nat.sub_add_cancel mb] at this
      constructor
      · intro _; omega
      · rintro (h | ⟨_, h | ⟨h, _⟩⟩) <;> omega
  · have := Mo.ys_lt b.y0 l
    constructor
    · intro _; omega
    · rintro (h | ⟨h, _⟩) <;> omega
end Go.Proofs.YthmpokndffbkdaaDoor
