/-
  Days and times as numbers: how many days a month and a year have, which day a number is. No program is named here.
-/
namespace Mo
set_option linter.unusedVariables false
def leap (y : Nat) : Bool := y % 4 == 0 && (!(y % 100 == 0) || y % 400 == 0)
def md (y m : Nat) : Nat := if m = 2 then (if leap y = true then 29 else 28) else if m = 4 ∨ m = 6 ∨ m = 9 ∨ m = 11 then 30 else 31
def th (y : Nat) : Nat := y * 365 + y / 4 - y / 100 + y / 400
def ys (y : Nat) : Nat := th (y - 1) - 719162
def yl (y : Nat) : Nat := if leap y = true then 366 else 365
def ml (y : Nat) : Nat → Nat
  | 0 => 0
  | k + 1 => ml y k + md y (k + 1)
structure IsDay (n y m d : Nat) : Prop where
  y0 : 1970 ≤ y
  y1 : y ≤ 9999
  m0 : 1 ≤ m
  m1 : m ≤ 12
  d0 : 1 ≤ d
  d1 : d ≤ md y m
  num : n + 1 = ys y + ml y (m - 1) + d
theorem leap_true {y : Nat} (h : leap y = true) : y % 4 = 0 ∧ (y % 100 ≠ 0 ∨ y % 400 = 0) := by
  simpa [leap] using h
theorem leap_false {y : Nat} (h : leap y = false) : y % 4 ≠ 0 ∨ (y % 100 = 0 ∧ y % 400 ≠ 0) := by
  simp only [leap, Bool.and_eq_false_iff, Bool.or_eq_false_iff, beq_eq_false_iff_ne, Bool.not_eq_false', beq_iff_eq] at h
  exact h
theorem d4 (x : Nat) : (x + 1) / 4 = x / 4 + (if (x + 1) % 4 = 0 then 1 else 0) := by split <;> omega
theorem d100 (x : Nat) : (x + 1) / 100 = x / 100 + (if (x + 1) % 100 = 0 then 1 else 0) := by split <;> omega
theorem d400 (x : Nat) : (x + 1) / 400 = x / 400 + (if (x + 1) % 400 = 0 then 1 else 0) := by split <;> omega
theorem m100 (x : Nat) (h : x % 4 ≠ 0) : x % 100 ≠ 0 := by omega
theorem m400 (x : Nat) (h : x % 100 ≠ 0) : x % 400 ≠ 0 := by omega
theorem th_succ (x : Nat) : th (x + 1) = th x + yl (x + 1) := by
  have l1 : x / 100 ≤ x / 4 := by omega
  have l2 : (x + 1) / 100 ≤ (x + 1) / 4 := by omega
  have a := d4 x
  have b := d100 x
  have c := d400 x
  unfold th yl
  cases e : leap (x + 1)
  · rw [if_neg (by decide)]
    rcases leap_false e with h | ⟨h, h2⟩
    · have h3 := m100 _ h
      have h4 := m400 _ h3
      rw [if_neg h] at a; rw [if_neg h3] at b; rw [if_neg h4] at c
      omega
    · have h4 : (x + 1) % 4 = 0 := by omega
      rw [if_pos h4] at a; rw [if_pos h] at b; rw [if_neg h2] at c
      omega
  · rw [if_pos rfl]
    obtain ⟨h, h2 | h2⟩ := leap_true e
    · have h4 := m400 _ h2
      rw [if_pos h] at a; rw [if_neg h2] at b; rw [if_neg h4] at c
      omega
    · have h3 : (x + 1) % 100 = 0 := by omega
      rw [if_pos h] at a; rw [if_pos h3] at b; rw [if_pos h2] at c
      omega
theorem th_first : th 1969 = 719162 := by decide
theorem th_le {x z : Nat} (g : x ≤ z) : th x ≤ th z := by
  induction z with
  | zero => have : x = 0 := by omega
            subst this; exact Nat.le_refl _
  | succ z ih =>
    by_cases e : x = z + 1
    · subst e; exact Nat.le_refl _
    · have := ih (by omega)
      rw [th_succ]; omega
theorem ys_succ {y : Nat} (h : 1970 ≤ y) : ys (y + 1) = ys y + yl y := by
  have t := th_le (x := 1969) (z := y - 1) (by omega)
  have q := th_succ (y - 1)
  rw [Nat.sub_add_cancel (by omega)] at q
  rw [th_first] at t
  unfold ys
  rw [Nat.add_sub_cancel]
  omega
theorem ys_first : ys 1970 = 0 := by decide
theorem ys_last : ys 10000 = 2932897 := by decide
theorem yl_pos (y : Nat) : 365 ≤ yl y ∧ yl y ≤ 366 := by unfold yl; split <;> omega
theorem ys_le {y z : Nat} (h : 1970 ≤ y) (g : y ≤ z) : ys y ≤ ys z := by
  induction z with
  | zero => omega
  | succ z ih =>
    by_cases e : y = z + 1
    · subst e; exact Nat.le_refl _
    · have := ih (by omega)
      rw [ys_succ (by omega)]; omega
theorem ys_lt {y z : Nat} (h : 1970 ≤ y) (g : y < z) : ys y + yl y ≤ ys z := by
  rw [← ys_succ h]; exact ys_le (by omega) g
theorem ys_year {y z : Nat} (h : 1970 ≤ y) (g : 1970 ≤ z) (a b : Nat) (ha : a < yl y) (hb : b < yl z) (e : ys y + a = ys z + b) : y = z := by
  rcases Nat.lt_trichotomy y z with l | l | l
  · have := ys_lt h l; omega
  · exact l
  · have := ys_lt g l; omega
theorem md_pos (y m : Nat) : 28 ≤ md y m ∧ md y m ≤ 31 := by
  unfold md; split
  · split <;> omega
  · split <;> omega
theorem ml_year (y : Nat) : ml y 12 = yl y := by
  simp only [ml, md, yl]
  cases leap y <;> rfl
theorem ml_le (y : Nat) {a b : Nat} (h : a ≤ b) : ml y a ≤ ml y b := by
  induction b with
  | zero => have : a = 0 := by omega
            subst this; exact Nat.le_refl _
  | succ b ih =>
    by_cases e : a = b + 1
    · subst e; exact Nat.le_refl _
    · have := ih (by omega)
      rw [ml]; omega
theorem ml_lt (y : Nat) {a b : Nat} (h : a < b) : ml y a + md y (a + 1) ≤ ml y b := by
  have := ml_le y (Nat.succ_le_of_lt h)
  rw [ml] at this; exact this
theorem IsDay.inside {n y m d : Nat} (h : IsDay n y m d) : ml y (m - 1) + d ≤ yl y := by
  have h1 := ml_lt y (a := m - 1) (b := 12) (by have := h.m0; have := h.m1; omega)
  rw [ml_year, Nat.sub_add_cancel h.m0] at h1
  have := h.d1; omega
theorem IsDay.le {n y m d : Nat} (h : IsDay n y m d) : n ≤ 2932896 := by
  have h1 := h.inside
  have h2 := ys_lt (y := y) (z := 10000) h.y0 (by have := h.y1; omega)
  rw [ys_last] at h2
  have := h.num; omega
theorem IsDay.same {n y m d z k e : Nat} (h : IsDay n y m d) (g : IsDay n z k e) : y = z ∧ m = k ∧ d = e := by
  have h1 := h.inside
  have g1 := g.inside
  have h0 := h.d0
  have g0 := g.d0
  have hn := h.num
  have gn := g.num
  have ey := ys_year h.y0 g.y0 (ml y (m - 1) + d - 1) (ml z (k - 1) + e - 1) (by omega) (by omega) (by omega)
  subst ey
  have hm := h.m0
  have gm := g.m0
  have hd := h.d1
  have gd := g.d1
  have em : m = k := by
    rcases Nat.lt_trichotomy m k with l | l | l
    · have := ml_lt y (a := m - 1) (b := k - 1) (by omega)
      rw [Nat.sub_add_cancel hm] at this; omega
    · exact l
    · have := ml_lt y (a := k - 1) (b := m - 1) (by omega)
      rw [Nat.sub_add_cancel gm] at this; omega
  subst em
  exact ⟨rfl, rfl, by omega⟩
/-- The day behind a day. -/
theorem IsDay.next {n y m d : Nat} (h : IsDay n y m d) (hn : n < 2932896) :
    IsDay (n + 1) (if d = md y m ∧ m = 12 then y + 1 else y) (if d = md y m then (if m = 12 then 1 else m + 1) else m) (if d = md y m then 1 else d + 1) := by
  have h0 := h.m0
  have h1 := h.m1
  have hd := h.d1
  have hd0 := h.d0
  have hy0 := h.y0
  have hy1 := h.y1
  have e := h.num
  by_cases c : d = md y m
  · by_cases c2 : m = 12
    · rw [if_pos ⟨c, c2⟩, if_pos c, if_pos c2, if_pos c]
      have q := ml_year y
      rw [ml] at q
      have q1 := ys_succ h.y0
      have hy : y ≠ 9999 := by
        intro hy
        subst hy
        rw [ys_last] at q1
        subst c2
        rw [show 12 - 1 = 11 from rfl] at e
        rw [show 11 + 1 = 12 from rfl] at q
        omega
      have hp := md_pos (y + 1) 1
      refine ⟨by omega, by omega, by omega, by omega, by omega, by omega, ?_⟩
      subst c2
      rw [show 12 - 1 = 11 from rfl] at e
      rw [show 11 + 1 = 12 from rfl] at q
      rw [show 1 - 1 = 0 from rfl, ml, q1]; omega
    · rw [if_neg (fun x => c2 x.2), if_pos c, if_neg c2, if_pos c]
      have hp := md_pos y (m + 1)
      refine ⟨by omega, by omega, by omega, by omega, by omega, by omega, ?_⟩
      rw [show m + 1 - 1 = m - 1 + 1 by omega, ml, Nat.sub_add_cancel h0]; omega
  · rw [if_neg (fun x => c x.1), if_neg c, if_neg c]
    exact ⟨by omega, by omega, by omega, by omega, by omega, by omega, by omega⟩
end Mo
