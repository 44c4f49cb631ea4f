/-
  Plain facts of borders. No program is named here.
-/
import Derived.Test.YtecoiifmeajicaaDoorPlainZ
set_option linter.unusedVariables false
namespace Lit
open Swar
/-- the first j of q end a text of i (with o bytes ahead of them at least) -/
def Sf (q T : Nat → Nat) (o j i : Nat) : Prop := j + o ≤ i ∧ ∀ t, t < j → q t = T (i - j + t)
theorem sf_zero (q T : Nat → Nat) (o i : Nat) (h : o ≤ i) : Sf q T o 0 i := ⟨by omega, fun t ht => absurd ht (by omega)⟩
theorem sf_succ (q T : Nat → Nat) (o j i : Nat) : Sf q T o (j + 1) (i + 1) ↔ Sf q T o j i ∧ q j = T i := by
  unfold Sf
  constructor
  · rintro ⟨h1, h2⟩
    refine ⟨⟨by omega, fun t ht => ?_⟩, ?_⟩
    · have := h2 t (by omega)
      rw [show i + 1 - (j + 1) + t = i - j + t by omega] at this
      exact this
    · have := h2 j (by omega)
      rw [show i + 1 - (j + 1) + j = i by omega] at this
      exact this
  · rintro ⟨⟨h1, h2⟩, h3⟩
    refine ⟨by omega, fun t ht => ?_⟩
    by_cases e : t = j
    · subst e
      rw [show i + 1 - (t + 1) + t = i by omega]
      exact h3
    · rw [show i + 1 - (j + 1) + t = i - j + t by omega]
      exact h2 t (by omega)
/-- the longest border of a beginning -/
def Bd (q : Nat → Nat) (k b : Nat) : Prop := Sf q q 1 b k ∧ ∀ j, Sf q q 1 j k → j ≤ b
theorem bd_one (q : Nat → Nat) : Bd q 1 0 := ⟨sf_zero q q 1 1 (by omega), fun j h => by have := h.1; omega⟩
theorem bd_lt (q : Nat → Nat) (k b : Nat) (h : Bd q k b) : b < k := by have := h.1.1; omega
theorem fall (q T : Nat → Nat) (o k i b : Nat) (hk : Sf q T o k i) (hb : Bd q k b) : Sf q T o b i ∧ ∀ j, j < k → Sf q T o j i → j ≤ b := by
  have hbk := bd_lt q k b hb
  refine ⟨⟨by have := hk.1; omega, fun t ht => ?_⟩, fun j hj hs => hb.2 j ⟨by omega, fun t ht => ?_⟩⟩
  · rw [hb.1.2 t ht, hk.2 (k - b + t) (by omega)]
    have := hk.1
    rw [show i - k + (k - b + t) = i - b + t by omega]
  · rw [hs.2 t ht, hk.2 (k - j + t) (by omega)]
    have := hk.1
    rw [show i - k + (k - j + t) = i - j + t by omega]
/-- while one falls back: whatever can go on is no longer than k -/
def Fb (q T : Nat → Nat) (m o k i : Nat) : Prop := Sf q T o k i ∧ ∀ j, j < m → Sf q T o j i → q j = T i → j ≤ k
/-- the longest beginning of at most m that ends here -/
def Lg (q T : Nat → Nat) (m o k i : Nat) : Prop := k ≤ m ∧ Sf q T o k i ∧ ∀ j, j ≤ m → Sf q T o j i → j ≤ k
theorem fb_of (q T : Nat → Nat) (m o k i : Nat) (h : Lg q T m o k i) : Fb q T m o k i := ⟨h.2.1, fun j hj hs _ => h.2.2 j (by omega) hs⟩
theorem fb_step (q T : Nat → Nat) (m o k i b : Nat) (h : Fb q T m o k i) (hb : Bd q k b) (hn : k = m ∨ q k ≠ T i) : Fb q T m o b i := by
  have hf := fall q T o k i b h.1 hb
  refine ⟨hf.1, fun j hj hs he => ?_⟩
  have hle := h.2 j hj hs he
  refine hf.2 j ?_ hs
  rcases Nat.lt_or_eq_of_le hle with hlt | heq
  · exact hlt
  · subst heq
    rcases hn with e | e
    · omega
    · exact absurd he e
theorem lg_on (q T : Nat → Nat) (m o k i : Nat) (h : Fb q T m o k i) (hk : k < m) (he : q k = T i) : Lg q T m o (k + 1) (i + 1) := by
  refine ⟨by omega, (sf_succ q T o k i).2 ⟨h.1, he⟩, fun j hj hs => ?_⟩
  cases j with
  | zero => omega
  | succ j =>
    have h2 := (sf_succ q T o j i).1 hs
    have := h.2 j (by omega) h2.1 h2.2
    omega
theorem lg_off (q T : Nat → Nat) (m o i : Nat) (h : Fb q T m o 0 i) (hm : 0 < m) (he : q 0 ≠ T i) : Lg q T m o 0 (i + 1) := by
  refine ⟨by omega, sf_zero q T o (i + 1) (by have := h.1.1; omega), fun j hj hs => ?_⟩
  cases j with
  | zero => omega
  | succ j =>
    exfalso
    have h2 := (sf_succ q T o j i).1 hs
    have h3 := h.2 j (by omega) h2.1 h2.2
    have : j = 0 := by omega
    subst this
    exact he h2.2
theorem bd_lg (q : Nat → Nat) (m k i : Nat) (hi : i ≤ m) : Bd q i k ↔ Lg q q m 1 k i := by
  constructor
  · intro h
    exact ⟨by have := bd_lt q i k h; omega, h.1, fun j _ hs => h.2 j hs⟩
  · intro h
    exact ⟨h.2.1, fun j hs => h.2.2 j (by have := hs.1; omega) hs⟩
theorem lg_start (q T : Nat → Nat) (m : Nat) : Lg q T m 0 0 0 := ⟨by omega, sf_zero q T 0 0 (by omega), fun j _ hs => by have := hs.1; omega⟩
/-- the pattern's bytes, and the text's, as they count -/
def qf (fold : Bool) (p : ByteArray) (i : Nat) : Nat := cs fold (bt p i)
theorem lg_st (fold : Bool) (p s : ByteArray) (k i : Nat) (hi : i ≤ s.size) (h : Lg (qf fold p) (qf fold s) p.size 0 k i) : k = p.size ↔ p.size ≤ i ∧ stB fold p s (i - p.size) = true := by
  rw [stB_iff]
  constructor
  · intro e
    subst e
    have h1 := h.2.1.1
    refine ⟨by omega, by omega, fun t ht => ?_⟩
    exact (h.2.1.2 t ht).symm
  · rintro ⟨h1, h2⟩
    have := h.2.2 p.size (Nat.le_refl _) ⟨by omega, fun t ht => (h2.2 t ht).symm⟩
    have := h.1
    omega
/-- the places that end within the first i -/
def upI (fold : Bool) (p s : ByteArray) (i : Nat) : List Nat := (List.range (i + 1 - p.size)).filter (stB fold p s)
theorem upI_0 (fold : Bool) (p s : ByteArray) (h : 1 ≤ p.size) : upI fold p s 0 = [] := by unfold upI; rw [show 0 + 1 - p.size = 0 by omega]; rfl
theorem upI_yes (fold : Bool) (p s : ByteArray) (i : Nat) (h : p.size ≤ i + 1 ∧ stB fold p s (i + 1 - p.size) = true) : upI fold p s (i + 1) = upI fold p s i ++ [i + 1 - p.size] := by
  unfold upI
  rw [show i + 1 + 1 - p.size = (i + 1 - p.size) + 1 by omega, List.range_succ, List.filter_append]
  simp [h.2]
theorem upI_no (fold : Bool) (p s : ByteArray) (i : Nat) (hp : 1 ≤ p.size) (h : ¬ (p.size ≤ i + 1 ∧ stB fold p s (i + 1 - p.size) = true)) : upI fold p s (i + 1) = upI fold p s i := by
  unfold upI
  by_cases hle : p.size ≤ i + 1
  · rw [show i + 1 + 1 - p.size = (i + 1 - p.size) + 1 by omega, List.range_succ, List.filter_append]
    cases hs : stB fold p s (i + 1 - p.size) with
    | true => exact absurd ⟨hle, hs⟩ h
    | false => simp [hs]
  · rw [show i + 1 + 1 - p.size = 0 by omega, show i + 1 - p.size = 0 by omega]
theorem upI_end (fold : Bool) (p s : ByteArray) (hp : 1 ≤ p.size) : upI fold p s s.size = plL fold p s := by
  rw [plL_spec]
  unfold upI plc
  rw [show s.size + 1 = (s.size + 1 - p.size) + (s.size + 1 - (s.size + 1 - p.size)) by omega, List.range_add, List.filter_append]
  have e : (List.map (fun x => s.size + 1 - p.size + x) (List.range (s.size + 1 - (s.size + 1 - p.size)))).filter (stB fold p s) = [] := by
    rw [List.filter_eq_nil_iff]
    intro x hx
    obtain ⟨y, _, rfl⟩ := List.mem_map.1 hx
    have : stB fold p s (s.size + 1 - p.size + y) = false := by
      rw [stB_no]; intro hst; have := hst.1; omega
    rw [this]
    decide
  rw [show s.size + 1 - p.size + (s.size + 1 - (s.size + 1 - p.size)) - p.size = s.size + 1 - p.size by omega]
  rw [e, List.append_nil]
theorem upI_len (fold : Bool) (p s : ByteArray) (i : Nat) (hp : 1 ≤ p.size) : (upI fold p s i).length ≤ i := by
  unfold upI
  have := List.length_filter_le (stB fold p s) (List.range (i + 1 - p.size))
  rw [List.length_range] at this
  omega
end Lit
