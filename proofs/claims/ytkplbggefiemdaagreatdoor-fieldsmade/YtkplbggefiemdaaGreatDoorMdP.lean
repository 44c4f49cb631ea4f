/-
  A line that is made of fields, as it is gone through. Plain facts. Conditions: as each says.
-/
import Derived.Test.YtkplbggefiemdaaGreatDoorFlL
namespace Go.Proofs.YtkplbggefiemdaaGreatDoor
open Go.RowKit
set_option linter.unusedVariables false
set_option linter.unusedSimpArgs false
/-- a value as it stands between quotation marks -/
def escF : List Nat → List Nat
  | [] => []
  | x :: r => if x = 34 ∨ x = 92 then 92 :: x :: escF r else x :: escF r
theorem cq_esc (t : List Nat) : ∀ (v m : List Nat), cqF (escF v ++ 34 :: t) m = some (m ++ v, t)
  | [], m => by rw [escF, List.nil_append, cq_quote, List.append_nil]
  | x :: r, m => by
    rw [escF]
    by_cases h : x = 34 ∨ x = 92
    · rw [if_pos h, List.cons_append, List.cons_append, cq_pair, if_pos h, cq_esc t r]
      simp
    · rw [if_neg h, List.cons_append, cq_plain _ _ _ (fun e => h (.inl e)) (fun e => h (.inr e)), cq_esc t r]
      simp
theorem rws_app (p : Nat → Bool) (b : List Nat) (hb : ∀ x r, b = x :: r → p x = false) : ∀ a : List Nat, (∀ x ∈ a, p x = true) → rwS p (a ++ b) = a.length
  | [], _ => by
    cases b with
    | nil => rfl
    | cons x r => rw [List.nil_append, rwS, if_neg (by rw [hb x r rfl]; decide)]; rfl
  | x :: a, h => by
    rw [List.cons_append, rwS, if_pos (h x (by simp)), rws_app p b hb a (fun y hy => h y (List.mem_cons_of_mem _ hy))]
    rfl
theorem rws_all (p : Nat → Bool) : ∀ a : List Nat, rwS p a = a.length → ∀ x ∈ a, p x = true
  | [], _, x, hx => by cases hx
  | y :: a, h, x, hx => by
    rw [rwS] at h
    split at h
    · rename_i hy
      rcases List.mem_cons.1 hx with e | e
      · rw [e]; exact hy
      · exact rws_all p a (by rw [List.length_cons] at h; omega) x e
    · rw [List.length_cons] at h; omega
/-- may a value stand without quotation marks? -/
def barF (v : List Nat) : Bool := v.all vlB && !hasO 34 v
def valL (q : Bool) (v : List Nat) : List Nat := if q = true then 34 :: (escF v ++ [34]) else v
theorem cv_made (q : Bool) (v rest : List Nat) (hq : q = false → barF v = true) (hr : ∀ x r, rest = x :: r → vlB x = false) : cvF (valL q v ++ rest) = (v, rest) := by
  unfold cvF
  cases q with
  | true =>
    have e : valL true v ++ rest = 34 :: (escF v ++ 34 :: rest) := by unfold valL; rw [if_pos rfl]; simp
    rw [e, if_pos (by simp [hasO])]
    rw [List.drop_one, List.tail_cons, cq_esc rest v []]
    simp
  | false =>
    have h := hq rfl
    unfold barF at h
    rw [Bool.and_eq_true] at h
    have ev : valL false v = v := rfl
    rw [ev]
    have hall : ∀ x ∈ v, vlB x = true := fun x hx => List.all_eq_true.1 h.1 x hx
    have h34 : hasO 34 (v ++ rest) = false := by
      cases v with
      | nil =>
        rw [List.nil_append]
        cases rest with
        | nil => rfl
        | cons x r =>
          have hx := hr x r rfl
          by_cases e : x = 34
          · subst e; exact absurd hx (by decide)
          · simp [hasO, e]
      | cons x r =>
        have h2 := h.2
        simpa [hasO] using h2
    rw [if_neg (by rw [h34]; decide)]
    unfold bareF
    rw [rws_app vlB rest hr v hall, List.take_left, List.drop_left]
theorem name_rows (m : List Nat) (h : nameF m = true) : (∀ x ∈ m, nmB x = true) ∧ m ≠ [] ∧ m.length ≤ 64 := by
  unfold nameF at h
  simp only [Bool.and_eq_true, decide_eq_true_eq] at h
  refine ⟨rws_all nmB m h.2.2.2, ?_, h.2.1⟩
  intro e; rw [e] at h; exact absurd h.1 (by decide)
theorem wk_field (n : Nat) (m r : List Nat) (hm : nameF m = true) : wkF (n + 1) (m ++ 61 :: r) = (m, (cvF r).1) :: wkF n (cvF r).2 := by
  obtain ⟨h1, h2, h3⟩ := name_rows m hm
  have hk : rwS nmB (m ++ 61 :: r) = m.length := rws_app nmB (61 :: r) (fun x r' e => by cases e; decide) m h1
  rw [wk_take n (m ++ 61 :: r) m.length (by simp) hk (by rw [List.take_left, List.drop_left, hm]; rfl)]
  rw [List.take_left, List.drop_left, List.drop_one, List.tail_cons]
theorem wk_one (n : Nat) (x : Nat) (r : List Nat) (hx : nmB x = false) : wkF (n + 1) (x :: r) = wkF n r := by
  rw [wk_skip n (x :: r) 0 (by simp) (by rw [rwS, if_neg (by rw [hx]; decide)]) (by rw [List.take_zero]; rfl)]
  rfl
/-- what stands between two fields -/
def sepL : List (List Nat) := [[32], [44, 32], [59, 32], [9], [32, 97, 110, 100, 32]]
theorem wk_sep (n : Nat) (s r : List Nat) (hs : s ∈ sepL) : ∃ k, k ≤ s.length ∧ wkF (n + k) (s ++ r) = wkF n r := by
  unfold sepL at hs
  simp only [List.mem_cons, List.not_mem_nil, or_false] at hs
  rcases hs with rfl | rfl | rfl | rfl | rfl
  · exact ⟨1, by decide, wk_one n 32 r rfl⟩
  · exact ⟨2, by decide, (wk_one (n + 1) 44 (32 :: r) rfl).trans (wk_one n 32 r rfl)⟩
  · exact ⟨2, by decide, (wk_one (n + 1) 59 (32 :: r) rfl).trans (wk_one n 32 r rfl)⟩
  · exact ⟨1, by decide, wk_one n 9 r rfl⟩
  · refine ⟨2, by decide, (wk_one (n + 1) 32 (97 :: 110 :: 100 :: 32 :: r) rfl).trans ?_⟩
    exact wk_skip n (97 :: 110 :: 100 :: 32 :: r) 3 (by simp) rfl rfl
/-- a field: what stands ahead of it, its name, is its value quoted?, its value -/
abbrev Fd := List Nat × List Nat × Bool × List Nat
def okFd (f : Fd) : Prop := f.1 ∈ sepL ∧ nameF f.2.1 = true ∧ (f.2.2.1 = false → barF f.2.2.2 = true)
def oneL (f : Fd) : List Nat := f.1 ++ (f.2.1 ++ 61 :: valL f.2.2.1 f.2.2.2)
def flatL (fs : List Fd) : List Nat := fs.flatMap oneL
def pairL (fs : List Fd) : List (List Nat × List Nat) := fs.map fun f => (f.2.1, f.2.2.2)
theorem flat_head : ∀ fs : List Fd, (∀ f ∈ fs, okFd f) → ∀ x r, flatL fs = x :: r → vlB x = false
  | [], _, x, r, h => by cases h
  | f :: fs, ho, x, r, h => by
    have hs := (ho f (by simp)).1
    rw [show flatL (f :: fs) = oneL f ++ flatL fs from rfl] at h
    unfold oneL at h
    unfold sepL at hs
    simp only [List.mem_cons, List.not_mem_nil, or_false] at hs
    rcases hs with e | e | e | e | e <;> · rw [e] at h; simp only [List.cons_append, List.cons.injEq] at h; rw [← h.1]; decide
theorem wk_made : ∀ (fs : List Fd), (∀ f ∈ fs, okFd f) → ∀ n, (flatL fs).length < n → wkF n (flatL fs) = pairL fs
  | [], _, n, h => wk_nil n
  | f :: fs, ho, n, h => by
    obtain ⟨hs, hm, hq⟩ := ho f (by simp)
    have ht : ∀ g ∈ fs, okFd g := fun g hg => ho g (List.mem_cons_of_mem _ hg)
    have e : flatL (f :: fs) = f.1 ++ (f.2.1 ++ 61 :: (valL f.2.2.1 f.2.2.2 ++ flatL fs)) := by
      rw [show flatL (f :: fs) = oneL f ++ flatL fs from rfl]; unfold oneL; simp
    rw [e] at h ⊢
    have hlen : f.1.length + (flatL fs).length + 1 < n := by simp only [List.length_append, List.length_cons] at h; omega
    obtain ⟨k, hk, hw⟩ : ∃ k, k ≤ f.1.length ∧ ∀ n, wkF (n + k) (f.1 ++ (f.2.1 ++ 61 :: (valL f.2.2.1 f.2.2.2 ++ flatL fs))) = wkF n (f.2.1 ++ 61 :: (valL f.2.2.1 f.2.2.2 ++ flatL fs)) := by

      unfold sepL at hs
      simp only [List.mem_cons, List.not_mem_nil, or_false] at hs
      generalize f.2.1 ++ 61 :: (valL f.2.2.1 f.2.2.2 ++ flatL fs) = r
      rcases hs with e | e | e | e | e <;> rw [e]
      · exact ⟨1, by decide, fun n => wk_one n 32 r rfl⟩
      · exact ⟨2, by decide, fun n => (wk_one (n + 1) 44 (32 :: r) rfl).trans (wk_one n 32 r rfl)⟩
      · exact ⟨2, by decide, fun n => (wk_one (n + 1) 59 (32 :: r) rfl).trans (wk_one n 32 r rfl)⟩
      · exact ⟨1, by decide, fun n => wk_one n 9 r rfl⟩
      · exact ⟨2, by decide, fun n => (wk_one (n + 1) 32 (97 :: 110 :: 100 :: 32 :: r) rfl).trans (wk_skip n (97 :: 110 :: 100 :: 32 :: r) 3 (by simp) rfl rfl)⟩
    obtain ⟨n', rfl⟩ : ∃ n', n = n' + 1 + k := ⟨n - 1 - k, by omega⟩
    rw [hw, wk_field n' _ _ hm, cv_made _ _ _ hq (flat_head fs ht), wk_made fs ht n' (by omega)]
    rfl
theorem wk_line (fs : List Fd) (h : ∀ f ∈ fs, okFd f) : wkL (62 :: flatL fs) = pairL fs := by
  unfold wkL
  rw [List.length_cons, wk_one _ 62 _ rfl, wk_made fs h _ (by omega)]
end Go.Proofs.YtkplbggefiemdaaGreatDoor
