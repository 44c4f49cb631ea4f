/-
  moment: the taker: has, sign, ended, number. Conditions: the taker lies in a block of its own.
-/
import Derived.Test.YthmpokndffbkdaaDoorMoJ
namespace Go.Proofs.YthmpokndffbkdaaDoor
open Go.RowKit
set_option linter.unusedVariables false
/-- a taker: what is left, and whether it is lost -/
structure Tk (g : Nat) (l : List Nat) (b : Bool) (w : World) : Prop where
  ex : ∃ t : ByteArray, Sums.bl t = l ∧ w.heap[g]? = some (.cells #[.string t, .bool b] 72 (0, 0))
def hasF (c : Nat) : List Nat → Bool
  | x :: r => x == c
  | [] => false
def restF (c : Nat) : List Nat → List Nat
  | x :: r => if x = c then r else x :: r
  | [] => []
def endF : List Nat → Bool
  | x :: r => x == 32
  | [] => true
def numN : Nat → Nat → List Nat → Nat
  | 0, a, l => a
  | k + 1, a, [] => 0
  | k + 1, a, x :: r => if 48 ≤ x ∧ x ≤ 57 then numN k (a * 10 + (x - 48)) r else 0
def numL : Nat → List Nat → List Nat
  | 0, l => l
  | k + 1, [] => []
  | k + 1, x :: r => if 48 ≤ x ∧ x ≤ 57 then numL k r else x :: r
def numB : Nat → List Nat → Bool
  | 0, l => false
  | k + 1, [] => true
  | k + 1, x :: r => if 48 ≤ x ∧ x ≤ 57 then numB k r else true
theorem tk_idx (t : ByteArray) (x : Nat) (r : List Nat) (h : Sums.bl t = x :: r) (W : World) : (Instr.index 9 (.string t) (.int .i64 0)).run Tryd.prog W = .ok (.int .u8 (x : Int)) W := by
  have hs : 0 < t.size := by rw [← Sums.bl_length, h]; simp
  have hg := Sums.bl_get t 0 hs
  rw [h] at hg
  rw [run_index_string W 9 _ .i64 0 Tryd.underlying9, dif_pos ⟨by omega, by omega⟩]
  have : (x : Int) = (t[0].toNat : Int) := by rw [← hg]; rfl
  rw [this]; rfl
theorem tk_rest (t : ByteArray) (x : Nat) (r : List Nat) (h : Sums.bl t = x :: r) : Sums.bl (t.extract 1 t.size) = r := by
  rw [Sums.bl_drop, h]; rfl
theorem tk_cons (t : ByteArray) (x : Nat) (r : List Nat) (h : Sums.bl t = x :: r) : ¬ t.toList = [] ∧ t.toList.isEmpty = false ∧ 1 ≤ (t.size : Int) ∧ x < 256 := by
  have hs : 0 < t.size := by rw [← Sums.bl_length, h]; simp
  have hn : ¬ t.toList = [] := by
    rw [ByteArray.toList_eq]
    intro e
    have : t.data.toList.length = 0 := by rw [e]; rfl
    have h2 : t.data.toList.length = t.size := by simp
    omega
  refine ⟨hn, ?_, by omega, ?_⟩
  · cases e : t.toList with
    | nil => exact absurd e hn
    | cons _ _ => rfl
  · exact Sums.bl_byt t x (by rw [h]; simp)
theorem tk_nil (t : ByteArray) (h : Sums.bl t = []) : t.toList = [] ∧ t.toList.isEmpty = true := by
  have hs : t.size = 0 := by rw [← Sums.bl_length, h]; rfl
  have : t.toList = [] := by
    rw [ByteArray.toList_eq]
    exact List.length_eq_zero_iff.1 (by have h2 : t.data.toList.length = t.size := (by simp); omega)
  exact ⟨this, by rw [this]; rfl⟩
theorem only_set {g o : Nat} {cs : Array Value} {t : TypeId} (w : World) (u : Value) (hg : w.heap[g]? = some (.cells cs t (0, 0))) : Only g w (w.setCell ⟨g, o, none⟩ u) ∧ (w.setCell ⟨g, o, none⟩ u).heap[g]? = some (.cells (cs.setIfInBounds o u) t (0, 0)) := by
  have e := setCell_eq_setRow w g o cs t (0, 0) u hg
  rw [e]
  refine ⟨⟨rfl, rfl, rfl, by simp [World.setRow], fun k _ hk => ?_⟩, setRow_heap w g _ _ t _ hg⟩
  simp only [World.setRow, Array.getElem?_modify]
  rw [if_neg (by omega)]
theorem has_any (g c : Nat) (l : List Nat) (b : Bool) (w : World) (h : Tk g l b w) :
    Calls Tryd.prog 55 #[.pointer (some ⟨g, 0, none⟩), .int .u8 (c : Int)] w fun e w' => e = .returned (.bool (hasF c l)) ∧ Tk g (restF c l) b w' ∧ Only g w w' := by
  obtain ⟨t, ht, hg⟩ := h.ex
  have c0 : w.cell? ⟨g, 0, none⟩ = some (.string t) := by simp [World.cell?, hg]
  have f0 : w.frozen? ⟨g, 0, none⟩ = false := by simp [World.frozen?, hg]
  have HG := Hid.mk' hg
  have HH := Hid.mk' h
  have HT := Hid.mk' ht
  clear hg h
  cases l with
  | nil =>
    obtain ⟨he, he2⟩ := tk_nil t ht
    clear ht
    go_enter Tryd.func55, Tryd.ntmps55
    go_wp2
    go_ret
    exact ⟨rfl, HH.out, Only.refl _ _⟩
  | cons x r =>
    have hi := tk_idx t x r ht
    obtain ⟨n1, n2, n3, n4⟩ := tk_cons t x r ht
    clear ht
    by_cases hx : x = c
    · subst hx
      go_enter Tryd.func55, Tryd.ntmps55
      go_wp2
      go_ret
      have hq := only_set (o := 0) w (.string (t.extract 1 t.size)) HG.out
      refine ⟨by simp [hasF], ⟨t.extract 1 t.size, ?_, hq.2⟩, hq.1⟩
      rw [tk_rest t x r HT.out]
      simp [restF]
    · have hxI : ((x : Int) != (c : Int)) = true := by simp; omega
      go_enter Tryd.func55, Tryd.ntmps55
      go_wp2
      go_ret
      refine ⟨by simp [hasF, hx], ?_, Only.refl _ _⟩
      have := HH.out
      simp only [restF, if_neg hx]
      exact this
theorem sign_any (g c : Nat) (l : List Nat) (b : Bool) (w : World) (h : Tk g l b w) :
    Calls Tryd.prog 48 #[.pointer (some ⟨g, 0, none⟩), .int .u8 (c : Int)] w fun e w' => e = .returned (.tuple #[]) ∧ Tk g (restF c l) (b || !hasF c l) w' ∧ Only g w w' := by
  have HC := Hid.mk' (has_any g c l b w h)
  cases hq : hasF c l
  · rw [hq] at HC
    clear hq h
    go_enter Tryd.func48, Tryd.ntmps48
    go_wp2_with fail
    refine HC.out.mono ?_
    rintro e w1 ⟨rfl, h1, o1⟩
    obtain ⟨t, ht, hg⟩ := h1.ex
    have c1 : w1.cell? ⟨g, 1, none⟩ = some (.bool b) := by simp [World.cell?, hg]
    have f1 : w1.frozen? ⟨g, 1, none⟩ = false := by simp [World.frozen?, hg]
    have HG := Hid.mk' hg
    have HT := Hid.mk' ht
    have HO := Hid.mk' o1
    clear hg h1 ht o1
    go_wp2_with fail
    go_end0
    have hq := only_set (o := 1) w1 (.bool true) HG.out
    exact ⟨rfl, ⟨t, HT.out, by simpa using hq.2⟩, HO.out.trans hq.1⟩
  · rw [hq] at HC
    clear hq h
    go_enter Tryd.func48, Tryd.ntmps48
    go_wp2_with fail
    refine HC.out.mono ?_
    rintro e w1 ⟨rfl, h1, o1⟩
    have HH := Hid.mk' (And.intro h1 o1)
    clear h1 o1
    go_wp2_with fail
    go_end0
    exact ⟨rfl, by simpa using HH.out.1, HH.out.2⟩
theorem ended_any (g : Nat) (l : List Nat) (b : Bool) (w : World) (h : Tk g l b w) :
    Calls Tryd.prog 54 #[.pointer (some ⟨g, 0, none⟩)] w fun e w' => e = .returned (.bool (endF l)) ∧ w' = w := by
  obtain ⟨t, ht, hg⟩ := h.ex
  have c0 : w.cell? ⟨g, 0, none⟩ = some (.string t) := by simp [World.cell?, hg]
  clear hg h
  cases l with
  | nil =>
    obtain ⟨he, he2⟩ := tk_nil t ht
    clear ht
    go_enter Tryd.func54, Tryd.ntmps54
    go_wp2
    go_ret
    exact ⟨rfl, rfl⟩
  | cons x r =>
    have hi := tk_idx t x r ht
    obtain ⟨n1, n2, n3, n4⟩ := tk_cons t x r ht
    clear ht
    go_enter Tryd.func54, Tryd.ntmps54
    go_wp2
    go_ret
    refine ⟨ret_b ?_, rfl⟩
    rw [Bool.eq_iff_iff]
    simp [endF]
    omega
end Go.Proofs.YthmpokndffbkdaaDoor
