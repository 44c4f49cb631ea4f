/-
  moment: the taker: time, plusOrMinus, zone. Conditions: the taker lies in a block of its own.
-/
import Derived.Test.YthmpokndffbkdaaDoorMoM
namespace Go.Proofs.YthmpokndffbkdaaDoor
open Go.RowKit
set_option linter.unusedVariables false
theorem restF_not {c : Nat} {l : List Nat} (h : hasF c l = false) : restF c l = l := by
  cases l with
  | nil => rfl
  | cons x r => simp only [hasF, beq_eq_false_iff_ne] at h; simp [restF, h]
def timL (l : List Nat) : List Nat := if hasF 46 (secL l) = true then numL 3 (restF 46 (secL l)) else secL l
def timB (l : List Nat) : Bool := secB l || (hasF 46 (secL l) && numB 3 (restF 46 (secL l)))
def timC (l : List Nat) (cs : List Value) : List Value := if hasF 46 (secL l) = true then cs.set 6 (.int .i64 ((numN 3 0 (restF 46 (secL l)) : Nat) : Int)) else cs
set_option maxHeartbeats 1000000 in
theorem tim_any (g h : Nat) (T : TypeId) (l : List Nat) (b : Bool) (cs : List Value) (w0 w : World) (x : Tm g h T l b cs w0 w) (hl : 7 ≤ cs.length) :
    Calls Tryd.prog 49 #[.pointer (some ⟨g, 0, none⟩), .pointer (some ⟨h, 0, none⟩)] w fun e w' => e = .returned (.tuple #[]) ∧ Tm g h T (timL l) (b || timB l) (timC l (((cs.set 3 (.int .i64 ((sec0 l : Nat) : Int))).set 4 (.int .i64 ((sec1 l : Nat) : Int))).set 5 (.int .i64 ((sec2 l : Nat) : Int)))) w0 w' := by
  have HX := Hid.mk' x
  have HL := Hid.mk' hl
  unfold timL timB timC
  clear x hl
  cases hd : hasF 46 (secL l)
  · have hr := restF_not hd
    rw [if_neg (by decide), if_neg (by decide), Bool.false_and, Bool.or_false]
    have HD := Hid.mk' (And.intro hd hr)
    clear hd hr
    go_enter Tryd.func49, Tryd.ntmps49
    go_wp2_with fail
    refine (sec_any g h T l b cs w0 w HX.out HL.out).mono ?_
    rintro e a ⟨rfl, y⟩
    have HY := Hid.mk' y
    clear y HX
    go_wp2_with fail
    refine (has_any g 46 _ _ _ HY.out.tk).mono ?_
    rintro e a1 ⟨rfl, ht, ho⟩
    have HZ := HY.out.call ht ho
    rw [HD.out.2] at HZ
    have HZ2 := Hid.mk' HZ
    rw [HD.out.1]
    clear ht ho HY HZ
    go_wp2_with fail
    go_end0
    exact ⟨rfl, HZ2.out⟩
  · rw [if_pos rfl, if_pos rfl, Bool.true_and]
    have HD := Hid.mk' hd
    clear hd
    go_enter Tryd.func49, Tryd.ntmps49
    go_wp2_with fail
    refine (sec_any g h T l b cs w0 w HX.out HL.out).mono ?_
    rintro e a ⟨rfl, y⟩
    have HY := Hid.mk' y
    clear y HX
    go_wp2_with fail
    refine (has_any g 46 _ _ _ HY.out.tk).mono ?_
    rintro e a1 ⟨rfl, ht, ho⟩
    have HZ := Hid.mk' (HY.out.call ht ho)
    rw [HD.out]
    clear ht ho HY
    go_wp2_with fail
    refine (number_any g 3 _ _ _ HZ.out.tk (by decide)).mono ?_
    rintro e a2 ⟨rfl, ht, ho⟩
    have HW := Hid.mk' (HZ.out.call ht ho)
    obtain ⟨u, cu, fu⟩ := HW.out.cell (o := 6) (by have := HL.out; simp; omega)
    clear ht ho HZ
    go_wp2_with fail
    have HV := Hid.mk' (HW.out.store 6 (.int .i64 ((numN 3 0 (restF 46 (secL l)) : Nat) : Int)))
    go_end0
    refine ⟨rfl, ?_⟩
    have := HV.out
    simpa [Bool.or_assoc] using this
def pmL (l : List Nat) : List Nat := if hasF 45 l = true then restF 45 l else restF 43 l
def pmB (l : List Nat) : Bool := !hasF 45 l && !hasF 43 l
def pmV (l : List Nat) : Int := if hasF 45 l = true then -1 else 1
set_option maxHeartbeats 1000000 in
theorem pm_any (g : Nat) (l : List Nat) (b : Bool) (w : World) (h : Tk g l b w) :
    Calls Tryd.prog 68 #[.pointer (some ⟨g, 0, none⟩)] w fun e w' => e = .returned (.int .i64 (pmV l)) ∧ Tk g (pmL l) (b || pmB l) w' ∧ Only g w w' := by
  unfold pmL pmB pmV
  have HX := Hid.mk' h
  clear h
  cases hd : hasF 45 l
  · have hr := restF_not hd
    rw [if_neg (by decide), if_neg (by decide), Bool.not_false, Bool.true_and]
    have HD := Hid.mk' (And.intro hd hr)
    clear hd hr
    go_enter Tryd.func68, Tryd.ntmps68
    go_wp2_with fail
    refine (has_any g 45 _ _ _ HX.out).mono ?_
    rintro e a1 ⟨rfl, ht, ho⟩
    rw [HD.out.2] at ht
    have HT := Hid.mk' ht
    have HO := Hid.mk' ho
    rw [HD.out.1]
    clear ht ho HX
    go_wp2_with fail
    refine (sign_any g 43 _ _ _ HT.out).mono ?_
    rintro e a2 ⟨rfl, ht, ho⟩
    have HT2 := Hid.mk' ht
    have HO2 := Hid.mk' (HO.out.trans ho)
    clear ht ho HT HO
    go_wp2_with fail
    go_ret
    exact ⟨rfl, HT2.out, HO2.out⟩
  · rw [if_pos rfl, if_pos rfl, Bool.not_true, Bool.false_and, Bool.or_false]
    have HD := Hid.mk' hd
    clear hd
    go_enter Tryd.func68, Tryd.ntmps68
    go_wp2_with fail
    refine (has_any g 45 _ _ _ HX.out).mono ?_
    rintro e a1 ⟨rfl, ht, ho⟩
    have HT := Hid.mk' ht
    have HO := Hid.mk' ho
    rw [HD.out]
    clear ht ho HX
    go_wp2_with fail
    go_ret
    exact ⟨rfl, HT.out, HO.out⟩
theorem Tk.alloc {g : Nat} {l : List Nat} {b : Bool} {w : World} (h : Tk g l b w) (o : Obj) : Tk g l b (w.alloc o) := by
  obtain ⟨t, ht, hg⟩ := h.ex
  exact ⟨t, ht, (Below.heap_alloc w o g (Array.getElem?_eq_some_iff.1 hg).1).trans hg⟩
theorem Tk.lt {g : Nat} {l : List Nat} {b : Bool} {w : World} (h : Tk g l b w) : g < w.heap.size := by
  obtain ⟨t, ht, hg⟩ := h.ex
  exact (Array.getElem?_eq_some_iff.1 hg).1
end Go.Proofs.YthmpokndffbkdaaDoor
