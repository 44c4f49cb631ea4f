/-
  What the document's Choose, Compile and Kernel do. Conditions: as each says.
-/
import Derived.Test.YtecoiifmeajicaaDoorCmp
namespace Go.Proofs.YtecoiifmeajicaaDoor
open Go.RowKit
set_option linter.unusedVariables false
theorem refChoose_any (s : ByteArray) (fold : Bool) (w : World) (hs : s.size ≤ 1125899906842624) :
    Calls Tryd.prog 13 #[.string s, .bool fold] w fun e w' => e = .returned (.int .i64 ((chs s.size fold : Nat) : Int)) ∧ w' = w := by
  have HC : Hid (chs s.size fold = if isP s.size = false then 0 else if s.size = 1 then 1 else if fold = true then (if s.size ≤ 64 then 4 else 5) else if s.size < 8 then 2 else 3) := rfl
  by_cases n0 : s.size < 1
  · rw [isP_no s.size (.inl n0), if_pos rfl] at HC
    have d1 : decide ((s.size : Int) < 1) = true := decide_eq_true (by omega)
    have e1 : (s.size : Int) < 1 := by omega
    clear n0
    go_enter Tryd.func13, Tryd.ntmps13
    go_wp2_with fail
    go_ret
    exact ⟨by rw [HC.out]; rfl, rfl⟩
  have d1 : decide ((s.size : Int) < 1) = false := decide_eq_false (by omega)
  have e1 : ¬ (s.size : Int) < 1 := by omega
  by_cases n9 : 256 < s.size
  · rw [isP_no s.size (.inr n9), if_pos rfl] at HC
    have d2 : decide ((256 : Int) < (s.size : Int)) = true := decide_eq_true (by omega)
    have e2 : (256 : Int) < (s.size : Int) := by omega
    clear n0 n9
    go_enter Tryd.func13, Tryd.ntmps13
    go_wp2_with fail
    go_ret
    exact ⟨by rw [HC.out]; rfl, rfl⟩
  have d2 : decide ((256 : Int) < (s.size : Int)) = false := decide_eq_false (by omega)
  have e2 : ¬ (256 : Int) < (s.size : Int) := by omega
  rw [isP_yes s.size (by omega) (by omega), if_neg (by decide)] at HC
  by_cases n1 : s.size = 1
  · rw [if_pos n1] at HC
    have b1 : ((s.size : Int) == 1) = true := beq_iff_eq.2 (by omega)
    clear n1 n0 n9
    go_enter Tryd.func13, Tryd.ntmps13
    go_wp2_with fail
    go_ret
    exact ⟨by rw [HC.out]; rfl, rfl⟩
  rw [if_neg n1] at HC
  have b1 : ((s.size : Int) == 1) = false := beq_eq_false_iff_ne.2 (by omega)
  clear n1 n0 n9
  cases fold with
  | true =>
    rw [if_pos rfl] at HC
    by_cases n2 : s.size ≤ 64
    · rw [if_pos n2] at HC
      have d3 : decide ((s.size : Int) ≤ 64) = true := decide_eq_true (by omega)
      have e3 : (s.size : Int) ≤ 64 := by omega
      go_enter Tryd.func13, Tryd.ntmps13
      go_wp2_with fail
      go_ret
      exact ⟨by rw [HC.out]; rfl, rfl⟩
    · rw [if_neg n2] at HC
      have d3 : decide ((s.size : Int) ≤ 64) = false := decide_eq_false (by omega)
      have e3 : ¬ (s.size : Int) ≤ 64 := by omega
      go_enter Tryd.func13, Tryd.ntmps13
      go_wp2_with fail
      go_ret
      exact ⟨by rw [HC.out]; rfl, rfl⟩
  | false =>
    rw [if_neg (by decide)] at HC
    by_cases n2 : s.size < 8
    · rw [if_pos n2] at HC
      have d3 : decide ((s.size : Int) ≤ 7) = true := decide_eq_true (by omega)
      have e3 : (s.size : Int) ≤ 7 := by omega
      go_enter Tryd.func13, Tryd.ntmps13
      go_wp2_with fail
      go_ret
      exact ⟨by rw [HC.out]; rfl, rfl⟩
    · rw [if_neg n2] at HC
      have d3 : decide ((s.size : Int) ≤ 7) = false := decide_eq_false (by omega)
      have e3 : ¬ (s.size : Int) ≤ 7 := by omega
      go_enter Tryd.func13, Tryd.ntmps13
      go_wp2_with fail
      go_ret
      exact ⟨by rw [HC.out]; rfl, rfl⟩
theorem refCompile_no (p : ByteArray) (fold : Bool) (k : Int) (w : World) (hp : p.size ≤ 1125899906842624) (h : isP p.size = false) :
    Calls Tryd.prog 11 #[.string p, .bool fold, .int .i64 k] w fun e w' => e = .returned (.tuple #[.pointer none, .int .i64 60]) ∧ w' = w := by
  have h2 : ¬ (1 ≤ p.size ∧ p.size ≤ 256) := of_decide_eq_false h
  clear h
  by_cases n0 : p.size < 1
  · have d1 : decide ((p.size : Int) < 1) = true := decide_eq_true (by omega)
    have e1 : (p.size : Int) < 1 := by omega
    clear n0 h2
    go_enter Tryd.func11, Tryd.ntmps11
    go_wp2_with fail
    go_ret2
    exact ⟨rfl, rfl⟩
  · have d1 : decide ((p.size : Int) < 1) = false := decide_eq_false (by omega)
    have e1 : ¬ (p.size : Int) < 1 := by omega
    have d2 : decide ((256 : Int) < (p.size : Int)) = true := decide_eq_true (by omega)
    have e2 : (256 : Int) < (p.size : Int) := by omega
    clear n0 h2
    go_enter Tryd.func11, Tryd.ntmps11
    go_wp2_with fail
    go_ret2
    exact ⟨rfl, rfl⟩
/-- is refused for its kernel -/
theorem bad_iff (k : Int) (n : Nat) (fold : Bool) (h : isP n = true) : suitsB (kk k n fold) n = false ↔ (k < 0 ∨ 5 < k ∨ (k = 1 ∧ n ≠ 1) ∨ (k = 2 ∧ n < 2) ∨ (k = 4 ∧ 64 < n)) := by
  have hn : 1 ≤ n ∧ n ≤ 256 := of_decide_eq_true h
  by_cases k0 : k = 0
  · subst k0
    rw [show kk 0 n fold = ((chs n fold : Nat) : Int) from rfl, suits_chs n fold h]
    constructor
    · intro e; cases e
    · intro e; omega
  · rw [show kk k n fold = k by unfold kk; rw [if_neg k0]]
    unfold suitsB
    by_cases k1 : k = 1
    · rw [if_pos k1, decide_eq_false_iff_not]; omega
    · rw [if_neg k1]
      by_cases k2 : k = 2
      · rw [if_pos k2, decide_eq_false_iff_not]; omega
      · rw [if_neg k2]
        by_cases k4 : k = 4
        · rw [if_pos k4, decide_eq_false_iff_not]; omega
        · rw [if_neg k4, decide_eq_false_iff_not]; omega
set_option maxHeartbeats 1000000 in
theorem refCompile_bad (p : ByteArray) (fold : Bool) (k : Int) (w : World) (h : isP p.size = true) (hs : suitsB (kk k p.size fold) p.size = false) :
    Calls Tryd.prog 11 #[.string p, .bool fold, .int .i64 k] w fun e w' => e = .returned (.tuple #[.pointer none, .int .i64 61]) ∧ w' = w := by
  have hn : 1 ≤ p.size ∧ p.size ≤ 256 := of_decide_eq_true h
  have d1 : decide ((p.size : Int) < 1) = false := decide_eq_false (by omega)
  have e1 : ¬ (p.size : Int) < 1 := by omega
  have d2 : decide ((256 : Int) < (p.size : Int)) = false := decide_eq_false (by omega)
  have e2 : ¬ (256 : Int) < (p.size : Int) := by omega
  rcases (bad_iff k p.size fold h).1 hs with hk | hk | ⟨rfl, hk⟩ | ⟨rfl, hk⟩ | ⟨rfl, hk⟩
  · have d3 : decide (k < 0) = true := decide_eq_true hk
    clear h hs hn
    go_enter Tryd.func11, Tryd.ntmps11
    go_wp2_with fail
    go_ret2
    exact ⟨rfl, rfl⟩
  · have d3 : decide (k < 0) = false := decide_eq_false (by omega)
    have e3 : ¬ k < 0 := by omega
    have d4 : decide (5 < k) = true := decide_eq_true hk
    clear h hs hn
    go_enter Tryd.func11, Tryd.ntmps11
    go_wp2_with fail
    go_ret2
    exact ⟨rfl, rfl⟩
  · have b3 : ((p.size : Int) != 1) = true := by rw [bne_iff_ne]; omega
    clear h hs hn hk
    go_enter Tryd.func11, Tryd.ntmps11
    go_wp2_with fail
    go_ret2
    exact ⟨rfl, rfl⟩
  · have d3 : decide ((p.size : Int) < 2) = true := decide_eq_true (by omega)
    have e3 : (p.size : Int) < 2 := by omega
    clear h hs hn hk
    go_enter Tryd.func11, Tryd.ntmps11
    go_wp2_with fail
    go_ret2
    exact ⟨rfl, rfl⟩
  · have d3 : decide ((64 : Int) < (p.size : Int)) = true := decide_eq_true (by omega)
    have e3 : (64 : Int) < (p.size : Int) := by omega
    clear h hs hn hk
    go_enter Tryd.func11, Tryd.ntmps11
    go_wp2_with fail
    go_ret2
    exact ⟨rfl, rfl⟩
set_option maxHeartbeats 2000000 in
theorem refCompile_ok (p : ByteArray) (fold : Bool) (k : Int) (w : World) (h : isP p.size = true) (hs : suitsB (kk k p.size fold) p.size = true) :
    Calls Tryd.prog 11 #[.string p, .bool fold, .int .i64 k] w fun e w' => e = .returned (.tuple #[.pointer (some ⟨w.heap.size, 0, none⟩), .int .i64 0]) ∧ w' = w.alloc (.cells #[.string p, .bool fold, .int .i64 (kk k p.size fold)] 61) := by
  have hn : 1 ≤ p.size ∧ p.size ≤ 256 := of_decide_eq_true h
  have d1 : decide ((p.size : Int) < 1) = false := decide_eq_false (by omega)
  have e1 : ¬ (p.size : Int) < 1 := by omega
  have d2 : decide ((256 : Int) < (p.size : Int)) = false := decide_eq_false (by omega)
  have e2 : ¬ (256 : Int) < (p.size : Int) := by omega
  have hb := bad_iff k p.size fold h
  rw [hs] at hb
  have hg : ¬ (k < 0 ∨ 5 < k ∨ (k = 1 ∧ p.size ≠ 1) ∨ (k = 2 ∧ p.size < 2) ∨ (k = 4 ∧ 64 < p.size)) := fun x => by have := hb.2 x; cases this
  have hk : k = 0 ∨ (k = 1 ∧ p.size = 1) ∨ (k = 2 ∧ 2 ≤ p.size) ∨ k = 3 ∨ (k = 4 ∧ p.size ≤ 64) ∨ k = 5 := by omega
  have HCH := Hid.mk' (refChoose_any p fold w (by omega))
  clear hb hg hs h
  rcases hk with rfl | ⟨rfl, hk⟩ | ⟨rfl, hk⟩ | rfl | ⟨rfl, hk⟩ | rfl
  · have hkk : ((chs p.size fold : Nat) : Int) = kk 0 p.size fold := by unfold kk; rw [if_pos rfl]
    rw [hkk] at HCH
    clear hkk hn
    generalize kk 0 p.size fold = K at *
    go_enter Tryd.func11, Tryd.ntmps11
    go_wp2_with fail
    refine HCH.out.mono ?_
    rintro e w' ⟨rfl, rfl⟩
    go_wp2_with fail
    go_ret2
    exact ⟨rfl, rfl⟩
  · have b3 : ((p.size : Int) != 1) = false := by simp; omega
    clear hn hk
    go_enter Tryd.func11, Tryd.ntmps11
    go_wp2_with fail
    go_ret2
    exact ⟨rfl, rfl⟩
  · have d3 : decide ((p.size : Int) < 2) = false := decide_eq_false (by omega)
    have e3 : ¬ (p.size : Int) < 2 := by omega
    clear hn hk
    go_enter Tryd.func11, Tryd.ntmps11
    go_wp2_with fail
    go_ret2
    exact ⟨rfl, rfl⟩
  · clear hn
    go_enter Tryd.func11, Tryd.ntmps11
    go_wp2_with fail
    go_ret2
    exact ⟨rfl, rfl⟩
  · have d3 : decide ((64 : Int) < (p.size : Int)) = false := decide_eq_false (by omega)
    have e3 : ¬ (64 : Int) < (p.size : Int) := by omega
    clear hn hk
    go_enter Tryd.func11, Tryd.ntmps11
    go_wp2_with fail
    go_ret2
    exact ⟨rfl, rfl⟩
  · clear hn
    go_enter Tryd.func11, Tryd.ntmps11
    go_wp2_with fail
    go_ret2
    exact ⟨rfl, rfl⟩
theorem refKernel_any (g : Nat) (k : Int) (w : World) (h : w.cell? ⟨g, 2, none⟩ = some (.int .i64 k)) :
    Calls Tryd.prog 15 #[.pointer (some ⟨g, 0, none⟩)] w fun e w' => e = .returned (.int .i64 k) ∧ w' = w := by
  go_enter Tryd.func15, Tryd.ntmps15
  go_wp2_with fail
  go_ret
  exact ⟨rfl, rfl⟩
end Go.Proofs.YtecoiifmeajicaaDoor
