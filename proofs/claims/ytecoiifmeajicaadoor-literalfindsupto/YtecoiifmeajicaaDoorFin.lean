/-
  What Choose, Compile and Find do. Conditions: as each says.
-/
import Derived.Test.YtecoiifmeajicaaDoorWidL
import Derived.Test.YtecoiifmeajicaaDoorHorL
namespace Go.Proofs.YtecoiifmeajicaaDoor
open Go.RowKit
set_option linter.unusedVariables false
def isP (n : Nat) : Bool := decide (1 ≤ n ∧ n ≤ 256)
def chs (n : Nat) (fold : Bool) : Nat := if isP n = false then 0 else if n = 1 then 1 else if fold = true then (if n ≤ 64 then 4 else 5) else if n < 8 then 2 else 3
def suitsB (k : Int) (n : Nat) : Bool := if k = 1 then decide (n = 1) else if k = 2 then decide (2 ≤ n) else if k = 4 then decide (n ≤ 64) else decide (k = 3 ∨ k = 5)
theorem isP_yes (n : Nat) (h1 : 1 ≤ n) (h2 : n ≤ 256) : isP n = true := decide_eq_true ⟨h1, h2⟩
theorem isP_no (n : Nat) (h : n < 1 ∨ 256 < n) : isP n = false := decide_eq_false (by omega)
theorem isPattern_any (s : ByteArray) (w : World) (hs : s.size ≤ 1125899906842624) :
    Calls Tryd.prog 30 #[.string s] w fun e w' => e = .returned (.bool (isP s.size)) ∧ w' = w := by
  by_cases h1 : 1 ≤ s.size
  · have d1 : decide ((1 : Int) ≤ (s.size : Int)) = true := decide_eq_true (by omega)
    have e1 : (1 : Int) ≤ (s.size : Int) := by omega
    by_cases h2 : s.size ≤ 256
    · have d2 : decide ((s.size : Int) ≤ 256) = true := decide_eq_true (by omega)
      have e2 : (s.size : Int) ≤ 256 := by omega
      have HP := Hid.mk' (isP_yes _ h1 h2)
      clear h1 h2
      go_enter Tryd.func30, Tryd.ntmps30
      go_wp2_with fail
      go_ret
      exact ⟨by rw [HP.out]; rfl, rfl⟩
    · have d2 : decide ((s.size : Int) ≤ 256) = false := decide_eq_false (by omega)
      have e2 : ¬ (s.size : Int) ≤ 256 := by omega
      have HP := Hid.mk' (isP_no s.size (by omega))
      clear h1 h2
      go_enter Tryd.func30, Tryd.ntmps30
      go_wp2_with fail
      go_ret
      exact ⟨by rw [HP.out]; rfl, rfl⟩
  · have d1 : decide ((1 : Int) ≤ (s.size : Int)) = false := decide_eq_false (by omega)
    have e1 : ¬ (1 : Int) ≤ (s.size : Int) := by omega
    have HP := Hid.mk' (isP_no s.size (by omega))
    clear h1
    go_enter Tryd.func30, Tryd.ntmps30
    go_wp2_with fail
    go_ret
    exact ⟨by rw [HP.out]; rfl, rfl⟩
theorem suits_any (k : Int) (n : Nat) (w : World) (hn : n ≤ 1125899906842624) :
    Calls Tryd.prog 31 #[.int .i64 k, .int .i64 (n : Int)] w fun e w' => e = .returned (.bool (suitsB k n)) ∧ w' = w := by
  by_cases k1 : k = 1
  · subst k1
    go_enter Tryd.func31, Tryd.ntmps31
    go_wp2_with fail
    go_ret
    refine ⟨?_, rfl⟩
    show Ending.returned (Value.bool _) = _
    congr 2
    unfold suitsB
    rw [if_pos rfl, Bool.eq_iff_iff]
    simp
    omega
  · have b1 : (k == 1) = false := beq_eq_false_iff_ne.2 k1
    by_cases k2 : k = 2
    · subst k2
      go_enter Tryd.func31, Tryd.ntmps31
      go_wp2_with fail
      go_ret
      refine ⟨?_, rfl⟩
      show Ending.returned (Value.bool _) = _
      congr 2
      unfold suitsB
      rw [if_neg (by omega), if_pos rfl, Bool.eq_iff_iff]
      simp
      omega
    · have b2 : (k == 2) = false := beq_eq_false_iff_ne.2 k2
      by_cases k4 : k = 4
      · subst k4
        go_enter Tryd.func31, Tryd.ntmps31
        go_wp2_with fail
        go_ret
        refine ⟨?_, rfl⟩
        show Ending.returned (Value.bool _) = _
        congr 2
        unfold suitsB
        rw [if_neg (by omega), if_neg (by omega), if_pos rfl, Bool.eq_iff_iff]
        simp
        omega
      · have b4 : (k == 4) = false := beq_eq_false_iff_ne.2 k4
        have HV : Hid (suitsB k n = decide (k = 3 ∨ k = 5)) := by show _ = _; unfold suitsB; rw [if_neg k1, if_neg k2, if_neg k4]
        by_cases k3 : k = 3
        · subst k3
          clear k1 k2 k4
          go_enter Tryd.func31, Tryd.ntmps31
          go_wp2_with fail
          go_ret
          exact ⟨by rw [HV.out]; rfl, rfl⟩
        · have b3 : (k == 3) = false := beq_eq_false_iff_ne.2 k3
          by_cases k5 : k = 5
          · subst k5
            clear k1 k2 k3 k4
            go_enter Tryd.func31, Tryd.ntmps31
            go_wp2_with fail
            go_ret
            exact ⟨by rw [HV.out]; rfl, rfl⟩
          · have b5 : (k == 5) = false := beq_eq_false_iff_ne.2 k5
            have HV2 : Hid (suitsB k n = false) := by show _ = _; rw [HV.out]; exact decide_eq_false (by omega)
            clear k1 k2 k3 k4 k5
            go_enter Tryd.func31, Tryd.ntmps31
            go_wp2_with fail
            go_ret
            exact ⟨by rw [HV2.out]; rfl, rfl⟩
theorem choose_any (s : ByteArray) (fold : Bool) (w : World) (hs : s.size ≤ 1125899906842624) :
    Calls Tryd.prog 12 #[.string s, .bool fold] w fun e w' => e = .returned (.int .i64 ((chs s.size fold : Nat) : Int)) ∧ w' = w := by
  have HP := isPattern_any s w hs
  have HPH := Hid.mk' HP
  clear HP
  have HC : Hid (chs s.size fold = if isP s.size = false then 0 else if s.size = 1 then 1 else if fold = true then (if s.size ≤ 64 then 4 else 5) else if s.size < 8 then 2 else 3) := rfl
  cases hp : isP s.size with
  | false =>
    rw [hp] at HPH HC
    rw [if_pos rfl] at HC
    clear hp
    go_enter Tryd.func12, Tryd.ntmps12
    go_wp2_with (go_at_call 30; refine HPH.out.mono ?_; rintro e w' ⟨rfl, rfl⟩)
    go_ret
    exact ⟨by rw [HC.out]; rfl, rfl⟩
  | true =>
    rw [hp] at HPH HC
    rw [if_neg (by decide)] at HC
    clear hp
    by_cases n1 : s.size = 1
    · rw [if_pos n1] at HC
      have b1 : ((s.size : Int) == 1) = true := beq_iff_eq.2 (by omega)
      clear n1
      go_enter Tryd.func12, Tryd.ntmps12
      go_wp2_with (go_at_call 30; refine HPH.out.mono ?_; rintro e w' ⟨rfl, rfl⟩)
      go_ret
      exact ⟨by rw [HC.out]; rfl, rfl⟩
    · rw [if_neg n1] at HC
      have b1 : ((s.size : Int) == 1) = false := beq_eq_false_iff_ne.2 (by omega)
      clear n1
      cases fold with
      | true =>
        rw [if_pos rfl] at HC
        by_cases n2 : s.size ≤ 64
        · rw [if_pos n2] at HC
          have d2 : decide ((s.size : Int) ≤ 64) = true := decide_eq_true (by omega)
          have e2 : (s.size : Int) ≤ 64 := by omega
          go_enter Tryd.func12, Tryd.ntmps12
          go_wp2_with (go_at_call 30; refine HPH.out.mono ?_; rintro e w' ⟨rfl, rfl⟩)
          go_ret
          exact ⟨by rw [HC.out]; rfl, rfl⟩
        · rw [if_neg n2] at HC
          have d2 : decide ((s.size : Int) ≤ 64) = false := decide_eq_false (by omega)
          have e2 : ¬ (s.size : Int) ≤ 64 := by omega
          go_enter Tryd.func12, Tryd.ntmps12
          go_wp2_with (go_at_call 30; refine HPH.out.mono ?_; rintro e w' ⟨rfl, rfl⟩)
          go_ret
          exact ⟨by rw [HC.out]; rfl, rfl⟩
      | false =>
        rw [if_neg (by decide)] at HC
        by_cases n2 : s.size < 8
        · rw [if_pos n2] at HC
          have d2 : decide ((s.size : Int) < 8) = true := decide_eq_true (by omega)
          have e2 : (s.size : Int) < 8 := by omega
          go_enter Tryd.func12, Tryd.ntmps12
          go_wp2_with (go_at_call 30; refine HPH.out.mono ?_; rintro e w' ⟨rfl, rfl⟩)
          go_ret
          exact ⟨by rw [HC.out]; rfl, rfl⟩
        · rw [if_neg n2] at HC
          have d2 : decide ((s.size : Int) < 8) = false := decide_eq_false (by omega)
          have e2 : ¬ (s.size : Int) < 8 := by omega
          go_enter Tryd.func12, Tryd.ntmps12
          go_wp2_with (go_at_call 30; refine HPH.out.mono ?_; rintro e w' ⟨rfl, rfl⟩)
          go_ret
          exact ⟨by rw [HC.out]; rfl, rfl⟩
end Go.Proofs.YtecoiifmeajicaaDoor
