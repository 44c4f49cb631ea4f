/-
  moment.Ahead, over what its taker tells. Conditions: as each says.
-/
import Derived.Test.YthmpokndffbkdaaDoorMoR
import Derived.Test.YthmpokndffbkdaaDoorCloneS
namespace Go.Proofs.YthmpokndffbkdaaDoor
open Go.RowKit
set_option linter.unusedVariables false
def ahR (a c : Int) (B : Bool) (L : List Nat) : Ending := if (B || !(c == 0) || !endF L) = true then .returned (.tuple #[.int .i64 0, .string ByteArray.empty, .bool false]) else .returned (.tuple #[.int .i64 a, .string (nums (restF 32 L)), .bool true])
theorem get4 (t : ByteArray) (l : List Nat) (h : Sums.bl t = l) (h4 : 4 < l.length) (W : World) : (Instr.index 9 (.string t) (.int .i64 4)).run Tryd.prog W = .ok (.int .u8 ((l.getD 4 0 : Nat) : Int)) W := by
  have hs : 4 < t.size := by rw [← Sums.bl_length, h]; exact h4
  have hg := Sums.bl_get t 4 hs
  rw [h] at hg
  rw [run_index_string W 9 _ .i64 4 Tryd.underlying9, dif_pos ⟨by omega, by omega⟩]
  rw [hg]; rfl
set_option maxRecDepth 100000 in
set_option maxHeartbeats 2000000 in
theorem ahead_dated (g : Nat) (l : List Nat) (b : Bool) (w : World) (h : Tk g l b w) (h91 : hasF 91 l = false) (h4 : 4 < l.length) (hc : l.getD 4 0 = 45) (hl : l.length ≤ 1125899906842624) :
    Calls Tryd.prog 53 #[.pointer (some ⟨g, 0, none⟩)] w fun e w' => e = dtR l ∧ Tk g (dtL l) (b || dtB l) w' ∧ Only g w w' := by
  have HH := Hid.mk' (has_any g 91 l b w h)
  rw [restF_not h91, h91] at HH
  have HDR := Hid.mk' (stR_tup (day0 l) (day1 l) (day2 l) (sec0 (dt2 l)) (sec1 (dt2 l)) (sec2 (dt2 l)) (timMs (dt2 l)) (dtS l) (dtH l) (dtM l))
  clear h h91
  go_enter Tryd.func53, Tryd.ntmps53
  go_wp2_with fail
  refine HH.out.mono ?_
  rintro e w1 ⟨rfl, ht, ho⟩
  have HT := Hid.mk' ht
  have HO := Hid.mk' ho
  obtain ⟨t, htl, hg⟩ := ht.ex
  have c0 : w1.cell? ⟨g, 0, none⟩ = some (.string t) := by simp [World.cell?, hg]
  have hi := get4 t l htl h4
  rw [hc] at hi
  have hsz : t.size = l.length := by rw [← Sums.bl_length, htl]
  have hs4 : (4 : Int) < (t.size : Int) := by omega
  have hs4b : decide ((4 : Int) < (t.size : Int)) = true := by simp; omega
  have hsb : (t.size : Int) ≤ 1125899906842624 := by omega
  clear ht ho hg htl HH hsz h4 hc hl
  go_wp2_with fail
  refine (dat_any g l b w1 HT.out).mono ?_
  rintro e w2 ⟨he, ht, ho⟩
  have HT2 := Hid.mk' ht
  have HO2 := Hid.mk' (HO.out.trans ho)
  obtain ⟨a, c, hac⟩ := HDR.out
  have HAC : Hid (dtR l = .returned (.tuple #[.int .i64 a, .int .i64 c])) := hac
  rw [show dtR l = .returned (.tuple #[.int .i64 a, .int .i64 c]) from hac] at he
  subst he
  clear ht ho hac HT HO HDR
  go_wp2_with fail
  go_ret2
  exact ⟨HAC.out.symm, HT2.out, HO2.out⟩
theorem restF_le (c : Nat) (l : List Nat) : (restF c l).length ≤ l.length := by
  cases l with
  | nil => exact Nat.le_refl _
  | cons x r => simp only [restF]; split <;> simp
theorem tk_new (w : World) (s : ByteArray) : Tk w.heap.size (Sums.bl s) false (w.alloc (.cells #[.string s, .bool false] 72)) := ⟨s, rfl, heap_alloc_new w _⟩
set_option maxRecDepth 100000 in
set_option maxHeartbeats 2000000 in
theorem ahead_over (s : ByteArray) (w : World) (a c : Int) (B : Bool) (L : List Nat) (hL : L.length ≤ 140737488355328)
    (hyp : ∀ g w, Tk g (Sums.bl s) false w → Calls Tryd.prog 53 #[.pointer (some ⟨g, 0, none⟩)] w fun e w' => e = .returned (.tuple #[.int .i64 a, .int .i64 c]) ∧ Tk g L B w' ∧ Only g w w') :
    Calls Tryd.prog 26 #[.string s] w fun e w' => e = ahR a c B L ∧ Below w.heap.size w w' := by
  have HY := Hid.mk' hyp
  have HL := Hid.mk' hL
  have HB0 : Hid (∀ o, Below w.heap.size w (w.alloc o)) := fun o => (Below.refl w.heap.size w).alloc (Nat.le_refl _) o
  have HTN := Hid.mk' (tk_new w s)
  clear hyp hL
  unfold ahR
  have hcc : ∃ z, (c == 0) = z := ⟨_, rfl⟩
  obtain ⟨z, hz⟩ := hcc
  obtain ⟨E, hE⟩ : ∃ E, endF L = E := ⟨_, rfl⟩
  have HE := Hid.mk' hE
  have hzn : (c != 0) = !z := by rw [← hz]; rfl
  rw [hz, hE]
  clear hz hE
  cases B
  · cases z
    · simp only [Bool.false_or, Bool.not_false, Bool.true_or, if_true]
      simp only [Bool.not_false] at hzn
      go_enter Tryd.func26, Tryd.ntmps26
      go_wp2_with fail
      have B0 := Hid.mk' (HB0.out (.cells #[.string s, .bool false] 72))
      generalize (w.alloc _) = w0 at *
      refine (HY.out _ _ HTN.out).mono ?_
      rintro e w1 ⟨rfl, ht, ho⟩
      obtain ⟨t, htl, hg⟩ := ht.ex
      have c1 : w1.cell? ⟨w.heap.size, 1, none⟩ = some (.bool false) := by simp [World.cell?, hg]
      have B1 := Hid.mk' (B0.out.trans (ho.below (Nat.le_refl _) B0.out.size))
      have HT := Hid.mk' ht
      clear ht ho htl hg
      go_wp2_with fail
      go_ret3
      exact ⟨rfl, B1.out⟩
    · simp only [Bool.false_or, Bool.not_true]
      simp only [Bool.not_true] at hzn
      cases E
      · simp only [Bool.not_false, if_true]
        go_enter Tryd.func26, Tryd.ntmps26
        go_wp2_with fail
        have B0 := Hid.mk' (HB0.out (.cells #[.string s, .bool false] 72))
        generalize (w.alloc _) = w0 at *
        refine (HY.out _ _ HTN.out).mono ?_
        rintro e w1 ⟨rfl, ht, ho⟩
        obtain ⟨t, htl, hg⟩ := ht.ex
        have c1 : w1.cell? ⟨w.heap.size, 1, none⟩ = some (.bool false) := by simp [World.cell?, hg]
        have B1 := Hid.mk' (B0.out.trans (ho.below (Nat.le_refl _) B0.out.size))
        have HT := Hid.mk' ht
        clear ht ho htl hg
        go_wp2_with fail
        refine (ended_any _ _ _ _ HT.out).mono ?_
        rintro e w2 ⟨rfl, hw⟩
        have hw2 := hw.symm
        subst hw2
        rw [HE.out]
        clear hw
        go_wp2_with fail
        go_ret3
        exact ⟨rfl, B1.out⟩
      · simp only [Bool.not_true, Bool.false_eq_true, if_false]
        go_enter Tryd.func26, Tryd.ntmps26
        go_wp2_with fail
        have B0 := Hid.mk' (HB0.out (.cells #[.string s, .bool false] 72))
        generalize (w.alloc _) = w0 at *
        refine (HY.out _ _ HTN.out).mono ?_
        rintro e w1 ⟨rfl, ht, ho⟩
        obtain ⟨t, htl, hg⟩ := ht.ex
        have c1 : w1.cell? ⟨w.heap.size, 1, none⟩ = some (.bool false) := by simp [World.cell?, hg]
        have B1 := Hid.mk' (B0.out.trans (ho.below (Nat.le_refl _) B0.out.size))
        have HT := Hid.mk' ht
        clear ht ho htl hg
        go_wp2_with fail
        refine (ended_any _ _ _ _ HT.out).mono ?_
        rintro e w2 ⟨rfl, hw⟩
        have hw2 := hw.symm
        subst hw2
        rw [HE.out]
        clear hw
        go_wp2_with fail
        refine (has_any _ 32 _ _ _ HT.out).mono ?_
        rintro e w3 ⟨rfl, ht, ho⟩
        obtain ⟨t3, ht3, hg3⟩ := ht.ex
        have c3 : w3.cell? ⟨w.heap.size, 0, none⟩ = some (.string t3) := by simp [World.cell?, hg3]
        have B3 := Hid.mk' (B1.out.trans (ho.below (Nat.le_refl _) B1.out.size))
        have hn3 : nums (restF 32 L) = t3 := by rw [← ht3]; exact nums_bl t3
        have hs3 : t3.size ≤ 281474976710656 := by
          rw [← Sums.bl_length, ht3]
          have := restF_le 32 L
          have := HL.out
          omega
        have HN3 := Hid.mk' (And.intro hn3 hs3)
        clear ht ho hg3 ht3 hn3 hs3
        go_wp2_with fail
        refine (clone_any t3 _ HN3.out.2).mono ?_
        rintro e w4 ⟨rfl, hb⟩
        have B4 := Hid.mk' (B3.out.trans (hb.mono B3.out.size))
        clear hb
        go_wp2_with fail
        go_ret3
        exact ⟨by rw [HN3.out.1]; rfl, B4.out⟩
  · simp only [Bool.true_or, if_true]
    go_enter Tryd.func26, Tryd.ntmps26
    go_wp2_with fail
    have B0 := Hid.mk' (HB0.out (.cells #[.string s, .bool false] 72))
    generalize (w.alloc _) = w0 at *
    refine (HY.out _ _ HTN.out).mono ?_
    rintro e w1 ⟨rfl, ht, ho⟩
    obtain ⟨t, htl, hg⟩ := ht.ex
    have c1 : w1.cell? ⟨w.heap.size, 1, none⟩ = some (.bool true) := by simp [World.cell?, hg]
    have B1 := Hid.mk' (B0.out.trans (ho.below (Nat.le_refl _) B0.out.size))
    have HT := Hid.mk' ht
    clear ht ho htl hg
    go_wp2_with fail
    go_ret3
    exact ⟨rfl, B1.out⟩
end Go.Proofs.YthmpokndffbkdaaDoor
