/-
  moment.Ahead of any text. Conditions: the table of names lies as the program lays it; a text of at most 2^47 bytes.
-/
import Derived.Test.YthmpokndffbkdabDoorMoV
namespace Go.Proofs.YthmpokndffbkdabDoor
open Go.RowKit
set_option linter.unusedVariables false
def stA (y m d h mi s ms : Nat) (sg : Int) (zh zm : Nat) : Int := if Mo.stOK y m d h mi s ms sg zh zm = true then Mo.stN y m d h mi s ms sg zh zm else 0
def stC (y m d h mi s ms : Nat) (sg : Int) (zh zm : Nat) : Int := if Mo.stOK y m d h mi s ms sg zh zm = true then 0 else 120
theorem stR_AC (y m d h mi s ms : Nat) (sg : Int) (zh zm : Nat) : stR y m d h mi s ms sg zh zm = .returned (.tuple #[.int .i64 (stA y m d h mi s ms sg zh zm), .int .i64 (stC y m d h mi s ms sg zh zm)]) := by
  unfold stR stA stC
  split <;> rfl
def dtA (l : List Nat) : Int := stA (day0 l) (day1 l) (day2 l) (sec0 (dt2 l)) (sec1 (dt2 l)) (sec2 (dt2 l)) (timMs (dt2 l)) (dtS l) (dtH l) (dtM l)
def dtC (l : List Nat) : Int := stC (day0 l) (day1 l) (day2 l) (sec0 (dt2 l)) (sec1 (dt2 l)) (sec2 (dt2 l)) (timMs (dt2 l)) (dtS l) (dtH l) (dtM l)
def brA (l : List Nat) : Int := stA (numN 4 0 (b4L l)) (mnI (b2L l)) (numN 2 0 l) (sec0 (b6L l)) (sec1 (b6L l)) (sec2 (b6L l)) 0 (pmV (b8L l)) (numN 2 0 (b9L l)) (numN 2 0 (b10L l))
def brC (l : List Nat) : Int := stC (numN 4 0 (b4L l)) (mnI (b2L l)) (numN 2 0 l) (sec0 (b6L l)) (sec1 (b6L l)) (sec2 (b6L l)) 0 (pmV (b8L l)) (numN 2 0 (b9L l)) (numN 2 0 (b10L l))
def isD (l : List Nat) : Bool := decide (4 < l.length) && (l.getD 4 0 == 45)
def aA (l : List Nat) : Int := if hasF 91 l = true then brA (restF 91 l) else if isD l = true then dtA l else ((cnN l : Nat) : Int)
def aC (l : List Nat) : Int := if hasF 91 l = true then brC (restF 91 l) else if isD l = true then dtC l else 0
def aL (l : List Nat) : List Nat := if hasF 91 l = true then brL (restF 91 l) else if isD l = true then dtL l else cnL l
def aB (l : List Nat) : Bool := if hasF 91 l = true then brB (restF 91 l) else if isD l = true then dtB l else cnB l
theorem numL_le : ∀ (k : Nat) (l : List Nat), (numL k l).length ≤ l.length
  | 0, l => Nat.le_refl _
  | k + 1, [] => Nat.le_refl _
  | k + 1, x :: r => by
    rw [numL]
    split
    · have := numL_le k r; simp only [List.length_cons]; omega
    · exact Nat.le_refl _
theorem pmL_le (l : List Nat) : (pmL l).length ≤ l.length := by unfold pmL; split <;> exact restF_le _ _
theorem secL_le (l : List Nat) : (secL l).length ≤ l.length := by
  unfold secL
  have h1 := numL_le 2 (restF 58 (numL 2 (restF 58 (numL 2 l))))
  have h2 := restF_le 58 (numL 2 (restF 58 (numL 2 l)))
  have h3 := numL_le 2 (restF 58 (numL 2 l))
  have h4 := restF_le 58 (numL 2 l)
  have h5 := numL_le 2 l
  omega
theorem dayL_le (l : List Nat) : (dayL l).length ≤ l.length := by
  unfold dayL
  have h1 := numL_le 2 (restF 45 (numL 2 (restF 45 (numL 4 l))))
  have h2 := restF_le 45 (numL 2 (restF 45 (numL 4 l)))
  have h3 := numL_le 2 (restF 45 (numL 4 l))
  have h4 := restF_le 45 (numL 4 l)
  have h5 := numL_le 4 l
  omega
theorem timL_le (l : List Nat) : (timL l).length ≤ l.length := by
  unfold timL
  have h1 := secL_le l
  split
  · have h2 := numL_le 3 (restF 46 (secL l))
    have h3 := restF_le 46 (secL l)
    omega
  · exact h1
theorem zonL_le (l : List Nat) : (zonL l).length ≤ l.length := by
  unfold zonL
  split
  · exact restF_le _ _
  · have h1 := numL_le 2 (restF 58 (numL 2 (pmL l)))
    have h2 := restF_le 58 (numL 2 (pmL l))
    have h3 := numL_le 2 (pmL l)
    have h4 := pmL_le l
    omega
theorem dtL_le (l : List Nat) : (dtL l).length ≤ l.length := by
  have h0 := dayL_le l
  have h1 : (dt2 l).length ≤ l.length := by unfold dt2; split <;> exact Nat.le_trans (restF_le _ _) h0
  have h2 : (dt3 l).length ≤ l.length := Nat.le_trans (timL_le _) h1
  unfold dtL
  split
  · exact h2
  · exact Nat.le_trans (zonL_le _) h2
theorem mnL_le (l : List Nat) : (mnL l).length ≤ l.length := by unfold mnL; split; exact Nat.le_refl _; rw [List.length_drop]; omega
theorem brL_le (l : List Nat) : (brL l).length ≤ l.length := by
  have h1 : (b1L l).length ≤ l.length := numL_le _ _
  have h2 : (b2L l).length ≤ l.length := Nat.le_trans (restF_le _ _) h1
  have h3 : (b3L l).length ≤ l.length := Nat.le_trans (mnL_le _) h2
  have h4 : (b4L l).length ≤ l.length := Nat.le_trans (restF_le _ _) h3
  have h5 : (b5L l).length ≤ l.length := Nat.le_trans (numL_le _ _) h4
  have h6 : (b6L l).length ≤ l.length := Nat.le_trans (restF_le _ _) h5
  have h7 : (b7L l).length ≤ l.length := Nat.le_trans (secL_le _) h6
  have h8 : (b8L l).length ≤ l.length := Nat.le_trans (restF_le _ _) h7
  have h9 : (b9L l).length ≤ l.length := Nat.le_trans (pmL_le _) h8
  have h10 : (b10L l).length ≤ l.length := Nat.le_trans (numL_le _ _) h9
  have h11 : (b11L l).length ≤ l.length := Nat.le_trans (numL_le _ _) h10
  exact Nat.le_trans (restF_le _ _) h11
theorem cnL_le (l : List Nat) : (cnL l).length ≤ l.length := by
  unfold cnL
  have h1 := numL_le 10 l
  split
  · exact h1
  · exact Nat.le_trans (numL_le _ _) h1
theorem aL_le (l : List Nat) : (aL l).length ≤ l.length := by
  unfold aL
  split
  · exact Nat.le_trans (brL_le _) (restF_le _ _)
  · split
    · exact dtL_le l
    · exact cnL_le l
set_option maxRecDepth 100000 in
set_option maxHeartbeats 2000000 in
theorem ahead_any (g : Nat) (l : List Nat) (b : Bool) (w : World) (h : Tk g l b w) (hm : MnT w) (hg1 : g ≠ 1) (hl : l.length ≤ 1125899906842624) :
    Calls Tryd.prog 21 #[.pointer (some ⟨g, 0, none⟩)] w fun e w' => e = .returned (.tuple #[.int .i64 (aA l), .int .i64 (aC l)]) ∧ Tk g (aL l) (b || aB l) w' ∧ Only g w w' := by
  unfold aA aC aL aB
  cases h91 : hasF 91 l
  · simp only [Bool.false_eq_true, if_false]
    cases hd : isD l
    · simp only [Bool.false_eq_true, if_false]
      have HH := Hid.mk' (has_any g 91 l b w h)
      rw [restF_not h91, h91] at HH
      have HL := Hid.mk' hl
      clear h h91
      by_cases h4 : 4 < l.length
      · have hc : ¬ l.getD 4 0 = 45 := by
          intro e
          unfold isD at hd
          rw [e] at hd
          simp [h4] at hd
        clear hd
        go_enter Tryd.func21, Tryd.ntmps21
        go_wp2_with fail
        refine HH.out.mono ?_
        rintro e w1 ⟨rfl, ht, ho⟩
        have HT := Hid.mk' ht
        have HO := Hid.mk' ho
        obtain ⟨t, htl, hg⟩ := ht.ex
        have c0 : w1.cell? ⟨g, 0, none⟩ = some (.string t) := by simp [World.cell?, hg]
        have hi := get4 t l htl h4
        obtain ⟨x, hx⟩ : ∃ x, l.getD 4 0 = x := ⟨_, rfl⟩
        rw [hx] at hi hc
        have hcI : ((x : Int) == 45) = false := by simp; omega
        have hcJ : ¬ (x : Int) = 45 := by omega
        have hsz : t.size = l.length := by rw [← Sums.bl_length, htl]
        have hs4 : (4 : Int) < (t.size : Int) := by omega
        have hs4b : decide ((4 : Int) < (t.size : Int)) = true := by simp; omega
        have hsb : (t.size : Int) ≤ 1125899906842624 := by have := HL.out; omega
        clear ht ho hg htl HH hsz h4 hc hx hl
        go_wp2_with fail
        refine (counted_any g l b w1 HT.out).mono ?_
        rintro e w2 ⟨rfl, ht, ho⟩
        have HT2 := Hid.mk' ht
        have HO2 := Hid.mk' (HO.out.trans ho)
        clear ht ho HT HO
        go_wp2_with fail
        go_ret2
        exact ⟨rfl, HT2.out, HO2.out⟩
      · clear hd
        go_enter Tryd.func21, Tryd.ntmps21
        go_wp2_with fail
        refine HH.out.mono ?_
        rintro e w1 ⟨rfl, ht, ho⟩
        have HT := Hid.mk' ht
        have HO := Hid.mk' ho
        obtain ⟨t, htl, hg⟩ := ht.ex
        have c0 : w1.cell? ⟨g, 0, none⟩ = some (.string t) := by simp [World.cell?, hg]
        have hsz : t.size = l.length := by rw [← Sums.bl_length, htl]
        have hs4 : ¬ (4 : Int) < (t.size : Int) := by omega
        have hs4b : decide ((4 : Int) < (t.size : Int)) = false := by simp; omega
        have hsb : (t.size : Int) ≤ 1125899906842624 := by have := HL.out; omega
        clear ht ho hg htl HH hsz h4 hl
        go_wp2_with fail
        refine (counted_any g l b w1 HT.out).mono ?_
        rintro e w2 ⟨rfl, ht, ho⟩
        have HT2 := Hid.mk' ht
        have HO2 := Hid.mk' (HO.out.trans ho)
        clear ht ho HT HO
        go_wp2_with fail
        go_ret2
        exact ⟨rfl, HT2.out, HO2.out⟩
    · simp only [if_true]
      have hd2 : 4 < l.length ∧ l.getD 4 0 = 45 := by
        unfold isD at hd
        simpa using hd
      refine (ahead_dated g l b w h h91 hd2.1 hd2.2 hl).mono ?_
      rintro e w' ⟨rfl, h1, h2⟩
      exact ⟨stR_AC _ _ _ _ _ _ _ _ _ _, h1, h2⟩
  · simp only [if_true]
    have HH := Hid.mk' (has_any g 91 l b w h)
    rw [h91] at HH
    have HM := Hid.mk' hm
    have HG1 := Hid.mk' hg1
    have HR : Hid (brR (restF 91 l) = .returned (.tuple #[.int .i64 (brA (restF 91 l)), .int .i64 (brC (restF 91 l))])) := stR_AC _ _ _ _ _ _ _ _ _ _
    clear h h91 hm hg1 hl
    go_enter Tryd.func21, Tryd.ntmps21
    go_wp2_with fail
    refine HH.out.mono ?_
    rintro e w1 ⟨rfl, ht, ho⟩
    have HT := Hid.mk' ht
    have HO := Hid.mk' ho
    have HM1 := Hid.mk' (HM.out.only ho HG1.out)
    clear ht ho HH HM
    go_wp2_with fail
    refine (bracket_any g _ b w1 HT.out HM1.out HG1.out).mono ?_
    rintro e w2 ⟨he, ht, ho⟩
    rw [HR.out] at he
    subst he
    have HT2 := Hid.mk' ht
    have HO2 := Hid.mk' (HO.out.trans ho)
    clear ht ho HT HO HM1
    go_wp2_with fail
    go_ret2
    exact ⟨rfl, HT2.out, HO2.out⟩
set_option maxRecDepth 100000 in
set_option maxHeartbeats 2000000 in
theorem ahead_over2 (s : ByteArray) (w : World) (hm : MnT w) (a c : Int) (B : Bool) (L : List Nat) (hL : L.length ≤ 140737488355328)
    (hyp : ∀ g w, Tk g (Sums.bl s) false w → MnT w → g ≠ 1 → Calls Tryd.prog 21 #[.pointer (some ⟨g, 0, none⟩)] w fun e w' => e = .returned (.tuple #[.int .i64 a, .int .i64 c]) ∧ Tk g L B w' ∧ Only g w w') :
    Calls Tryd.prog 12 #[.string s] w fun e w' => e = ahR a c B L ∧ Below w.heap.size w w' := by
  have HY := Hid.mk' hyp
  have hm1 := hm.lt
  have HMT : Hid (MnT (w.alloc (.cells #[.string s, .bool false] 49))) := hm.below ((Below.refl w.heap.size w).alloc (Nat.le_refl _) _) hm1
  have HG1 : Hid (w.heap.size ≠ 1) := Hid.mk' (by omega)
  clear hm hm1
  have HL := Hid.mk' hL
  have HB0 : Hid (∀ o, Below w.heap.size w (w.alloc o)) := fun o => (Below.refl w.heap.size w).alloc (Nat.le_refl _) o
  have HTN := Hid.mk' (tk_new w s)
  clear hyp hL
  unfold ahR
  have hcc : ∃ z, (c == 0) = z := ⟨_, rfl⟩
  obtain ⟨z, hz⟩ := hcc
  obtain ⟨E, hE⟩ : ∃ E, endF L = E := ⟨_, rfl⟩
  have HE := Hid.mk' hE
  have hzn : (c != 0) = !z := by rw [← hz]; rfl
  rw [hz, hE]
  clear hz hE
  cases B
  · cases z
    · simp only [Bool.false_or, Bool.not_false, Bool.true_or, if_true]
      simp only [Bool.not_false] at hzn
      go_enter Tryd.func12, Tryd.ntmps12
      go_wp2_with fail
      have B0 := Hid.mk' (HB0.out (.cells #[.string s, .bool false] 49))
      generalize (w.alloc _) = w0 at *
      refine (HY.out _ _ HTN.out HMT.out HG1.out).mono ?_
      rintro e w1 ⟨rfl, ht, ho⟩
      obtain ⟨t, htl, hg⟩ := ht.ex
      have c1 : w1.cell? ⟨w.heap.size, 1, none⟩ = some (.bool false) := by simp [World.cell?, hg]
      have B1 := Hid.mk' (B0.out.trans (ho.below (Nat.le_refl _) B0.out.size))
      have HT := Hid.mk' ht
      clear ht ho htl hg
      go_wp2_with fail
      go_ret3
      exact ⟨rfl, B1.out⟩
    · simp only [Bool.false_or, Bool.not_true]
      simp only [Bool.not_true] at hzn
      cases E
      · simp only [Bool.not_false, if_true]
        go_enter Tryd.func12, Tryd.ntmps12
        go_wp2_with fail
        have B0 := Hid.mk' (HB0.out (.cells #[.string s, .bool false] 49))
        generalize (w.alloc _) = w0 at *
        refine (HY.out _ _ HTN.out HMT.out HG1.out).mono ?_
        rintro e w1 ⟨rfl, ht, ho⟩
        obtain ⟨t, htl, hg⟩ := ht.ex
        have c1 : w1.cell? ⟨w.heap.size, 1, none⟩ = some (.bool false) := by simp [World.cell?, hg]
        have B1 := Hid.mk' (B0.out.trans (ho.below (Nat.le_refl _) B0.out.size))
        have HT := Hid.mk' ht
        clear ht ho htl hg
        go_wp2_with fail
        refine (ended_any _ _ _ _ HT.out).mono ?_
        rintro e w2 ⟨rfl, hw⟩
        have hw2 := hw.symm
        subst hw2
        rw [HE.out]
        clear hw
        go_wp2_with fail
        go_ret3
        exact ⟨rfl, B1.out⟩
      · simp only [Bool.not_true, Bool.false_eq_true, if_false]
        go_enter Tryd.func12, Tryd.ntmps12
        go_wp2_with fail
        have B0 := Hid.mk' (HB0.out (.cells #[.string s, .bool false] 49))
        generalize (w.alloc _) = w0 at *
        refine (HY.out _ _ HTN.out HMT.out HG1.out).mono ?_
        rintro e w1 ⟨rfl, ht, ho⟩
        obtain ⟨t, htl, hg⟩ := ht.ex
        have c1 : w1.cell? ⟨w.heap.size, 1, none⟩ = some (.bool false) := by simp [World.cell?, hg]
        have B1 := Hid.mk' (B0.out.trans (ho.below (Nat.le_refl _) B0.out.size))
        have HT := Hid.mk' ht
        clear ht ho htl hg
        go_wp2_with fail
        refine (ended_any _ _ _ _ HT.out).mono ?_
        rintro e w2 ⟨rfl, hw⟩
        have hw2 := hw.symm
        subst hw2
        rw [HE.out]
        clear hw
        go_wp2_with fail
        refine (has_any _ 32 _ _ _ HT.out).mono ?_
        rintro e w3 ⟨rfl, ht, ho⟩
        obtain ⟨t3, ht3, hg3⟩ := ht.ex
        have c3 : w3.cell? ⟨w.heap.size, 0, none⟩ = some (.string t3) := by simp [World.cell?, hg3]
        have B3 := Hid.mk' (B1.out.trans (ho.below (Nat.le_refl _) B1.out.size))
        have hn3 : nums (restF 32 L) = t3 := by rw [← ht3]; exact nums_bl t3
        have hs3 : t3.size ≤ 281474976710656 := by
          rw [← Sums.bl_length, ht3]
          have := restF_le 32 L
          have := HL.out
          omega
        have HN3 := Hid.mk' (And.intro hn3 hs3)
        clear ht ho hg3 ht3 hn3 hs3
        go_wp2_with fail
        refine (clone_any t3 _ HN3.out.2).mono ?_
        rintro e w4 ⟨rfl, hb⟩
        have B4 := Hid.mk' (B3.out.trans (hb.mono B3.out.size))
        clear hb
        go_wp2_with fail
        go_ret3
        exact ⟨by rw [HN3.out.1]; rfl, B4.out⟩
  · simp only [Bool.true_or, if_true]
    go_enter Tryd.func12, Tryd.ntmps12
    go_wp2_with fail
    have B0 := Hid.mk' (HB0.out (.cells #[.string s, .bool false] 49))
    generalize (w.alloc _) = w0 at *
    refine (HY.out _ _ HTN.out HMT.out HG1.out).mono ?_
    rintro e w1 ⟨rfl, ht, ho⟩
    obtain ⟨t, htl, hg⟩ := ht.ex
    have c1 : w1.cell? ⟨w.heap.size, 1, none⟩ = some (.bool true) := by simp [World.cell?, hg]
    have B1 := Hid.mk' (B0.out.trans (ho.below (Nat.le_refl _) B0.out.size))
    have HT := Hid.mk' ht
    clear ht ho htl hg
    go_wp2_with fail
    go_ret3
    exact ⟨rfl, B1.out⟩
def aheadR (l : List Nat) : Ending := ahR (aA l) (aC l) (aB l) (aL l)
theorem aheadT (s : ByteArray) (w : World) (hm : MnT w) (hs : s.size ≤ 140737488355328) :
    Calls Tryd.prog 12 #[.string s] w fun e w' => e = aheadR (Sums.bl s) ∧ Below w.heap.size w w' := by
  have hl : (Sums.bl s).length ≤ 140737488355328 := by rw [Sums.bl_length]; exact hs
  exact ahead_over2 s w hm _ _ _ _ (Nat.le_trans (aL_le _) hl) (fun g w h hm hg => by
    have := ahead_any g (Sums.bl s) false w h hm hg (by omega)
    simpa using this)
end Go.Proofs.YthmpokndffbkdabDoor
