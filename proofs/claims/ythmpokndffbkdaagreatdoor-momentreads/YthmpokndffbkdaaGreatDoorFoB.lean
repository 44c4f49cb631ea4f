/-
  The document's form: is, must; its cells written. Conditions: the form lies in a block of its own; at most four signs.
-/
import Derived.Test.YthmpokndffbkdaaGreatDoorFoA
namespace Go.Proofs.YthmpokndffbkdaaGreatDoor
open Go.RowKit
set_option linter.unusedVariables false
def isF (cs : List Nat) : List Nat → Bool
  | x :: r => cs.contains x
  | [] => false
def isL (cs : List Nat) : List Nat → List Nat
  | x :: r => if cs.contains x = true then r else x :: r
  | [] => []
theorem isF_one (c : Nat) (l : List Nat) : isF [c] l = hasF c l := by
  cases l with
  | nil => rfl
  | cons x r => simp only [isF, hasF, List.contains_cons, List.contains_nil, Bool.or_false]
theorem isL_one (c : Nat) (l : List Nat) : isL [c] l = restF c l := by
  cases l with
  | nil => rfl
  | cons x r => simp [isL, restF]
theorem isL_not {cs l : List Nat} (h : isF cs l = false) : isL cs l = l := by
  cases l with
  | nil => rfl
  | cons x r => simp only [isF] at h; simp only [isL, h, Bool.false_eq_true, if_false]
set_option maxRecDepth 100000 in
set_option maxHeartbeats 4000000 in
theorem fis_good (g : Nat) (sg S : ByteArray) (l : List Nat) (D : List Int) (z : Int) (o : Bool) (w : World) (h : Fm g S false l D z o w) (hS : S.size ≤ 4611686018427387904) (hsg : sg.size ≤ 4) :
    Calls Tryz.prog 49 #[.pointer (some ⟨g, 0, none⟩), .string sg] w fun e w' => e = .returned (.bool (isF (Sums.bl sg) l)) ∧ Fm g S false (isL (Sums.bl sg) l) D z o w' ∧ Only g w w' := by
  have HT := Hid.mk' h
  have hSI : (S.size : Int) ≤ 4611686018427387904 := by omega
  have hsgI : (sg.size : Int) ≤ 4 := by omega
  obtain ⟨p, d0, d1, d2, d3, d4, d5, d6, z', o', hp, hg, hb⟩ := h.ex
  obtain ⟨hl, hD, hz, ho⟩ := hb rfl
  have HD := Hid.mk' (And.intro hD (And.intro hz ho))
  obtain ⟨c0, c1, c2, f1, f2⟩ := FmAt.of hg
  have HG := Hid.mk' hg
  have hpI : (p : Int) ≤ (S.size : Int) := by omega
  clear hg hb hD hz ho h
  cases l with
  | nil =>
    have hpe := at_nil S p hp hl
    have t1 : S.size ≤ p := by omega
    have t2 : decide (S.size ≤ p) = true := by simp; omega
    clear hpe hp hl
    go_enter Tryz.func49, Tryz.ntmps49
    go_wp2_with fail
    go_quiet (fail)
    go_wp2_with fail
    go_ret
    exact ⟨rfl, HT.out.drewN _, (Only.refl _ _).drewN _⟩
  | cons x r =>
    have hi := at_idx S p x r hl
    obtain ⟨n1, n2, n3⟩ := at_facts S p x r hl
    have t1 : ¬ S.size ≤ p := by omega
    have t2 : decide (S.size ≤ p) = false := by simp; omega
    have hpb : (p : Int) < 4611686018427387904 := by omega
    have HP := Hid.mk' (And.intro hp (And.intro n1 n3))
    have HQ : Hid (∀ n, (w.drewN n).heap[g]? = some (.cells (fmC S p false d0 d1 d2 d3 d4 d5 d6 z' o').toArray 48 (0, 0)) ∧ Only g w (w.drewN n)) := fun n => ⟨HG.out, (Only.refl _ _).drewN n⟩
    have HLL := Hid.mk' hl
    clear hl hp n1 n3 HG
    go_enter Tryz.func49, Tryz.ntmps49
    go_wp2_with fail
    go_quiet (fail)
    have H0 := Hid.mk' (HQ.out nq)
    generalize w.drewN nq = W0 at H0 ⊢
    clear c0 c1 c2 f1 f2 HQ
    go_wp2_with fail
    go_loopw [5] (fun iv wr => ∃ i : Nat, iv = .int .i64 ((i : Nat) : Int) ∧ i ≤ sg.size ∧ Hid (x ∉ (Sums.bl sg).take i) ∧ Hid (wr.heap[g]? = some (.cells (fmC S p false d0 d1 d2 d3 d4 d5 d6 z' o').toArray 48 (0, 0)) ∧ Only g w wr)) (fun iv _ => sg.size - (intOf iv).toNat)
    case atStart => exact ⟨0, rfl, Nat.zero_le _, Hid.mk' (by simp), H0⟩
    case round =>
      obtain ⟨i, rfl, hi0, hx, hG⟩ := hrel
      obtain ⟨c0, c1, c2, f1, f2⟩ := FmAt.of hG.out.1
      have HQ : Hid (∀ n, (wr.drewN n).heap[g]? = some (.cells (fmC S p false d0 d1 d2 d3 d4 d5 d6 z' o').toArray 48 (0, 0)) ∧ Only g w (wr.drewN n)) := fun n => ⟨hG.out.1, hG.out.2.drewN n⟩
      by_cases hin : i < sg.size
      · have hinI : (i : Int) < (sg.size : Int) := by omega
        have hne : (Sums.bl sg).drop i ≠ [] := by
          intro e
          have := congrArg List.length e
          simp [Sums.bl_length] at this
          omega
        obtain ⟨y, q, hyq⟩ := List.exists_cons_of_ne_nil hne
        have hj := at_idx sg i y q hyq
        have hy : y < 256 := (at_facts sg i y q hyq).2.1
        have HY := Hid.mk' hyq
        have HIN := Hid.mk' (And.intro hin hi0)
        clear hyq hne hin hi0
        by_cases hxy : x = y
        · subst hxy
          go_wp2_with fail
          go_quiet (fail)
          have H2 := Hid.mk' (HQ.out nq)
          generalize wr.drewN nq = W2 at H2 ⊢
          clear c0 c1 c2 f1 f2 HQ
          obtain ⟨c0, c1, c2, f1, f2⟩ := FmAt.of H2.out.1
          go_wp2_with fail
          go_ret
          have hq := only_set (o := 1) W2 (.int .i64 ((p : Int) + 1)) H2.out.1
          have hc : (Sums.bl sg).contains x = true := by
            have : x ∈ (Sums.bl sg).drop i := by rw [HY.out]; simp
            simpa using List.mem_of_mem_drop this
          refine ⟨(by simp only [isF]; rw [hc]; rfl), ?_, H2.out.2.trans hq.1⟩
          simp only [isL, hc, if_true]
          exact ⟨p + 1, d0, d1, d2, d3, d4, d5, d6, z', o', by have := HP.out.2.1; omega, by simpa [fmC] using hq.2, fun _ => ⟨HP.out.2.2, HD.out.1, HD.out.2.1, HD.out.2.2⟩⟩
        · have hxyI : ((x : Int) == (y : Int)) = false := by simp; omega
          have hxyJ : ¬ (x : Int) = (y : Int) := by omega
          have hxyN : (x == y) = false := by simp; omega
          have HXY := Hid.mk' hxy
          go_wp2_with fail
          go_quiet (fail)
          have H2 := Hid.mk' (HQ.out nq)
          generalize wr.drewN nq = W2 at H2 ⊢
          clear c0 c1 c2 f1 f2 HQ
          go_wp2_with fail
          go_roundw
          case rel =>
            refine ⟨i + 1, by first | rfl | exact int_eq (by omega), HIN.out.1, Hid.mk' ?_, H2⟩
            rw [List.take_succ_eq_append_getElem (by rw [Sums.bl_length]; exact HIN.out.1)]
            intro hm
            rcases List.mem_append.1 hm with hm | hm
            · exact hx.out hm
            · have e1 : (Sums.bl sg)[i]'(by rw [Sums.bl_length]; exact HIN.out.1) = y := by
                have := congrArg (·[0]?) HY.out
                simp at this
                rw [List.getElem?_eq_getElem (by rw [Sums.bl_length]; exact HIN.out.1)] at this
                exact Option.some.inj this
              rw [e1] at hm
              exact HXY.out (by simpa using hm)
          case measure => have := HIN.out.1; simp [intOf]; omega
      · obtain rfl : i = sg.size := by omega
        have hinI : ¬ (sg.size : Int) < (sg.size : Int) := by omega
        clear hin
        go_wp2_with fail
        go_ret
        have hc : (Sums.bl sg).contains x = false := by
          have := hx.out
          rw [List.take_of_length_le (by rw [Sums.bl_length]; exact Nat.le_refl _)] at this
          simpa using this
        refine ⟨(by simp only [isF]; rw [hc]; rfl), ?_, hG.out.2⟩
        simp only [isL, hc, Bool.false_eq_true, if_false]
        exact ⟨p, d0, d1, d2, d3, d4, d5, d6, z', o', HP.out.1, hG.out.1, fun _ => ⟨HLL.out, HD.out.1, HD.out.2.1, HD.out.2.2⟩⟩
set_option maxRecDepth 100000 in
set_option maxHeartbeats 4000000 in
theorem fis_bad (g : Nat) (sg S : ByteArray) (l : List Nat) (D : List Int) (z : Int) (o : Bool) (w : World) (h : Fm g S true l D z o w) :
    Calls Tryz.prog 49 #[.pointer (some ⟨g, 0, none⟩), .string sg] w fun e w' => e = .returned (.bool false) ∧ Fm g S true l D z o w' ∧ Only g w w' := by
  have HT := Hid.mk' h
  obtain ⟨p, d0, d1, d2, d3, d4, d5, d6, z', o', hp, hg, hb⟩ := h.ex
  obtain ⟨c0, c1, c2, f1, f2⟩ := FmAt.of hg
  clear hg hb h hp
  go_enter Tryz.func49, Tryz.ntmps49
  go_wp2_with fail
  go_quiet (fail)
  go_wp2_with fail
  go_ret
  exact ⟨rfl, HT.out.drewN _, (Only.refl _ _).drewN _⟩
theorem fis_any (g : Nat) (sg S : ByteArray) (cs : List Nat) (b : Bool) (l : List Nat) (D : List Int) (z : Int) (o : Bool) (w : World) (h : Fm g S b l D z o w) (hS : S.size ≤ 4611686018427387904) (hsg : sg.size ≤ 4) (hcs : Sums.bl sg = cs) :
    Calls Tryz.prog 49 #[.pointer (some ⟨g, 0, none⟩), .string sg] w fun e w' => e = .returned (.bool (!b && isF cs l)) ∧ Fm g S b (isL cs l) D z o w' ∧ Only g w w' := by
  subst hcs
  cases b
  · refine (fis_good g sg S l D z o w h hS hsg).mono ?_
    rintro e w' ⟨rfl, h1, h2⟩
    exact ⟨rfl, h1, h2⟩
  · refine (fis_bad g sg S l D z o w h).mono ?_
    rintro e w' ⟨rfl, h1, h2⟩
    exact ⟨rfl, h1.bad, h2⟩
set_option maxHeartbeats 1000000 in
theorem fmust_any (g : Nat) (sg S : ByteArray) (cs : List Nat) (b : Bool) (l : List Nat) (D : List Int) (z : Int) (o : Bool) (w : World) (h : Fm g S b l D z o w) (hS : S.size ≤ 4611686018427387904) (hsg : sg.size ≤ 4) (hcs : Sums.bl sg = cs) :
    Calls Tryz.prog 20 #[.pointer (some ⟨g, 0, none⟩), .string sg] w fun e w' => e = .returned (.tuple #[]) ∧ Fm g S (b || !isF cs l) (isL cs l) D z o w' ∧ Only g w w' := by
  have HC := Hid.mk' (fis_any g sg S cs b l D z o w h hS hsg hcs)
  cases hq : (!b && isF cs l)
  · rw [hq] at HC
    have hbb : (b || !isF cs l) = true := by cases b <;> simp_all
    rw [hbb]
    clear hq h hbb hcs hsg hS
    go_enter Tryz.func20, Tryz.ntmps20
    go_wp2_with fail
    refine HC.out.mono ?_
    rintro e w1 ⟨rfl, h1, o1⟩
    obtain ⟨p, d0, d1, d2, d3, d4, d5, d6, z', o', hp, hg, hb⟩ := h1.ex
    obtain ⟨c0, c1, c2, f1, f2⟩ := FmAt.of hg
    have HG := Hid.mk' hg
    have HP := Hid.mk' hp
    have HO := Hid.mk' o1
    clear hg h1 hb hp o1
    go_wp2_with fail
    go_end0
    have hq := only_set (o := 2) w1 (.bool true) HG.out
    exact ⟨rfl, ⟨p, d0, d1, d2, d3, d4, d5, d6, z', o', HP.out, by simpa [fmC] using hq.2, fun e => by cases e⟩, HO.out.trans hq.1⟩
  · rw [hq] at HC
    have hbb : (b || !isF cs l) = b := by cases b <;> simp_all
    rw [hbb]
    clear hq h hbb hcs hsg hS
    go_enter Tryz.func20, Tryz.ntmps20
    go_wp2_with fail
    refine HC.out.mono ?_
    rintro e w1 ⟨rfl, h1, o1⟩
    have HH := Hid.mk' (And.intro h1 o1)
    clear h1 o1
    go_wp2_with fail
    go_end0
    exact ⟨rfl, HH.out.1, HH.out.2⟩
theorem fmust1 (g c : Nat) (sg S : ByteArray) (b : Bool) (l : List Nat) (D : List Int) (z : Int) (o : Bool) (w : World) (h : Fm g S b l D z o w) (hS : S.size ≤ 4611686018427387904) (hsg : sg.size ≤ 4) (hcs : Sums.bl sg = [c]) :
    Calls Tryz.prog 20 #[.pointer (some ⟨g, 0, none⟩), .string sg] w fun e w' => e = .returned (.tuple #[]) ∧ Fm g S (b || !hasF c l) (restF c l) D z o w' ∧ Only g w w' := by
  have := fmust_any g sg S [c] b l D z o w h hS hsg hcs
  rwa [isF_one, isL_one] at this
theorem fis1 (g c : Nat) (sg S : ByteArray) (b : Bool) (l : List Nat) (D : List Int) (z : Int) (o : Bool) (w : World) (h : Fm g S b l D z o w) (hS : S.size ≤ 4611686018427387904) (hsg : sg.size ≤ 4) (hcs : Sums.bl sg = [c]) :
    Calls Tryz.prog 49 #[.pointer (some ⟨g, 0, none⟩), .string sg] w fun e w' => e = .returned (.bool (!b && hasF c l)) ∧ Fm g S b (restF c l) D z o w' ∧ Only g w w' := by
  have := fis_any g sg S [c] b l D z o w h hS hsg hcs
  rwa [isF_one, isL_one] at this
theorem Fm.cell {g : Nat} {S : ByteArray} {b : Bool} {l : List Nat} {D : List Int} {z : Int} {o : Bool} {w : World} (h : Fm g S b l D z o w) (k : Nat) (hk : k < 12) : ∃ u, w.cell? ⟨g, k, none⟩ = some u ∧ w.frozen? ⟨g, k, none⟩ = false := by
  obtain ⟨p, d0, d1, d2, d3, d4, d5, d6, z', o', hp, hg, hb⟩ := h.ex
  refine ⟨(fmC S p b d0 d1 d2 d3 d4 d5 d6 z' o')[k]'(by simpa [fmC] using hk), ?_, ?_⟩
  · simp [World.cell?, hg, fmC, hk]
  · simp [World.frozen?, hg]
/-- a number of the date is written: what it is matters as long as the form is not bad -/
theorem Fm.set {g : Nat} {S : ByteArray} {b : Bool} {l : List Nat} {D : List Int} {z : Int} {o : Bool} {w : World} (h : Fm g S b l D z o w) (k : Nat) (hk : k < 7) (v v0 : Int) (hv : b = false → v = v0) : Fm g S b l (D.set k v0) z o (w.setCell ⟨g, 3 + k, none⟩ (.int .i64 v)) ∧ Only g w (w.setCell ⟨g, 3 + k, none⟩ (.int .i64 v)) := by
  obtain ⟨p, d0, d1, d2, d3, d4, d5, d6, z', o', hp, hg, hb⟩ := h.ex
  have hq := only_set (o := 3 + k) w (.int .i64 v) hg
  refine ⟨?_, hq.1⟩
  rcases (show k = 0 ∨ k = 1 ∨ k = 2 ∨ k = 3 ∨ k = 4 ∨ k = 5 ∨ k = 6 by omega) with rfl | rfl | rfl | rfl | rfl | rfl | rfl
  · exact ⟨p, v, d1, d2, d3, d4, d5, d6, z', o', hp, by simpa [fmC] using hq.2, fun e => ⟨(hb e).1, by rw [(hb e).2.1, hv e]; rfl, (hb e).2.2⟩⟩
  · exact ⟨p, d0, v, d2, d3, d4, d5, d6, z', o', hp, by simpa [fmC] using hq.2, fun e => ⟨(hb e).1, by rw [(hb e).2.1, hv e]; rfl, (hb e).2.2⟩⟩
  · exact ⟨p, d0, d1, v, d3, d4, d5, d6, z', o', hp, by simpa [fmC] using hq.2, fun e => ⟨(hb e).1, by rw [(hb e).2.1, hv e]; rfl, (hb e).2.2⟩⟩
  · exact ⟨p, d0, d1, d2, v, d4, d5, d6, z', o', hp, by simpa [fmC] using hq.2, fun e => ⟨(hb e).1, by rw [(hb e).2.1, hv e]; rfl, (hb e).2.2⟩⟩
  · exact ⟨p, d0, d1, d2, d3, v, d5, d6, z', o', hp, by simpa [fmC] using hq.2, fun e => ⟨(hb e).1, by rw [(hb e).2.1, hv e]; rfl, (hb e).2.2⟩⟩
  · exact ⟨p, d0, d1, d2, d3, d4, v, d6, z', o', hp, by simpa [fmC] using hq.2, fun e => ⟨(hb e).1, by rw [(hb e).2.1, hv e]; rfl, (hb e).2.2⟩⟩
  · exact ⟨p, d0, d1, d2, d3, d4, d5, v, z', o', hp, by simpa [fmC] using hq.2, fun e => ⟨(hb e).1, by rw [(hb e).2.1, hv e]; rfl, (hb e).2.2⟩⟩
theorem Fm.setZ {g : Nat} {S : ByteArray} {b : Bool} {l : List Nat} {D : List Int} {z : Int} {o : Bool} {w : World} (h : Fm g S b l D z o w) (v v0 : Int) (hv : b = false → v = v0) : Fm g S b l D v0 o (w.setCell ⟨g, 10, none⟩ (.int .i64 v)) ∧ Only g w (w.setCell ⟨g, 10, none⟩ (.int .i64 v)) := by
  obtain ⟨p, d0, d1, d2, d3, d4, d5, d6, z', o', hp, hg, hb⟩ := h.ex
  have hq := only_set (o := 10) w (.int .i64 v) hg
  exact ⟨⟨p, d0, d1, d2, d3, d4, d5, d6, v, o', hp, by simpa [fmC] using hq.2, fun e => ⟨(hb e).1, (hb e).2.1, hv e, (hb e).2.2.2⟩⟩, hq.1⟩
theorem Fm.setO {g : Nat} {S : ByteArray} {b : Bool} {l : List Nat} {D : List Int} {z : Int} {o : Bool} {w : World} (h : Fm g S b l D z o w) (v v0 : Bool) (hv : b = false → v = v0) : Fm g S b l D z v0 (w.setCell ⟨g, 11, none⟩ (.bool v)) ∧ Only g w (w.setCell ⟨g, 11, none⟩ (.bool v)) := by
  obtain ⟨p, d0, d1, d2, d3, d4, d5, d6, z', o', hp, hg, hb⟩ := h.ex
  have hq := only_set (o := 11) w (.bool v) hg
  exact ⟨⟨p, d0, d1, d2, d3, d4, d5, d6, z', v, hp, by simpa [fmC] using hq.2, fun e => ⟨(hb e).1, (hb e).2.1, (hb e).2.2.1, hv e⟩⟩, hq.1⟩
end Go.Proofs.YthmpokndffbkdaaGreatDoor
