/-
  The document's form: what comes of it, what follows; Read. Conditions: as each says.
-/
import Derived.Test.YthmpokndffbkdaaGreatDoorFoE
import Derived.Test.YthmpokndffbkdaaGreatDoorRdC
namespace Go.Proofs.YthmpokndffbkdaaGreatDoor
open Go.RowKit
set_option linter.unusedVariables false
theorem Fm.below {g B : Nat} {S : ByteArray} {b : Bool} {l : List Nat} {D : List Int} {z : Int} {o : Bool} {w w' : World} (h : Fm g S b l D z o w) (x : Below B w w') (hB : g < B) : Fm g S b l D z o w' := by
  obtain ⟨p, d0, d1, d2, d3, d4, d5, d6, z', o', hp, hg, hb⟩ := h.ex
  exact ⟨p, d0, d1, d2, d3, d4, d5, d6, z', o', hp, (x.block g hB).trans hg, hb⟩
/-- the cells of a form that is not bad -/
structure FmD (g : Nat) (d0 d1 d2 d3 d4 d5 d6 z : Int) (o : Bool) (w : World) : Prop where
  c3 : w.cell? ⟨g, 3, none⟩ = some (.int .i64 d0)
  c4 : w.cell? ⟨g, 4, none⟩ = some (.int .i64 d1)
  c5 : w.cell? ⟨g, 5, none⟩ = some (.int .i64 d2)
  c6 : w.cell? ⟨g, 6, none⟩ = some (.int .i64 d3)
  c7 : w.cell? ⟨g, 7, none⟩ = some (.int .i64 d4)
  c8 : w.cell? ⟨g, 8, none⟩ = some (.int .i64 d5)
  c9 : w.cell? ⟨g, 9, none⟩ = some (.int .i64 d6)
  c10 : w.cell? ⟨g, 10, none⟩ = some (.int .i64 z)
  c11 : w.cell? ⟨g, 11, none⟩ = some (.bool o)
theorem FmD.of {g : Nat} {S : ByteArray} {l : List Nat} {d0 d1 d2 d3 d4 d5 d6 z : Int} {o : Bool} {w : World} (h : Fm g S false l [d0, d1, d2, d3, d4, d5, d6] z o w) : FmD g d0 d1 d2 d3 d4 d5 d6 z o w := by
  obtain ⟨p, e0, e1, e2, e3, e4, e5, e6, z', o', hp, hg, hb⟩ := h.ex
  obtain ⟨_, hD, rfl, rfl⟩ := hb rfl
  simp only [List.cons.injEq, and_true] at hD
  obtain ⟨rfl, rfl, rfl, rfl, rfl, rfl, rfl⟩ := hD
  exact ⟨by simp [World.cell?, hg, fmC], by simp [World.cell?, hg, fmC], by simp [World.cell?, hg, fmC], by simp [World.cell?, hg, fmC], by simp [World.cell?, hg, fmC], by simp [World.cell?, hg, fmC], by simp [World.cell?, hg, fmC], by simp [World.cell?, hg, fmC], by simp [World.cell?, hg, fmC]⟩
set_option maxRecDepth 100000 in
set_option maxHeartbeats 4000000 in
theorem fstamp_any (g : Nat) (S : ByteArray) (l : List Nat) (y m d h mi s ms : Nat) (sg : Int) (zh zm : Nat) (w : World) (hf : Fm g S false l [(y : Int), (m : Int), (d : Int), (h : Int), (mi : Int), (s : Int), (ms : Int)] (sg * (60 * (zh : Int) + (zm : Int))) (oddB zh zm) w) (hs : sg = 0 ∨ sg = 1 ∨ sg = -1) (hh : zh ≤ 99) (hm : zm ≤ 99) :
    Calls Tryz.prog 23 #[.pointer (some ⟨g, 0, none⟩)] w fun e w' => (∃ v : Int, e = .returned (.tuple #[.int .i64 v, .bool (Mo.stOK y m d h mi s ms sg zh zm)]) ∧ (Mo.stOK y m d h mi s ms sg zh zm = true → v = Mo.stN y m d h mi s ms sg zh zm)) ∧ Below w.heap.size w w' := by
  have HF := Hid.mk' hf
  have hlt := hf.lt
  obtain ⟨c3, c4, c5, c6, c7, c8, c9, c10, c11⟩ := FmD.of hf
  clear hf
  cases hok : Mo.ok y m d h mi s ms
  · have hno : Mo.stOK y m d h mi s ms sg zh zm = false := by unfold Mo.stOK; rw [hok]; rfl
    rw [hno]
    have HO := Hid.mk' (fun w => rOf_bad (y : Int) (m : Int) (d : Int) (h : Int) (mi : Int) (s : Int) (ms : Int) w hok)
    clear hno hok
    unfold dateV at HO
    go_enter Tryz.func23, Tryz.ntmps23
    go_wp2_with fail
    refine (HO.out _).mono ?_
    rintro e w1 ⟨rfl, hb⟩
    have HB := Hid.mk' hb
    have F1 := FmD.of (HF.out.below hb hlt)
    clear hb c3 c4 c5 c6 c7 c8 c9 c10 c11
    obtain ⟨c3, c4, c5, c6, c7, c8, c9, c10, c11⟩ := F1
    go_wp2_with fail
    go_ret2
    exact ⟨⟨0, rfl, fun e => by cases e⟩, HB.out⟩
  · have hNb := Mo.of_le hok
    have HO := Hid.mk' (fun w => rOf_any y m d h mi s ms w hok)
    have hz : Mo.stOK y m d h mi s ms sg zh zm = (!oddB zh zm && decide (0 ≤ Mo.stN y m d h mi s ms sg zh zm ∧ Mo.stN y m d h mi s ms sg zh zm ≤ 253402300799999)) := by
      unfold Mo.stOK oddB
      rw [hok, Bool.true_and]
      congr 1
      rw [Bool.eq_iff_iff]
      simp only [Bool.and_eq_true, decide_eq_true_eq, Bool.not_eq_true', Bool.or_eq_false_iff, decide_eq_false_iff_not]
      omega
    rw [hz]
    have hN : Mo.stN y m d h mi s ms sg zh zm = ((Mo.of y m d h mi s ms : Nat) : Int) - 60000 * (sg * (60 * (zh : Int) + (zm : Int))) := by
      unfold Mo.stN
      rcases hs with rfl | rfl | rfl <;> omega
    rw [hN]
    obtain ⟨N, hNN⟩ : ∃ N, Mo.of y m d h mi s ms = N := ⟨_, rfl⟩
    obtain ⟨Z, hZ⟩ : ∃ Z, sg * (60 * (zh : Int) + (zm : Int)) = Z := ⟨_, rfl⟩
    have hZb : -10000 ≤ Z ∧ Z ≤ 10000 := by
      rw [← hZ]
      rcases hs with rfl | rfl | rfl <;> omega
    obtain ⟨o, ho⟩ : ∃ o, oddB zh zm = o := ⟨_, rfl⟩
    rw [hNN] at HO hNb ⊢
    rw [hZ] at c10 HF ⊢
    rw [ho] at c11 HF ⊢
    obtain ⟨Q, hQ⟩ : ∃ Q : Int, (N : Int) - 60000 * Z = Q := ⟨_, rfl⟩
    obtain ⟨q, hq⟩ : ∃ q, decide (0 ≤ Q ∧ Q ≤ 253402300799999) = q := ⟨_, rfl⟩
    have HS := Hid.mk' (rStamp_is Q q hq)
    rw [hQ, hq]
    have hQb : -1000000000 ≤ Q ∧ Q ≤ 263402300799999 := by omega
    clear hz hok hN hNN hZ ho hq hs hh hm
    unfold dateV at HO
    cases o
    · rw [Bool.not_false, Bool.true_and]
      go_enter Tryz.func23, Tryz.ntmps23
      go_wp2_with fail
      refine (HO.out _).mono ?_
      rintro e w1 ⟨rfl, hb⟩
      have HB := Hid.mk' hb
      have F1 := FmD.of (HF.out.below hb hlt)
      clear hb c3 c4 c5 c6 c7 c8 c9 c10 c11
      obtain ⟨c3, c4, c5, c6, c7, c8, c9, c10, c11⟩ := F1
      go_wp2_with (first | (go_at_call 53; refine (HS.out _).mono ?_; rintro e w' ⟨rfl, hw'⟩; have hw2 := hw'.symm; subst hw2; clear hw') | fail)
      go_ret2
      exact ⟨⟨Q, rfl, fun _ => rfl⟩, HB.out⟩
    · rw [Bool.not_true, Bool.false_and]
      go_enter Tryz.func23, Tryz.ntmps23
      go_wp2_with fail
      refine (HO.out _).mono ?_
      rintro e w1 ⟨rfl, hb⟩
      have HB := Hid.mk' hb
      have F1 := FmD.of (HF.out.below hb hlt)
      clear hb c3 c4 c5 c6 c7 c8 c9 c10 c11
      obtain ⟨c3, c4, c5, c6, c7, c8, c9, c10, c11⟩ := F1
      go_wp2_with fail
      go_ret2
      exact ⟨⟨0, rfl, fun e => by cases e⟩, HB.out⟩
def frT (b : Bool) (l : List Nat) : ByteArray := if (!b && endF l) = true then nums (restF 32 l) else ByteArray.empty
set_option maxRecDepth 100000 in
set_option maxHeartbeats 4000000 in
theorem frest_any (g : Nat) (S : ByteArray) (b : Bool) (l : List Nat) (D : List Int) (z : Int) (o : Bool) (w : World) (h : Fm g S b l D z o w) (hS : S.size ≤ 4611686018427387904) :
    Calls Tryz.prog 28 #[.pointer (some ⟨g, 0, none⟩)] w fun e w' => e = .returned (.tuple #[.string (frT b l), .bool (!b && endF l)]) ∧ Below w.heap.size w w' := by
  obtain ⟨p, d0, d1, d2, d3, d4, d5, d6, z', o', hp, hg, hb⟩ := h.ex
  obtain ⟨c0, c1, c2, f1, f2⟩ := FmAt.of hg
  have hSI : (S.size : Int) ≤ 4611686018427387904 := by omega
  have HR := Hid.mk' (Below.refl w.heap.size w)
  cases b
  · obtain ⟨hl, -, -, -⟩ := hb rfl
    have HQ : Hid (∀ n, FmAt g S p false (w.drewN n) ∧ Below w.heap.size w (w.drewN n)) := fun n => ⟨FmAt.of (by exact hg), HR.out.drewN' n⟩
    unfold frT
    rw [Bool.not_false, Bool.true_and]
    cases l with
    | nil =>
      have hpe := at_nil S p hp hl
      have t1 : (p == S.size) = true := by simp; omega
      have HT : Hid ((if endF [] = true then nums (restF 32 []) else ByteArray.empty) = ByteArray.empty) := rfl
      rw [HT.out]
      clear hg hb h hl hp HR
      subst hpe
      go_enter Tryz.func28, Tryz.ntmps28
      go_wp2_with fail
      go_quiet (fail)
      have H2 := Hid.mk' (HQ.out nq)
      generalize w.drewN nq = W2 at H2 ⊢
      go_wp2_with fail
      go_ret2
      exact ⟨rfl, H2.out.2⟩
    | cons x r =>
      have hi := at_idx S p x r hl
      obtain ⟨n1, n2, n3⟩ := at_facts S p x r hl
      have t1 : ¬ p = S.size := by omega
      have t2 : (p == S.size) = false := by simp; omega
      have t3 : ¬ (p : Int) = (S.size : Int) := by omega
      have t4 : ((p : Int) == (S.size : Int)) = false := by simp; omega
      have hpb : (p : Int) < 4611686018427387904 := by omega
      have hp1 : (p : Int) + 1 ≤ (S.size : Int) := by omega
      by_cases hx : x = 32
      · subst hx
        have HT : Hid ((if endF (32 :: r) = true then nums (restF 32 (32 :: r)) else ByteArray.empty) = S.extract (p + 1) S.size) := Hid.mk' (by
          have e : Sums.bl (S.extract (p + 1) S.size) = r := by rw [Sums.bl_drop]; exact n3
          rw [show restF 32 (32 :: r) = r by simp [restF], show endF (32 :: r) = true from rfl, if_pos rfl, ← e, nums_bl])
        rw [HT.out]
        clear hg hb h hl hp HR n3 n1
        go_enter Tryz.func28, Tryz.ntmps28
        go_wp2_with fail
        go_quiet (fail)
        have H2 := Hid.mk' (HQ.out nq)
        have HQ2 : Hid (∀ n, FmAt g S p false ((w.drewN nq).drewN n) ∧ Below w.heap.size w ((w.drewN nq).drewN n)) := fun n => ⟨⟨H2.out.1.c0, H2.out.1.c1, H2.out.1.c2, H2.out.1.f1, H2.out.1.f2⟩, H2.out.2.drewN' n⟩
        generalize w.drewN nq = W2 at H2 HQ2 ⊢
        clear c0 c1 c2 f1 f2
        obtain ⟨c0, c1, c2, f1, f2⟩ := H2.out.1
        go_wp2_with fail
        go_quiet (fail)
        have H3 := Hid.mk' (HQ2.out nq)
        have HQ3 : Hid (∀ n, FmAt g S p false ((W2.drewN nq).drewN n) ∧ Below w.heap.size w ((W2.drewN nq).drewN n)) := fun n => ⟨⟨H3.out.1.c0, H3.out.1.c1, H3.out.1.c2, H3.out.1.f1, H3.out.1.f2⟩, H3.out.2.drewN' n⟩
        generalize W2.drewN nq = W3 at H3 HQ3 ⊢
        clear c0 c1 c2 f1 f2
        obtain ⟨c0, c1, c2, f1, f2⟩ := H3.out.1
        go_wp2_with fail
        go_quiet (fail)
        have H4 := Hid.mk' (HQ3.out nq)
        generalize W3.drewN nq = W4 at H4 ⊢
        go_wp2_with fail
        go_ret2
        exact ⟨rfl, H4.out.2⟩
      · have he : endF (x :: r) = false := by simp [endF, hx]
        rw [he]
        simp only [Bool.false_eq_true, if_false]
        have hx1 : ¬ (x : Int) = 32 := by omega
        have hx2 : ((x : Int) != 32) = true := by simp; omega
        clear hg hb h hl hp HR n3 n1 he hx
        go_enter Tryz.func28, Tryz.ntmps28
        go_wp2_with fail
        go_quiet (fail)
        have H2 := Hid.mk' (HQ.out nq)
        have HQ2 : Hid (∀ n, FmAt g S p false ((w.drewN nq).drewN n) ∧ Below w.heap.size w ((w.drewN nq).drewN n)) := fun n => ⟨⟨H2.out.1.c0, H2.out.1.c1, H2.out.1.c2, H2.out.1.f1, H2.out.1.f2⟩, H2.out.2.drewN' n⟩
        generalize w.drewN nq = W2 at H2 HQ2 ⊢
        clear c0 c1 c2 f1 f2
        obtain ⟨c0, c1, c2, f1, f2⟩ := H2.out.1
        go_wp2_with fail
        go_quiet (fail)
        have H3 := Hid.mk' (HQ2.out nq)
        generalize W2.drewN nq = W3 at H3 ⊢
        go_wp2_with fail
        go_ret2
        exact ⟨rfl, H3.out.2⟩
  · unfold frT
    rw [Bool.not_true, Bool.false_and]
    simp only [Bool.false_eq_true, if_false]
    clear hg hb h hp
    go_enter Tryz.func28, Tryz.ntmps28
    go_wp2_with fail
    go_ret2
    exact ⟨rfl, HR.out⟩
end Go.Proofs.YthmpokndffbkdaaGreatDoor
