/-
  The document's Read. Conditions: a text of at most 2^62 bytes.
-/
import Derived.Test.YthmpokndffbkdaaGreatDoorFoF
namespace Go.Proofs.YthmpokndffbkdaaGreatDoor
open Go.RowKit
set_option linter.unusedVariables false
def fm0 (S : ByteArray) : Obj := .cells #[.string S, .int .i64 0, .bool false, .int .i64 0, .int .i64 0, .int .i64 0, .int .i64 0, .int .i64 0, .int .i64 0, .int .i64 0, .int .i64 0, .bool false] 48
theorem Fm.new (w : World) (S : ByteArray) : Fm w.heap.size S false (Sums.bl S) [0, 0, 0, 0, 0, 0, 0] 0 false (w.alloc (fm0 S)) :=
  ⟨0, 0, 0, 0, 0, 0, 0, 0, 0, false, Nat.zero_le _, heap_alloc_new w _, fun _ => ⟨rfl, rfl, rfl, rfl⟩⟩
/-- what is known of a form and of all else from step to step -/
structure FmW (g : Nat) (S : ByteArray) (b : Bool) (l : List Nat) (D : List Int) (z : Int) (o : Bool) (n : Nat) (w0 w : World) : Prop where
  fm : Fm g S b l D z o w
  bel : Below n w0 w
theorem FmW.call {g : Nat} {S : ByteArray} {b b' : Bool} {l l' : List Nat} {D D' : List Int} {z z' : Int} {o o' : Bool} {n : Nat} {w0 w w' : World} (h : FmW g S b l D z o n w0 w) (hg : n ≤ g) (f : Fm g S b' l' D' z' o' w') (ho : Only g w w') : FmW g S b' l' D' z' o' n w0 w' :=
  ⟨f, h.bel.trans (ho.below hg (Nat.le_trans hg (Nat.le_of_lt h.fm.lt)))⟩
theorem FmW.next {g : Nat} {S : ByteArray} {b : Bool} {l : List Nat} {D : List Int} {z : Int} {o : Bool} {n : Nat} {w0 w w' : World} (h : FmW g S b l D z o n w0 w) (hg : n ≤ g) (x : Below w.heap.size w w') : FmW g S b l D z o n w0 w' :=
  ⟨h.fm.below x h.fm.lt, h.bel.trans (x.mono (Nat.le_trans hg (Nat.le_of_lt h.fm.lt)))⟩
theorem zn_zon (l : List Nat) : znB true l = zonB l ∧ (zonB l = false → znL true l = zonL l ∧ znS l = zonS l ∧ znH l = zonH l ∧ znM l = zonM l) := by
  unfold znB zonB znL zonL znS zonS znH zonH znM zonM scB scL scH scM pmB
  cases hasF 90 l
  · cases h45 : hasF 45 l
    · cases h43 : hasF 43 l
      · simp
      · simp [pmL, pmV, h45]
    · simp [pmL, pmV, h45]
  · simp
set_option maxRecDepth 100000 in
set_option maxHeartbeats 4000000 in
theorem rRead_any (S : ByteArray) (w : World) (hS : S.size ≤ 4611686018427387904) :
    Calls Tryz.prog 6 #[.string S] w fun e w' => e = readR (Sums.bl S) ∧ Below w.heap.size w w' := by
  have HS := Hid.mk' hS
  have X0 : Hid (FmW w.heap.size S false (Sums.bl S) [0, 0, 0, 0, 0, 0, 0] 0 false w.heap.size w (w.alloc (fm0 S))) := ⟨Fm.new w S, (Below.refl _ _).alloc (Nat.le_refl _) _⟩
  unfold fm0 at X0
  obtain ⟨l, hl⟩ : ∃ l, Sums.bl S = l := ⟨_, rfl⟩
  rw [hl] at X0 ⊢
  have HL : Hid (l.length = S.size) := Hid.mk' (by rw [← hl, Sums.bl_length])
  have hSI : (S.size : Int) ≤ 4611686018427387904 := by omega
  have HLL := Hid.mk' hl
  clear hS hl
  go_enter Tryz.func6, Tryz.ntmps6
  go_wp2_with fail
  generalize (w.alloc _) = W0 at *
  generalize hG : w.heap.size = G at *
  have hgg : Hid (G ≤ G) := Nat.le_refl G
  have HG := Hid.mk' hG
  clear hG
  refine (fday_any G S _ _ _ _ _ _ X0.out.fm HS.out).mono ?_
  rintro e W1 ⟨rfl, ht, ho⟩
  have X1 := Hid.mk' (X0.out.call hgg.out ht ho)
  clear ht ho X0
  go_wp2_with fail
  refine (fmust1 G 84 _ S _ _ _ _ _ _ X1.out.fm HS.out (by decide) (by decide)).mono ?_
  rintro e W2 ⟨rfl, ht, ho⟩
  have X2 := Hid.mk' (X1.out.call hgg.out ht ho)
  clear ht ho X1
  go_wp2_with fail
  refine (ftime_any G S _ _ _ _ _ _ X2.out.fm HS.out rfl rfl).mono ?_
  rintro e W3 ⟨rfl, ht, ho⟩
  have X3 := Hid.mk' (X2.out.call hgg.out ht ho)
  clear ht ho X2
  go_wp2_with fail
  refine (fzone_any G S _ _ _ true _ X3.out.fm HS.out).mono ?_
  rintro e W4 ⟨rfl, ht, ho⟩
  have x4 := X3.out.call hgg.out ht ho
  clear ht ho X3
  change FmW G S (false || dayB l || !hasF 84 (dayL l) || timB (rd2 l) || znB true (rd3 l)) (znL true (rd3 l)) [((day0 l : Nat) : Int), ((day1 l : Nat) : Int), ((day2 l : Nat) : Int), ((sec0 (rd2 l) : Nat) : Int), ((sec1 (rd2 l) : Nat) : Int), ((sec2 (rd2 l) : Nat) : Int), ((timMs (rd2 l) : Nat) : Int)] (znS (rd3 l) * (60 * ((znH (rd3 l) : Nat) : Int) + ((znM (rd3 l) : Nat) : Int))) (oddB (znH (rd3 l)) (znM (rd3 l))) G w W4 at x4
  rw [(zn_zon (rd3 l)).1, show (false || dayB l || !hasF 84 (dayL l) || timB (rd2 l) || zonB (rd3 l)) = rdBad l by unfold rdBad; simp] at x4
  cases hbad : rdBad l
  · rw [hbad] at x4
    have hzb : zonB (rd3 l) = false := by
      unfold rdBad at hbad
      simp only [Bool.or_eq_false_iff] at hbad
      exact hbad.2
    obtain ⟨z1, z2, z3, z4⟩ := (zn_zon (rd3 l)).2 hzb
    rw [z1, z2, z3, z4] at x4
    have X4 := Hid.mk' x4
    obtain ⟨p, d0, d1, d2, d3, d4, d5, d6, z', o', hp, hg, hb⟩ := x4.fm.ex
    obtain ⟨c0, c1, c2, f1, f2⟩ := FmAt.of hg
    obtain ⟨hl, -, -, -⟩ := hb rfl
    clear hg hb x4 z1 z2 z3 z4 hzb
    cases hz : zonL (rd3 l) with
    | nil =>
      rw [hz] at hl
      have hpe := at_nil S p hp hl
      have HRR : Hid (readR l = stR (day0 l) (day1 l) (day2 l) (sec0 (rd2 l)) (sec1 (rd2 l)) (sec2 (rd2 l)) (timMs (rd2 l)) (zonS (rd3 l)) (zonH (rd3 l)) (zonM (rd3 l))) := Hid.mk' (by
        unfold readR
        rw [hbad, hz]
        rfl)
      have HST := Hid.mk' (fun l' w h => fstamp_any G S l' (day0 l) (day1 l) (day2 l) (sec0 (rd2 l)) (sec1 (rd2 l)) (sec2 (rd2 l)) (timMs (rd2 l)) (zonS (rd3 l)) (zonH (rd3 l)) (zonM (rd3 l)) w h (zonS_is _) (zonH_le _) (zonM_le _))
      obtain ⟨OK, hOK⟩ : ∃ OK, Mo.stOK (day0 l) (day1 l) (day2 l) (sec0 (rd2 l)) (sec1 (rd2 l)) (sec2 (rd2 l)) (timMs (rd2 l)) (zonS (rd3 l)) (zonH (rd3 l)) (zonM (rd3 l)) = OK := ⟨_, rfl⟩
      have HR2 : Hid (readR l = if OK = true then .returned (.tuple #[.int .i64 (Mo.stN (day0 l) (day1 l) (day2 l) (sec0 (rd2 l)) (sec1 (rd2 l)) (sec2 (rd2 l)) (timMs (rd2 l)) (zonS (rd3 l)) (zonH (rd3 l)) (zonM (rd3 l))), .int .i64 0]) else .returned (.tuple #[.int .i64 0, .int .i64 120])) := Hid.mk' (by
        rw [HRR.out, ← hOK]; rfl)
      rw [hOK] at HST
      clear hbad hl hp HRR hOK
      subst hpe
      have t1 : ((S.size : Int) != (S.size : Int)) = false := by simp
      have H5 := X4
      rw [hz] at H5
      clear hz X4
      go_wp2_with fail
      refine (HST.out _ _ H5.out.fm).mono ?_
      rintro e W6 ⟨⟨v, rfl, hv⟩, hb⟩
      have HV := Hid.mk' hv
      have H6 := Hid.mk' (H5.out.next hgg.out hb)
      clear hb H5 hv HST
      cases OK
      · have HA : Hid (readR l = .returned (.tuple #[.int .i64 0, .int .i64 120])) := Hid.mk' (by rw [HR2.out]; rfl)
        clear HR2 HV
        go_wp2_with fail
        go_ret2
        exact ⟨HA.out.symm, (by rw [HG.out]; exact H6.out.bel)⟩
      · have HA : Hid (readR l = .returned (.tuple #[.int .i64 v, .int .i64 0])) := Hid.mk' (by rw [HR2.out, if_pos rfl, ← HV.out rfl])
        clear HR2 HV
        go_wp2_with fail
        go_ret2
        exact ⟨HA.out.symm, (by rw [HG.out]; exact H6.out.bel)⟩
    | cons x r =>
      rw [hz] at hl
      obtain ⟨n1, n2, n3⟩ := at_facts S p x r hl
      have HRR : Hid (readR l = .returned (.tuple #[.int .i64 0, .int .i64 33])) := Hid.mk' (by
        unfold readR
        rw [hbad, hz]
        rfl)
      have t1 : ¬ p = S.size := by omega
      have t2 : (p == S.size) = false := by simp; omega
      have t3 : ¬ (p : Int) = (S.size : Int) := by omega
      have t4 : ((p : Int) != (S.size : Int)) = true := by simp; omega
      have t5 : (p != S.size) = true := by simp; omega
      have hpb : (p : Int) < 4611686018427387904 := by omega
      clear hz hbad hl hp n1 n2 n3
      go_wp2_with fail
      go_ret2
      exact ⟨HRR.out.symm, (by rw [HG.out]; exact X4.out.bel)⟩
  · rw [hbad] at x4
    have HRR : Hid (readR l = .returned (.tuple #[.int .i64 0, .int .i64 33])) := Hid.mk' (by
      unfold readR
      rw [hbad]
      rfl)
    obtain ⟨p, d0, d1, d2, d3, d4, d5, d6, z', o', hp, hg, hb⟩ := x4.fm.ex
    obtain ⟨c0, c1, c2, f1, f2⟩ := FmAt.of hg
    have H5 := Hid.mk' x4.bel
    clear hg hb x4 hbad hp
    go_wp2_with fail
    go_ret2
    exact ⟨HRR.out.symm, (by rw [HG.out]; exact H5.out)⟩
end Go.Proofs.YthmpokndffbkdaaGreatDoor
