/-
  The document's form: a month's name, bracket. Conditions: the form lies in a block of its own.
-/
import Derived.Test.YthmpokndffbkdaaGreatDoorFoG
import Derived.Test.YthmpokndffbkdaaGreatDoorMoW
namespace Go.Proofs.YthmpokndffbkdaaGreatDoor
open Go.RowKit
set_option linter.unusedVariables false
theorem ms0 (W : World) : (Instr.slice 9 (.string ⟨#[74, 97, 110, 70, 101, 98, 77, 97, 114, 65, 112, 114, 77, 97, 121, 74, 117, 110, 74, 117, 108, 65, 117, 103, 83, 101, 112, 79, 99, 116, 78, 111, 118, 68, 101, 99]⟩) (some (.int .i64 0)) (some (.int .i64 3)) none).run Tryz.prog W = .ok (.string ⟨#[74, 97, 110]⟩) W := by kernel_rfl
theorem ms1 (W : World) : (Instr.slice 9 (.string ⟨#[74, 97, 110, 70, 101, 98, 77, 97, 114, 65, 112, 114, 77, 97, 121, 74, 117, 110, 74, 117, 108, 65, 117, 103, 83, 101, 112, 79, 99, 116, 78, 111, 118, 68, 101, 99]⟩) (some (.int .i64 3)) (some (.int .i64 6)) none).run Tryz.prog W = .ok (.string ⟨#[70, 101, 98]⟩) W := by kernel_rfl
theorem ms2 (W : World) : (Instr.slice 9 (.string ⟨#[74, 97, 110, 70, 101, 98, 77, 97, 114, 65, 112, 114, 77, 97, 121, 74, 117, 110, 74, 117, 108, 65, 117, 103, 83, 101, 112, 79, 99, 116, 78, 111, 118, 68, 101, 99]⟩) (some (.int .i64 6)) (some (.int .i64 9)) none).run Tryz.prog W = .ok (.string ⟨#[77, 97, 114]⟩) W := by kernel_rfl
theorem ms3 (W : World) : (Instr.slice 9 (.string ⟨#[74, 97, 110, 70, 101, 98, 77, 97, 114, 65, 112, 114, 77, 97, 121, 74, 117, 110, 74, 117, 108, 65, 117, 103, 83, 101, 112, 79, 99, 116, 78, 111, 118, 68, 101, 99]⟩) (some (.int .i64 9)) (some (.int .i64 12)) none).run Tryz.prog W = .ok (.string ⟨#[65, 112, 114]⟩) W := by kernel_rfl
theorem ms4 (W : World) : (Instr.slice 9 (.string ⟨#[74, 97, 110, 70, 101, 98, 77, 97, 114, 65, 112, 114, 77, 97, 121, 74, 117, 110, 74, 117, 108, 65, 117, 103, 83, 101, 112, 79, 99, 116, 78, 111, 118, 68, 101, 99]⟩) (some (.int .i64 12)) (some (.int .i64 15)) none).run Tryz.prog W = .ok (.string ⟨#[77, 97, 121]⟩) W := by kernel_rfl
theorem ms5 (W : World) : (Instr.slice 9 (.string ⟨#[74, 97, 110, 70, 101, 98, 77, 97, 114, 65, 112, 114, 77, 97, 121, 74, 117, 110, 74, 117, 108, 65, 117, 103, 83, 101, 112, 79, 99, 116, 78, 111, 118, 68, 101, 99]⟩) (some (.int .i64 15)) (some (.int .i64 18)) none).run Tryz.prog W = .ok (.string ⟨#[74, 117, 110]⟩) W := by kernel_rfl
theorem ms6 (W : World) : (Instr.slice 9 (.string ⟨#[74, 97, 110, 70, 101, 98, 77, 97, 114, 65, 112, 114, 77, 97, 121, 74, 117, 110, 74, 117, 108, 65, 117, 103, 83, 101, 112, 79, 99, 116, 78, 111, 118, 68, 101, 99]⟩) (some (.int .i64 18)) (some (.int .i64 21)) none).run Tryz.prog W = .ok (.string ⟨#[74, 117, 108]⟩) W := by kernel_rfl
theorem ms7 (W : World) : (Instr.slice 9 (.string ⟨#[74, 97, 110, 70, 101, 98, 77, 97, 114, 65, 112, 114, 77, 97, 121, 74, 117, 110, 74, 117, 108, 65, 117, 103, 83, 101, 112, 79, 99, 116, 78, 111, 118, 68, 101, 99]⟩) (some (.int .i64 21)) (some (.int .i64 24)) none).run Tryz.prog W = .ok (.string ⟨#[65, 117, 103]⟩) W := by kernel_rfl
theorem ms8 (W : World) : (Instr.slice 9 (.string ⟨#[74, 97, 110, 70, 101, 98, 77, 97, 114, 65, 112, 114, 77, 97, 121, 74, 117, 110, 74, 117, 108, 65, 117, 103, 83, 101, 112, 79, 99, 116, 78, 111, 118, 68, 101, 99]⟩) (some (.int .i64 24)) (some (.int .i64 27)) none).run Tryz.prog W = .ok (.string ⟨#[83, 101, 112]⟩) W := by kernel_rfl
theorem ms9 (W : World) : (Instr.slice 9 (.string ⟨#[74, 97, 110, 70, 101, 98, 77, 97, 114, 65, 112, 114, 77, 97, 121, 74, 117, 110, 74, 117, 108, 65, 117, 103, 83, 101, 112, 79, 99, 116, 78, 111, 118, 68, 101, 99]⟩) (some (.int .i64 27)) (some (.int .i64 30)) none).run Tryz.prog W = .ok (.string ⟨#[79, 99, 116]⟩) W := by kernel_rfl
theorem ms10 (W : World) : (Instr.slice 9 (.string ⟨#[74, 97, 110, 70, 101, 98, 77, 97, 114, 65, 112, 114, 77, 97, 121, 74, 117, 110, 74, 117, 108, 65, 117, 103, 83, 101, 112, 79, 99, 116, 78, 111, 118, 68, 101, 99]⟩) (some (.int .i64 30)) (some (.int .i64 33)) none).run Tryz.prog W = .ok (.string ⟨#[78, 111, 118]⟩) W := by kernel_rfl
theorem ms11 (W : World) : (Instr.slice 9 (.string ⟨#[74, 97, 110, 70, 101, 98, 77, 97, 114, 65, 112, 114, 77, 97, 121, 74, 117, 110, 74, 117, 108, 65, 117, 103, 83, 101, 112, 79, 99, 116, 78, 111, 118, 68, 101, 99]⟩) (some (.int .i64 33)) (some (.int .i64 36)) none).run Tryz.prog W = .ok (.string ⟨#[68, 101, 99]⟩) W := by kernel_rfl
theorem mon_sl (i : Nat) (h : i < 12) (t : ByteArray) (ht : monV.getD i (.bool false) = .string t) (W : World) : (Instr.slice 9 (.string ⟨#[74, 97, 110, 70, 101, 98, 77, 97, 114, 65, 112, 114, 77, 97, 121, 74, 117, 110, 74, 117, 108, 65, 117, 103, 83, 101, 112, 79, 99, 116, 78, 111, 118, 68, 101, 99]⟩) (some (.int .i64 (3 * (i : Int)))) (some (.int .i64 (3 * (i : Int) + 3))) none).run Tryz.prog W = .ok (.string t) W := by
  rcases (show i = 0 ∨ i = 1 ∨ i = 2 ∨ i = 3 ∨ i = 4 ∨ i = 5 ∨ i = 6 ∨ i = 7 ∨ i = 8 ∨ i = 9 ∨ i = 10 ∨ i = 11 by omega) with rfl | rfl | rfl | rfl | rfl | rfl | rfl | rfl | rfl | rfl | rfl | rfl
  · have ht2 := Value.string.inj ht
    subst ht2
    exact ms0 W
  · have ht2 := Value.string.inj ht
    subst ht2
    exact ms1 W
  · have ht2 := Value.string.inj ht
    subst ht2
    exact ms2 W
  · have ht2 := Value.string.inj ht
    subst ht2
    exact ms3 W
  · have ht2 := Value.string.inj ht
    subst ht2
    exact ms4 W
  · have ht2 := Value.string.inj ht
    subst ht2
    exact ms5 W
  · have ht2 := Value.string.inj ht
    subst ht2
    exact ms6 W
  · have ht2 := Value.string.inj ht
    subst ht2
    exact ms7 W
  · have ht2 := Value.string.inj ht
    subst ht2
    exact ms8 W
  · have ht2 := Value.string.inj ht
    subst ht2
    exact ms9 W
  · have ht2 := Value.string.inj ht
    subst ht2
    exact ms10 W
  · have ht2 := Value.string.inj ht
    subst ht2
    exact ms11 W
theorem pre_take (m l : List Nat) (hm : m.length = 3) : m.isPrefixOf l = decide (m = l.take 3) := by
  match m, hm with
  | [a, b, c], _ =>
    match l with
    | [] => simp
    | [x] => simp [List.isPrefixOf]
    | [x, y] => simp [List.isPrefixOf]
    | x :: y :: z :: r => rw [Bool.eq_iff_iff]; simp [List.isPrefixOf]
theorem text_eq (a b : ByteArray) : (a.toList == b.toList) = decide (Sums.bl a = Sums.bl b) := by
  by_cases h : Sums.bl a = Sums.bl b
  · have : a = b := Sums.bl_inj h
    subst this
    simp
  · have : ¬ a.toList = b.toList := by
      intro e
      rw [ByteArray.toList_eq, ByteArray.toList_eq] at e
      exact h (by unfold Sums.bl; rw [e])
    simp [h, this]
theorem month_short {l : List Nat} (h : l.length < 3) : mnI l = 0 := by
  have : ∀ k i, mfF l k i = 0 := by
    intro k
    induction k with
    | zero => intro i; rfl
    | succ k ih =>
      intro i
      have hm : (monL i).length = 3 := by unfold monL; (repeat' split) <;> rfl
      rw [mfF, pre_take _ _ hm, if_neg, ih]
      intro e
      have e2 := of_decide_eq_true e
      have := congrArg List.length e2
      rw [hm, List.length_take] at this
      omega
  exact this 12 0
set_option maxRecDepth 100000 in
set_option maxHeartbeats 4000000 in
theorem rMonth_any (t : ByteArray) (l : List Nat) (w : World) (ht : Sums.bl t = l.take 3) :
    Calls Tryz.prog 58 #[.string t] w fun e w' => e = .returned (.int .i64 ((mnI l : Nat) : Int)) ∧ w' = w := by
  obtain ⟨I, hI⟩ : ∃ I, mnI l = I := ⟨_, rfl⟩
  rw [hI]
  have HI : Hid (mfF l 12 0 = I) := hI
  have HL := Hid.mk' ht
  clear hI ht
  go_enter Tryz.func58, Tryz.ntmps58
  go_wp2_with fail
  go_loopw [3] (fun iv wr => ∃ i k : Nat, iv = .int .i64 ((i : Nat) : Int) ∧ i + k = 12 ∧ Hid (mfF l k i = I) ∧ wr = w) (fun iv _ => 12 - (intOf iv).toNat)
  case atStart => exact ⟨0, 12, rfl, rfl, HI, rfl⟩
  case round =>
    obtain ⟨i, k, rfl, hik, hR, rfl⟩ := hrel
    cases k with
    | zero =>
      obtain rfl : i = 12 := by omega
      have e := hR.out
      rw [mfF] at e
      have HE := Hid.mk' e
      clear e
      go_wp2_with fail
      go_ret
      exact ⟨ret_i64 (by rw [← HE.out]; rfl), rfl⟩
    | succ k =>
      have hi : i < 12 := by omega
      have hiI : (i : Int) < 12 := by omega
      obtain ⟨m, hm1, hm2, hm3⟩ := mon_str i hi
      have hx := mon_sl i hi m hm1
      have e := hR.out
      have hm : (monL i).length = 3 := by rw [← hm2, Sums.bl_length]; exact hm3
      rw [mfF, pre_take _ _ hm, ← hm2, ← HL.out] at e
      have hq := text_eq m t
      cases hpx : decide (Sums.bl m = Sums.bl t)
      · rw [hpx] at e hq
        simp only [Bool.false_eq_true, if_false] at e
        have hne : ¬ m.toList = t.toList := by simpa using hq
        have HE := Hid.mk' e
        clear e hm1 hm2 hm3 hpx hi hm
        go_wp2_with fail
        go_roundw
        case rel => exact ⟨i + 1, k, by first | rfl | exact int_eq (by omega), by omega, HE, by first | rfl | trivial⟩
        case measure => simp [intOf]; omega
      · rw [hpx] at e hq
        simp only [if_true] at e
        have hmt : m = t := Sums.bl_inj (of_decide_eq_true hpx)
        subst hmt
        have HE := Hid.mk' e
        clear e hm1 hm2 hm3 hpx hi hm
        go_wp2_with fail
        go_ret
        exact ⟨ret_i64 (by rw [← HE.out]; omega), rfl⟩
theorem Fm.step3 {g : Nat} {S : ByteArray} {p : Nat} {b : Bool} {l : List Nat} (hl : (Sums.bl S).drop p = l) (h3 : 3 ≤ l.length) : p + 3 ≤ S.size ∧ (Sums.bl S).drop (p + 3) = l.drop 3 ∧ Sums.bl (S.extract p (p + 3)) = l.take 3 := by
  have hlen := congrArg List.length hl
  rw [List.length_drop, Sums.bl_length] at hlen
  refine ⟨by omega, by rw [← List.drop_drop, hl], ?_⟩
  rw [Sums.bl_extract, List.drop_take, hl, show p + 3 - p = 3 by omega]
/-- what stands ahead of the zone is bad, so all is -/
theorem sl_runP (s : ByteArray) (a : Nat) (h : a + 3 ≤ s.size) (W : World) : (Instr.slice 9 (.string s) (some (.int .i64 (a : Int))) (some (.int .i64 ((a : Int) + 3))) none).run Tryz.prog W = .ok (.string (s.extract a (a + 3))) W := by
  have e1 : ((a : Int) + 3).toNat = a + 3 := by omega
  have e3 : (a : Int) + 3 ≤ (s.size : Int) := by omega
  have e4 : (0 : Int) ≤ (a : Int) + 3 := by omega
  simp [go_sem, Instr.slice, e1, e3, e4]
theorem br_bad {l : List Nat} {B9 : Bool} (h8 : (B9 || !hasF 47 (b3L (restF 91 l)) || numB 4 (b4L (restF 91 l)) || !hasF 58 (b5L (restF 91 l)) || secB (b6L (restF 91 l)) || !hasF 32 (b7L (restF 91 l))) = true) (h9 : B9 = (!hasF 91 l || numB 2 (restF 91 l) || !hasF 47 (b1L (restF 91 l)) || mnB (b2L (restF 91 l)))) : (!hasF 91 l || brB (restF 91 l)) = true := by
  unfold brB
  rw [h9] at h8
  simp only [Bool.or_eq_true] at h8 ⊢
  rcases h8 with ((((((((h | h) | h) | h) | h) | h) | h) | h) | h) <;> simp [h]
theorem br_fin {g : Nat} {S : ByteArray} {l l9 : List Nat} {B9 B8 m9 k : Bool} {D : List Int} {W : World}
    (h8 : (B9 || !hasF 47 (b3L (restF 91 l)) || numB 4 (b4L (restF 91 l)) || !hasF 58 (b5L (restF 91 l)) || secB (b6L (restF 91 l)) || !hasF 32 (b7L (restF 91 l))) = false) (h9 : B9 = (!hasF 91 l || numB 2 (restF 91 l) || !hasF 47 (b1L (restF 91 l)) || mnB (b2L (restF 91 l))))
    (hL : pmL (b8L (restF 91 l)) = l9) (hV : pmV (b8L (restF 91 l)) = sgn k) (hP : pmB (b8L (restF 91 l)) = m9) (hB8 : B8 = false)
    (x : Fm g S (B8 || m9 || snB l9 || !hasF 93 (snL l9)) (restF 93 (snL l9)) D (sgn k * (60 * ((scH l9 : Nat) : Int) + ((snM l9 : Nat) : Int))) (oddB (scH l9) (snM l9)) W) :
    Fm g S (!hasF 91 l || brB (restF 91 l)) (brL (restF 91 l)) D (pmV (b8L (restF 91 l)) * (60 * ((numN 2 0 (b9L (restF 91 l)) : Nat) : Int) + ((numN 2 0 (b10L (restF 91 l)) : Nat) : Int))) (oddB (numN 2 0 (b9L (restF 91 l))) (numN 2 0 (b10L (restF 91 l)))) W := by
  subst hB8 hP
  rw [hV]
  have e9 : b9L (restF 91 l) = l9 := hL
  have e10 : b10L (restF 91 l) = numL 2 l9 := by unfold b10L; rw [e9]
  have e11 : b11L (restF 91 l) = snL l9 := by unfold b11L snL; rw [e10]
  have eL : brL (restF 91 l) = restF 93 (snL l9) := by unfold brL; rw [e11]
  have eB : (!hasF 91 l || brB (restF 91 l)) = (false || pmB (b8L (restF 91 l)) || snB l9 || !hasF 93 (snL l9)) := by
    unfold brB snB
    rw [e9, e10, e11]
    rw [h9] at h8
    simp only [Bool.or_eq_false_iff] at h8
    obtain ⟨⟨⟨⟨⟨⟨⟨⟨q1, q2⟩, q3⟩, q4⟩, q5⟩, q6⟩, q7⟩, q8⟩, q9⟩ := h8
    simp only [q1, q2, q3, q4, q5, q6, q7, q8, q9, Bool.false_or, Bool.or_assoc]
  rw [eB, eL, e9, e10]
  exact x
set_option maxRecDepth 100000 in
set_option maxHeartbeats 8000000 in
theorem fbracket_any (g : Nat) (S : ByteArray) (l : List Nat) (w : World) (h : Fm g S false l [0, 0, 0, 0, 0, 0, 0] 0 false w) (hS : S.size ≤ 1152921504606846976) :
    Calls Tryz.prog 29 #[.pointer (some ⟨g, 0, none⟩)] w fun e w' => e = .returned (.tuple #[]) ∧ Fm g S (!hasF 91 l || brB (restF 91 l)) (brL (restF 91 l)) [((numN 4 0 (b4L (restF 91 l)) : Nat) : Int), ((mnI (b2L (restF 91 l)) : Nat) : Int), ((numN 2 0 (restF 91 l) : Nat) : Int), ((sec0 (b6L (restF 91 l)) : Nat) : Int), ((sec1 (b6L (restF 91 l)) : Nat) : Int), ((sec2 (b6L (restF 91 l)) : Nat) : Int), 0] (pmV (b8L (restF 91 l)) * (60 * ((numN 2 0 (b9L (restF 91 l)) : Nat) : Int) + ((numN 2 0 (b10L (restF 91 l)) : Nat) : Int))) (oddB (numN 2 0 (b9L (restF 91 l))) (numN 2 0 (b10L (restF 91 l)))) w' ∧ Only g w w' := by
  have HX := Hid.mk' h
  have HS : Hid (S.size ≤ 4611686018427387904) := Hid.mk' (by omega)
  have HS2 := Hid.mk' hS
  have HO := Hid.mk' (Only.refl g w)
  clear h hS
  go_enter Tryz.func29, Tryz.ntmps29
  go_wp2_with fail
  refine (fmust1 g 91 _ S _ _ _ _ _ _ HX.out HS.out (by decide) (by decide)).mono ?_
  rintro e a0 ⟨rfl, ht, ho⟩
  have X0 := Hid.mk' ht
  have O0 := Hid.mk' (HO.out.trans ho)
  clear ht ho HX HO
  go_wp2_with fail
  refine (fnumber_any g 2 S _ _ _ _ _ _ X0.out HS.out (by decide) (by decide)).mono ?_
  rintro e a1 ⟨⟨v1, rfl, hvb, hv⟩, ht, ho⟩
  have X1 := Hid.mk' ht
  have O1 := Hid.mk' (O0.out.trans ho)
  have V1 := Hid.mk' hv
  obtain ⟨u1, cu, fu⟩ := X1.out.cell 5 (by decide)
  clear ht ho hv hvb X0 O0
  go_wp2_with fail
  have q1 := X1.out.set 2 (by decide) (v1 : Int) ((numN 2 0 (restF 91 l) : Nat) : Int) (fun e => by rw [V1.out e])
  have Y1 := Hid.mk' q1.1
  have P1 := Hid.mk' (O1.out.trans q1.2)
  clear X1 O1 V1 q1 cu fu
  generalize (a1.setCell _ _) = b1 at *
  refine (fmust1 g 47 _ S _ _ _ _ _ _ Y1.out HS.out (by decide) (by decide)).mono ?_
  rintro e a2 ⟨rfl, ht, ho⟩
  have O2 := Hid.mk' (P1.out.trans ho)
  obtain ⟨B2, hB2⟩ : ∃ B2, (!hasF 91 l || numB 2 (restF 91 l) || !hasF 47 (b1L (restF 91 l))) = B2 := ⟨_, rfl⟩
  have x2 : Fm g S B2 (b2L (restF 91 l)) [0, 0, ((numN 2 0 (restF 91 l) : Nat) : Int), 0, 0, 0, 0] 0 false a2 := by
    rw [← hB2]
    unfold b2L b1L
    simpa using ht
  have HB2 := Hid.mk' hB2
  clear ht ho Y1 P1 hB2
  obtain ⟨p, d0, d1, d2, d3, d4, d5, d6, z', o', hp, hg, hb⟩ := x2.ex
  obtain ⟨c0, c1, c2, f1, f2⟩ := FmAt.of hg
  have HQ : Hid (∀ n, (a2.drewN n).heap[g]? = some (.cells (fmC S p B2 d0 d1 d2 d3 d4 d5 d6 z' o').toArray 48 (0, 0)) ∧ Only g w (a2.drewN n) ∧ Fm g S B2 (b2L (restF 91 l)) [0, 0, ((numN 2 0 (restF 91 l) : Nat) : Int), 0, 0, 0, 0] 0 false (a2.drewN n)) := fun n => ⟨hg, O2.out.drewN n, x2.drewN n⟩
  have hSI : (S.size : Int) ≤ 1152921504606846976 := by have := HS2.out; omega
  cases B2
  · obtain ⟨hl, hD, hz, hoo⟩ := hb rfl
    have HD := Hid.mk' (And.intro hD (And.intro hz hoo))
    have HL := Hid.mk' hl
    clear hD hz hoo
    by_cases h3 : 3 ≤ ((b2L (restF 91 l))).length
    · obtain ⟨k1, k2, k3⟩ := Fm.step3 (g := g) (b := false) hl h3
      have hM := Hid.mk' (fun w => rMonth_any (S.extract p (p + 3)) (b2L (restF 91 l)) w k3)
      have hsl : ∀ W, (Instr.slice 9 (.string S) (some (.int .i64 (p : Int))) (some (.int .i64 ((p : Int) + 3))) none).run Tryz.prog W = .ok (.string (S.extract p (p + 3))) W := sl_runP S p k1
      have K := Hid.mk' (And.intro k1 k2)
      have t1 : ¬ (S.size : Int) < (p : Int) + 3 := by omega
      have t2 : decide ((S.size : Int) < (p : Int) + 3) = false := by simp; omega
      have t3 : ¬ S.size < p + 3 := by omega
      have t4 : decide (S.size < p + 3) = false := by simp; omega
      have hpb : (p : Int) ≤ 1152921504606846976 := by omega
      have hwp : IntKind.i64.wrap ((p : Int) + 3) = (p : Int) + 3 := by rw [IntKind.wrap_i64]; omega
      generalize S.extract p (p + 3) = q at *
      clear hg hb hp hl h3 x2 O2 k1 k2 k3
      go_wp2_with fail
      go_quiet (fail)
      have H3 := Hid.mk' (HQ.out nq)
      generalize a2.drewN nq = a3 at H3 ⊢
      clear c0 c1 c2 f1 f2 HQ
      obtain ⟨c0, c1, c2, f1, f2⟩ := FmAt.of H3.out.1
      obtain ⟨u4, c4, f4⟩ := H3.out.2.2.cell 4 (by decide)
      obtain ⟨I, hI⟩ : ∃ I, mnI (b2L (restF 91 l)) = I := ⟨_, rfl⟩
      have HI := Hid.mk' hI
      rw [hI] at hM
      clear hI
      go_wp2_with fail
      go_upto_region 6 with fail
      go_cut [48] (fun v wc => v = .int .i64 ((I : Nat) : Int) ∧ Hid (wc.heap[g]? = some (.cells (fmC S p false d0 (I : Int) d2 d3 d4 d5 d6 z' o').toArray 48 (0, 0)) ∧ Only g w wc))
      case first =>
        have HW : Hid ((a3.setCell ⟨g, 4, none⟩ (.int .i64 (I : Int))).drew.heap[g]? = some (.cells (fmC S p false d0 (I : Int) d2 d3 d4 d5 d6 z' o').toArray 48 (0, 0)) ∧ Only g w (a3.setCell ⟨g, 4, none⟩ (.int .i64 (I : Int))).drew) := Hid.mk' (by
          have hq := only_set (o := 4) a3 (.int .i64 (I : Int)) H3.out.1
          have hq2 : (a3.setCell ⟨g, 4, none⟩ (.int .i64 (I : Int))).heap[g]? = some (.cells (fmC S p false d0 (I : Int) d2 d3 d4 d5 d6 z' o').toArray 48 (0, 0)) := by simpa [fmC] using hq.2
          exact ⟨hq2, (H3.out.2.1.trans hq.1).drewN 1⟩)
        go_region_with (go_at_call 58; refine (hM.out _).mono ?_; rintro e w' ⟨rfl, hw'⟩; have hw2 := hw'.symm; subst hw2; clear hw')
        all_goals
          go_wp2_with fail
          go_meet
          exact ⟨rfl, HW⟩
      case rest =>
        obtain ⟨rfl, hc⟩ := hcut
        have HC := Hid.mk' hc.out
        clear hc H3 c0 c1 c2 f1 f2 c4 f4 hM hsl
        rename World => a5
        obtain ⟨c0, c1, c2, f1, f2⟩ := FmAt.of HC.out.1
        by_cases hI0 : I = 0
        · subst hI0
          have c4 : a5.cell? ⟨g, 4, none⟩ = some (.int .i64 0) := by simp [World.cell?, HC.out.1, fmC]
          obtain ⟨B9, hB9⟩ : ∃ B9, B9 = true := ⟨_, rfl⟩
          have T9 : Hid (Fm g S B9 (b3L (restF 91 l)) [0, ((mnI (b2L (restF 91 l)) : Nat) : Int), ((numN 2 0 (restF 91 l) : Nat) : Int), 0, 0, 0, 0] 0 false ((a5.setCell ⟨g, 2, none⟩ (.bool true)).setCell ⟨g, 1, none⟩ (.int .i64 ((p : Int) + 3))) ∧ Only g w ((a5.setCell ⟨g, 2, none⟩ (.bool true)).setCell ⟨g, 1, none⟩ (.int .i64 ((p : Int) + 3)))) := Hid.mk' (by
            rw [hB9]
            have q1 := only_set (o := 2) a5 (.bool true) HC.out.1
            have q2 : (a5.setCell ⟨g, 2, none⟩ (.bool true)).heap[g]? = some (.cells (fmC S p true d0 ((0 : Nat) : Int) d2 d3 d4 d5 d6 z' o').toArray 48 (0, 0)) := by simpa [fmC] using q1.2
            have q3 := only_set (o := 1) _ (.int .i64 ((p : Int) + 3)) q2
            exact ⟨⟨p + 3, d0, ((0 : Nat) : Int), d2, d3, d4, d5, d6, z', o', K.out.1, by simpa [fmC] using q3.2, fun e => by cases e⟩, (HC.out.2.trans q1.1).trans q3.1⟩)
          have HB9 : Hid (B9 = (!hasF 91 l || numB 2 (restF 91 l) || !hasF 47 (b1L (restF 91 l)) || mnB (b2L (restF 91 l)))) := Hid.mk' (by
            rw [hB9]; unfold mnB; rw [HI.out]; simp)
          clear HI HB2 K hB9
          go_wp2_with fail
          have U9 := Hid.mk' T9.out.2
          replace T9 := Hid.mk' T9.out.1
          generalize ((a5.setCell _ _).setCell _ _) = a9 at *
          clear HC HL HD c0 c1 c2 f1 f2 c4
          refine (fmust1 g 47 _ S _ _ _ _ _ _ T9.out HS.out (by decide) (by decide)).mono ?_
          rintro e a20 ⟨rfl, ht, ho⟩
          have X20 := Hid.mk' ht
          have O20 := Hid.mk' (U9.out.trans ho)
          clear ht ho T9 U9
          go_wp2_with fail
          refine (fnumber_any g 4 S _ _ _ _ _ _ X20.out HS.out (by decide) (by decide)).mono ?_
          rintro e a21 ⟨⟨v21, rfl, hvb, hv⟩, ht, ho⟩
          have X21 := Hid.mk' ht
          have O21 := Hid.mk' (O20.out.trans ho)
          have V21 := Hid.mk' hv
          obtain ⟨u21, cu, fu⟩ := X21.out.cell 3 (by decide)
          clear ht ho hv hvb X20 O20
          go_wp2_with fail
          have q21 := X21.out.set 0 (by decide) (v21 : Int) ((numN 4 0 (restF 47 (b3L (restF 91 l))) : Nat) : Int) (fun e => by rw [V21.out e])
          have Y21 := Hid.mk' q21.1
          have P21 := Hid.mk' (O21.out.trans q21.2)
          clear X21 O21 V21 q21 cu fu
          generalize (a21.setCell _ _) = b21 at *
          refine (fmust1 g 58 _ S _ _ _ _ _ _ Y21.out HS.out (by decide) (by decide)).mono ?_
          rintro e a22 ⟨rfl, ht, ho⟩
          have X22 := Hid.mk' ht
          have O22 := Hid.mk' (P21.out.trans ho)
          clear ht ho Y21 P21
          go_wp2_with fail
          refine (fclock_any g S _ _ _ _ _ _ X22.out HS.out).mono ?_
          rintro e a23 ⟨rfl, ht, ho⟩
          have X23 := Hid.mk' ht
          have O23 := Hid.mk' (O22.out.trans ho)
          clear ht ho X22 O22
          go_wp2_with fail
          refine (fmust1 g 32 _ S _ _ _ _ _ _ X23.out HS.out (by decide) (by decide)).mono ?_
          rintro e a24 ⟨rfl, ht, ho⟩
          have X24 := Hid.mk' ht
          have O24 := Hid.mk' (O23.out.trans ho)
          clear ht ho X23 O23
          go_wp2_with fail
          obtain ⟨B8, hB8⟩ : ∃ B8, (B9 || !hasF 47 (b3L (restF 91 l)) || numB 4 (b4L (restF 91 l)) || !hasF 58 (b5L (restF 91 l)) || secB (b6L (restF 91 l)) || !hasF 32 (b7L (restF 91 l))) = B8 := ⟨_, rfl⟩
          have X8 : Hid (Fm g S B8 (b8L (restF 91 l)) [((numN 4 0 (b4L (restF 91 l)) : Nat) : Int), ((mnI (b2L (restF 91 l)) : Nat) : Int), ((numN 2 0 (restF 91 l) : Nat) : Int), ((sec0 (b6L (restF 91 l)) : Nat) : Int), ((sec1 (b6L (restF 91 l)) : Nat) : Int), ((sec2 (b6L (restF 91 l)) : Nat) : Int), 0] 0 false a24) := Hid.mk' (by rw [← hB8]; exact X24.out)
          have HB8 := Hid.mk' hB8
          clear X24 hB8
          refine (fis1 g 45 _ S _ _ _ _ _ _ X8.out HS.out (by decide) (by decide)).mono ?_
          rintro e a25 ⟨rfl, ht, ho⟩
          have O25 := Hid.mk' (O24.out.trans ho)
          have X25 := Hid.mk' ht
          clear ht ho X8 O24
          cases hless : (!B8 && hasF 45 (b8L (restF 91 l)))
          · have HB : Hid (B8 = true ∨ (B8 = false ∧ hasF 45 (b8L (restF 91 l)) = false)) := Hid.mk' (by cases hb : B8 <;> simp_all)
            clear hless
            go_wp2_with fail
            refine (fmust1 g 43 _ S _ _ _ _ _ _ X25.out HS.out (by decide) (by decide)).mono ?_
            rintro e a26 ⟨rfl, ht, ho⟩
            have O26 := Hid.mk' (O25.out.trans ho)
            have X26 := Hid.mk' ht
            clear ht ho X25 O25
            go_wp2_with fail
            refine (fshift_n g S _ _ _ _ _ false _ X26.out HS.out).mono ?_
            rintro e a27 ⟨rfl, ht, ho⟩
            have O27 := Hid.mk' (O26.out.trans ho)
            have X27 := Hid.mk' ht
            clear ht ho X26 O26
            go_wp2_with fail
            refine (fmust1 g 93 _ S _ _ _ _ _ _ X27.out HS.out (by decide) (by decide)).mono ?_
            rintro e a28 ⟨rfl, ht, ho⟩
            have O28 := Hid.mk' (O27.out.trans ho)
            have X28 := Hid.mk' ht
            clear ht ho X27 O27
            go_wp2_with fail
            go_end0
            refine ⟨rfl, ?_, O28.out⟩
            rcases HB.out with e | ⟨e, e2⟩
            · refine X28.out.at_bad (by rw [e]; rfl) ?_
              have := HB8.out
              rw [e] at this
              exact br_bad this HB9.out
            · have hr := restF_not e2
              have hpm : pmL (b8L (restF 91 l)) = restF 43 (b8L (restF 91 l)) ∧ pmV (b8L (restF 91 l)) = sgn false ∧ pmB (b8L (restF 91 l)) = !hasF 43 (b8L (restF 91 l)) := by unfold pmL pmV pmB sgn; rw [e2]; exact ⟨rfl, rfl, rfl⟩
              have x := X28.out
              rw [hr] at x
              have h8 := HB8.out
              rw [e] at h8
              exact br_fin h8 HB9.out hpm.1 hpm.2.1 hpm.2.2 e x
          · obtain ⟨e, e2⟩ : B8 = false ∧ hasF 45 (b8L (restF 91 l)) = true := by simpa using hless
            have HE := Hid.mk' (And.intro e e2)
            clear hless e e2
            go_wp2_with fail
            refine (fshift_n g S _ _ _ _ _ true _ X25.out HS.out).mono ?_
            rintro e a27 ⟨rfl, ht, ho⟩
            have O27 := Hid.mk' (O25.out.trans ho)
            have X27 := Hid.mk' ht
            clear ht ho X25 O25
            go_wp2_with fail
            refine (fmust1 g 93 _ S _ _ _ _ _ _ X27.out HS.out (by decide) (by decide)).mono ?_
            rintro e a28 ⟨rfl, ht, ho⟩
            have O28 := Hid.mk' (O27.out.trans ho)
            have X28 := Hid.mk' ht
            clear ht ho X27 O27
            go_wp2_with fail
            go_end0
            refine ⟨rfl, ?_, O28.out⟩
            obtain ⟨e, e2⟩ := HE.out
            have hpm : pmL (b8L (restF 91 l)) = restF 45 (b8L (restF 91 l)) ∧ pmV (b8L (restF 91 l)) = sgn true ∧ pmB (b8L (restF 91 l)) = false := by unfold pmL pmV pmB sgn; rw [e2]; exact ⟨rfl, rfl, rfl⟩
            have x := X28.out
            have h8 := HB8.out
            rw [e] at h8
            refine br_fin (k := true) h8 HB9.out hpm.1 hpm.2.1 hpm.2.2 e ?_
            simpa using x
        · have c4 : a5.cell? ⟨g, 4, none⟩ = some (.int .i64 (I : Int)) := by simp [World.cell?, HC.out.1, fmC]
          have hI1 : ¬ (I : Int) = 0 := by omega
          have hI2 : ((I : Int) == 0) = false := by simp; omega
          obtain ⟨B9, hB9⟩ : ∃ B9, B9 = false := ⟨_, rfl⟩
          have T9 : Hid (Fm g S B9 (b3L (restF 91 l)) [0, ((mnI (b2L (restF 91 l)) : Nat) : Int), ((numN 2 0 (restF 91 l) : Nat) : Int), 0, 0, 0, 0] 0 false (a5.setCell ⟨g, 1, none⟩ (.int .i64 ((p : Int) + 3))) ∧ Only g w (a5.setCell ⟨g, 1, none⟩ (.int .i64 ((p : Int) + 3)))) := Hid.mk' (by
            rw [hB9]
            have q3 := only_set (o := 1) a5 (.int .i64 ((p : Int) + 3)) HC.out.1
            obtain ⟨e1, e2, e3⟩ := HD.out
            simp only [List.cons.injEq, and_true] at e1
            obtain ⟨r0, r1, r2, r3, r4, r5, r6⟩ := e1
            refine ⟨⟨p + 3, d0, (I : Int), d2, d3, d4, d5, d6, z', o', K.out.1, by simpa [fmC] using q3.2, fun _ => ⟨?_, by rw [HI.out, ← r0, ← r2, ← r3, ← r4, ← r5, ← r6], e2, e3⟩⟩, HC.out.2.trans q3.1⟩
            rw [K.out.2]
            unfold b3L mnL
            rw [HI.out, if_neg hI0])
          have HB9 : Hid (B9 = (!hasF 91 l || numB 2 (restF 91 l) || !hasF 47 (b1L (restF 91 l)) || mnB (b2L (restF 91 l)))) := Hid.mk' (by
            rw [hB9, HB2.out]; unfold mnB; rw [HI.out]; simp [hI0])
          clear HI HB2 K hB9 hI0
          go_wp2_with fail
          have U9 := Hid.mk' T9.out.2
          replace T9 := Hid.mk' T9.out.1
          generalize (a5.setCell _ _) = a9 at *
          clear HC HL HD c0 c1 c2 f1 f2 c4
          refine (fmust1 g 47 _ S _ _ _ _ _ _ T9.out HS.out (by decide) (by decide)).mono ?_
          rintro e a20 ⟨rfl, ht, ho⟩
          have X20 := Hid.mk' ht
          have O20 := Hid.mk' (U9.out.trans ho)
          clear ht ho T9 U9
          go_wp2_with fail
          refine (fnumber_any g 4 S _ _ _ _ _ _ X20.out HS.out (by decide) (by decide)).mono ?_
          rintro e a21 ⟨⟨v21, rfl, hvb, hv⟩, ht, ho⟩
          have X21 := Hid.mk' ht
          have O21 := Hid.mk' (O20.out.trans ho)
          have V21 := Hid.mk' hv
          obtain ⟨u21, cu, fu⟩ := X21.out.cell 3 (by decide)
          clear ht ho hv hvb X20 O20
          go_wp2_with fail
          have q21 := X21.out.set 0 (by decide) (v21 : Int) ((numN 4 0 (restF 47 (b3L (restF 91 l))) : Nat) : Int) (fun e => by rw [V21.out e])
          have Y21 := Hid.mk' q21.1
          have P21 := Hid.mk' (O21.out.trans q21.2)
          clear X21 O21 V21 q21 cu fu
          generalize (a21.setCell _ _) = b21 at *
          refine (fmust1 g 58 _ S _ _ _ _ _ _ Y21.out HS.out (by decide) (by decide)).mono ?_
          rintro e a22 ⟨rfl, ht, ho⟩
          have X22 := Hid.mk' ht
          have O22 := Hid.mk' (P21.out.trans ho)
          clear ht ho Y21 P21
          go_wp2_with fail
          refine (fclock_any g S _ _ _ _ _ _ X22.out HS.out).mono ?_
          rintro e a23 ⟨rfl, ht, ho⟩
          have X23 := Hid.mk' ht
          have O23 := Hid.mk' (O22.out.trans ho)
          clear ht ho X22 O22
          go_wp2_with fail
          refine (fmust1 g 32 _ S _ _ _ _ _ _ X23.out HS.out (by decide) (by decide)).mono ?_
          rintro e a24 ⟨rfl, ht, ho⟩
          have X24 := Hid.mk' ht
          have O24 := Hid.mk' (O23.out.trans ho)
          clear ht ho X23 O23
          go_wp2_with fail
          obtain ⟨B8, hB8⟩ : ∃ B8, (B9 || !hasF 47 (b3L (restF 91 l)) || numB 4 (b4L (restF 91 l)) || !hasF 58 (b5L (restF 91 l)) || secB (b6L (restF 91 l)) || !hasF 32 (b7L (restF 91 l))) = B8 := ⟨_, rfl⟩
          have X8 : Hid (Fm g S B8 (b8L (restF 91 l)) [((numN 4 0 (b4L (restF 91 l)) : Nat) : Int), ((mnI (b2L (restF 91 l)) : Nat) : Int), ((numN 2 0 (restF 91 l) : Nat) : Int), ((sec0 (b6L (restF 91 l)) : Nat) : Int), ((sec1 (b6L (restF 91 l)) : Nat) : Int), ((sec2 (b6L (restF 91 l)) : Nat) : Int), 0] 0 false a24) := Hid.mk' (by rw [← hB8]; exact X24.out)
          have HB8 := Hid.mk' hB8
          clear X24 hB8
          refine (fis1 g 45 _ S _ _ _ _ _ _ X8.out HS.out (by decide) (by decide)).mono ?_
          rintro e a25 ⟨rfl, ht, ho⟩
          have O25 := Hid.mk' (O24.out.trans ho)
          have X25 := Hid.mk' ht
          clear ht ho X8 O24
          cases hless : (!B8 && hasF 45 (b8L (restF 91 l)))
          · have HB : Hid (B8 = true ∨ (B8 = false ∧ hasF 45 (b8L (restF 91 l)) = false)) := Hid.mk' (by cases hb : B8 <;> simp_all)
            clear hless
            go_wp2_with fail
            refine (fmust1 g 43 _ S _ _ _ _ _ _ X25.out HS.out (by decide) (by decide)).mono ?_
            rintro e a26 ⟨rfl, ht, ho⟩
            have O26 := Hid.mk' (O25.out.trans ho)
            have X26 := Hid.mk' ht
            clear ht ho X25 O25
            go_wp2_with fail
            refine (fshift_n g S _ _ _ _ _ false _ X26.out HS.out).mono ?_
            rintro e a27 ⟨rfl, ht, ho⟩
            have O27 := Hid.mk' (O26.out.trans ho)
            have X27 := Hid.mk' ht
            clear ht ho X26 O26
            go_wp2_with fail
            refine (fmust1 g 93 _ S _ _ _ _ _ _ X27.out HS.out (by decide) (by decide)).mono ?_
            rintro e a28 ⟨rfl, ht, ho⟩
            have O28 := Hid.mk' (O27.out.trans ho)
            have X28 := Hid.mk' ht
            clear ht ho X27 O27
            go_wp2_with fail
            go_end0
            refine ⟨rfl, ?_, O28.out⟩
            rcases HB.out with e | ⟨e, e2⟩
            · refine X28.out.at_bad (by rw [e]; rfl) ?_
              have := HB8.out
              rw [e] at this
              exact br_bad this HB9.out
            · have hr := restF_not e2
              have hpm : pmL (b8L (restF 91 l)) = restF 43 (b8L (restF 91 l)) ∧ pmV (b8L (restF 91 l)) = sgn false ∧ pmB (b8L (restF 91 l)) = !hasF 43 (b8L (restF 91 l)) := by unfold pmL pmV pmB sgn; rw [e2]; exact ⟨rfl, rfl, rfl⟩
              have x := X28.out
              rw [hr] at x
              have h8 := HB8.out
              rw [e] at h8
              exact br_fin h8 HB9.out hpm.1 hpm.2.1 hpm.2.2 e x
          · obtain ⟨e, e2⟩ : B8 = false ∧ hasF 45 (b8L (restF 91 l)) = true := by simpa using hless
            have HE := Hid.mk' (And.intro e e2)
            clear hless e e2
            go_wp2_with fail
            refine (fshift_n g S _ _ _ _ _ true _ X25.out HS.out).mono ?_
            rintro e a27 ⟨rfl, ht, ho⟩
            have O27 := Hid.mk' (O25.out.trans ho)
            have X27 := Hid.mk' ht
            clear ht ho X25 O25
            go_wp2_with fail
            refine (fmust1 g 93 _ S _ _ _ _ _ _ X27.out HS.out (by decide) (by decide)).mono ?_
            rintro e a28 ⟨rfl, ht, ho⟩
            have O28 := Hid.mk' (O27.out.trans ho)
            have X28 := Hid.mk' ht
            clear ht ho X27 O27
            go_wp2_with fail
            go_end0
            refine ⟨rfl, ?_, O28.out⟩
            obtain ⟨e, e2⟩ := HE.out
            have hpm : pmL (b8L (restF 91 l)) = restF 45 (b8L (restF 91 l)) ∧ pmV (b8L (restF 91 l)) = sgn true ∧ pmB (b8L (restF 91 l)) = false := by unfold pmL pmV pmB sgn; rw [e2]; exact ⟨rfl, rfl, rfl⟩
            have x := X28.out
            have h8 := HB8.out
            rw [e] at h8
            refine br_fin (k := true) h8 HB9.out hpm.1 hpm.2.1 hpm.2.2 e ?_
            simpa using x
    · have t1 : (S.size : Int) < (p : Int) + 3 := by
        have := congrArg List.length hl
        rw [List.length_drop, Sums.bl_length] at this
        omega
      have t2 : decide ((S.size : Int) < (p : Int) + 3) = true := by simp; omega
      have t3 : S.size < p + 3 := by omega
      have t4 : decide (S.size < p + 3) = true := by simp; omega
      have hpb : (p : Int) ≤ 1152921504606846976 := by omega
      have HT : Hid ((!hasF 91 l || brB (restF 91 l)) = true) := Hid.mk' (by
        have : mnB (b2L (restF 91 l)) = true := by unfold mnB; rw [month_short (by omega)]; rfl
        unfold brB
        rw [this]
        simp)
      have HP := Hid.mk' hp
      clear hg hb hp hl h3 x2 O2
      go_wp2_with fail
      go_quiet (fail)
      have H3 := Hid.mk' (HQ.out nq)
      generalize a2.drewN nq = a3 at H3 ⊢
      clear c0 c1 c2 f1 f2 HQ
      obtain ⟨c0, c1, c2, f1, f2⟩ := FmAt.of H3.out.1
      go_wp2_with fail
      first
        | go_end0
        | refine bodyPost_ret (results_none rfl _ _ _) rfl ?_
      have hq := only_set (o := 2) a3 (.bool true) H3.out.1
      refine ⟨rfl, ?_, H3.out.2.1.trans hq.1⟩
      rw [HT.out]
      exact ⟨p, d0, d1, d2, d3, d4, d5, d6, z', o', HP.out, by simpa [fmC] using hq.2, fun e => by cases e⟩
  · have HT : Hid ((!hasF 91 l || brB (restF 91 l)) = true) := Hid.mk' (by
      have h := HB2.out
      unfold brB
      simp only [Bool.or_eq_true] at h ⊢
      rcases h with (h | h) | h <;> simp [h])
    have HP := Hid.mk' hp
    clear hg hb hp x2 O2
    go_wp2_with fail
    go_quiet (fail)
    have H3 := Hid.mk' (HQ.out nq)
    generalize a2.drewN nq = a3 at H3 ⊢
    clear c0 c1 c2 f1 f2 HQ
    obtain ⟨c0, c1, c2, f1, f2⟩ := FmAt.of H3.out.1
    go_wp2_with fail
    first
      | go_end0
      | refine bodyPost_ret (results_none rfl _ _ _) rfl ?_
    have hq := only_set (o := 2) a3 (.bool true) H3.out.1
    refine ⟨rfl, ?_, H3.out.2.1.trans hq.1⟩
    rw [HT.out]
    exact ⟨p, d0, d1, d2, d3, d4, d5, d6, z', o', HP.out, by simpa [fmC] using hq.2, fun e => by cases e⟩
end Go.Proofs.YthmpokndffbkdaaGreatDoor
