/-
  moment: the taker: dated. Conditions: the taker lies in a block of its own.
-/
import Derived.Test.YthmpokndffbkdaaDoorMoQ
namespace Go.Proofs.YthmpokndffbkdaaDoor
open Go.RowKit
set_option linter.unusedVariables false
def dt2 (l : List Nat) : List Nat := if hasF 84 (dayL l) = true then restF 84 (dayL l) else restF 32 (dayL l)
def dt3 (l : List Nat) : List Nat := timL (dt2 l)
def dtL (l : List Nat) : List Nat := if endF (dt3 l) = true then dt3 l else zonL (dt3 l)
def dtB (l : List Nat) : Bool := dayB l || (!hasF 84 (dayL l) && !hasF 32 (dayL l)) || timB (dt2 l) || (!endF (dt3 l) && zonB (dt3 l))
def dtS (l : List Nat) : Int := if endF (dt3 l) = true then 0 else zonS (dt3 l)
def dtH (l : List Nat) : Nat := if endF (dt3 l) = true then 0 else zonH (dt3 l)
def dtM (l : List Nat) : Nat := if endF (dt3 l) = true then 0 else zonM (dt3 l)
def dtR (l : List Nat) : Ending := stR (day0 l) (day1 l) (day2 l) (sec0 (dt2 l)) (sec1 (dt2 l)) (sec2 (dt2 l)) (timMs (dt2 l)) (dtS l) (dtH l) (dtM l)
theorem dtS_is (l : List Nat) : dtS l = 0 ∨ dtS l = 1 ∨ dtS l = -1 := by
  unfold dtS; split
  · exact .inl rfl
  · exact zonS_is _
theorem dtH_le (l : List Nat) : dtH l ≤ 99 := by unfold dtH; split; omega; exact zonH_le _
theorem dtM_le (l : List Nat) : dtM l ≤ 99 := by unfold dtM; split; omega; exact zonM_le _
theorem Tk.below {g B : Nat} {l : List Nat} {b : Bool} {w w' : World} (h : Tk g l b w) (x : Below B w w') (hB : g < B) : Tk g l b w' := by
  obtain ⟨t, ht, hg⟩ := h.ex
  exact ⟨t, ht, (x.block g hB).trans hg⟩
theorem Only.below_trans {g B : Nat} {a b c : World} (x : Only g a b) (y : Below B b c) (hB : a.heap.size ≤ B) : Only g a c :=
  ⟨y.os.trans x.os, y.tape.trans x.tape, y.output.trans x.output, Nat.le_trans x.size y.size, fun k hk hg => (y.block k (by omega)).trans (x.block k hk hg)⟩
set_option maxRecDepth 100000 in
set_option maxHeartbeats 4000000 in
theorem dat_any (g : Nat) (l : List Nat) (b : Bool) (w : World) (h : Tk g l b w) :
    Calls Tryd.prog 71 #[.pointer (some ⟨g, 0, none⟩)] w fun e w' => e = dtR l ∧ Tk g (dtL l) (b || dtB l) w' ∧ Only g w w' := by
  have HST := Hid.mk' (fun w => stamp_any (day0 l) (day1 l) (day2 l) (sec0 (dt2 l)) (sec1 (dt2 l)) (sec2 (dt2 l)) (timMs (dt2 l)) (dtS l) (dtH l) (dtM l) w (dtS_is _) (dtH_le _) (dtM_le _))
  have HDR : Hid (dtR l = stR (day0 l) (day1 l) (day2 l) (sec0 (dt2 l)) (sec1 (dt2 l)) (sec2 (dt2 l)) (timMs (dt2 l)) (dtS l) (dtH l) (dtM l)) := rfl
  have hlt := h.lt
  have HK := Hid.mk' h
  clear h
  go_enter Tryd.func71, Tryd.ntmps71
  go_wp2_with fail
  have HX : Hid (Tm g w.heap.size 76 l b (toldL 0 0 0 0 0 0 0 0 0 0) (w.alloc (.cells #[.int .i64 0, .int .i64 0, .int .i64 0, .int .i64 0, .int .i64 0, .int .i64 0, .int .i64 0, .int .i64 0, .int .i64 0, .int .i64 0] 76)) (w.alloc (.cells #[.int .i64 0, .int .i64 0, .int .i64 0, .int .i64 0, .int .i64 0, .int .i64 0, .int .i64 0, .int .i64 0, .int .i64 0, .int .i64 0] 76))) := ⟨HK.out.alloc _, heap_alloc_new w _, Only2.refl _ _ _, by omega⟩
  have HO := Hid.mk' ((Only.refl g w).alloc (.cells #[.int .i64 0, .int .i64 0, .int .i64 0, .int .i64 0, .int .i64 0, .int .i64 0, .int .i64 0, .int .i64 0, .int .i64 0, .int .i64 0] 76))
  generalize (w.alloc _) = W0 at *
  clear HK
  refine (day_any g w.heap.size _ _ _ _ _ _ HX.out (by decide)).mono ?_
  rintro e W1 ⟨rfl, x⟩
  have X1 := Hid.mk' x
  clear x HX
  go_wp2_with fail
  refine (has_any g 84 _ _ _ X1.out.tk).mono ?_
  rintro e W2 ⟨rfl, ht, ho⟩
  have x2 := X1.out.call ht ho
  clear ht ho X1
  cases hT : hasF 84 (dayL l)
  · rw [restF_not hT] at x2
    have X2 := Hid.mk' x2
    have e2 : restF 32 (dayL l) = dt2 l := by unfold dt2; rw [hT]; rfl
    have eb : (b || dayB l || !hasF 32 (dayL l)) = (b || (dayB l || (!hasF 84 (dayL l) && !hasF 32 (dayL l)))) := by rw [hT]; simp [Bool.or_assoc]
    clear x2
    have HT := Hid.mk' hT
    clear hT
    go_wp2_with fail
    refine (sign_any g 32 _ _ _ X2.out.tk).mono ?_
    rintro e W3 ⟨rfl, ht, ho⟩
    have x3 := X2.out.call ht ho
    clear ht ho X2
    rw [e2, eb] at x3
    have X3 := Hid.mk' x3
    clear x3 e2 eb
    go_wp2_with fail
    refine (tim_any g w.heap.size _ _ _ _ _ _ X3.out (by simp [toldL])).mono ?_
    rintro e W4 ⟨rfl, x4⟩
    clear X3
    have e3 : timL (dt2 l) = dt3 l := rfl
    have hrow : timC (dt2 l) ((((((toldL 0 0 0 0 0 0 0 0 0 0).set 0 (.int .i64 ((day0 l : Nat) : Int))).set 1 (.int .i64 ((day1 l : Nat) : Int))).set 2 (.int .i64 ((day2 l : Nat) : Int))).set 3 (.int .i64 ((sec0 (dt2 l) : Nat) : Int))).set 4 (.int .i64 ((sec1 (dt2 l) : Nat) : Int)) |>.set 5 (.int .i64 ((sec2 (dt2 l) : Nat) : Int))) = toldL (day0 l) (day1 l) (day2 l) (sec0 (dt2 l)) (sec1 (dt2 l)) (sec2 (dt2 l)) (timMs (dt2 l)) 0 0 0 := toldL_tim (dt2 l) _ _ _ _ _ _ 0 0 0
    rw [e3, hrow] at x4
    have X4 := Hid.mk' x4
    clear x4 e3 hrow
    go_wp2_with fail
    refine (ended_any g _ _ _ X4.out.tk).mono ?_
    rintro e W5 ⟨rfl, hw5⟩
    have hw6 := hw5.symm
    subst hw6
    clear hw5
    cases hE : endF (dt3 l)
    · have HE := Hid.mk' hE
      clear hE
      go_wp2_with fail
      refine (zon_any g _ _ _ X4.out.tk).mono ?_
      rintro e W6 ⟨rfl, ht, ho⟩
      have X6 := Hid.mk' (X4.out.call ht ho)
      clear ht ho X4
      have hlen : (toldL (day0 l) (day1 l) (day2 l) (sec0 (dt2 l)) (sec1 (dt2 l)) (sec2 (dt2 l)) (timMs (dt2 l)) 0 0 0).length = 10 := rfl
      obtain ⟨u7, cu7, fu7⟩ := X6.out.cell (o := 7) (by rw [hlen]; decide)
      obtain ⟨u8, cu8, fu8⟩ := X6.out.cell (o := 8) (by rw [hlen]; decide)
      obtain ⟨u9, cu9, fu9⟩ := X6.out.cell (o := 9) (by rw [hlen]; decide)
      have x7 := ((X6.out.store 7 (.int .i64 (zonS (dt3 l)))).store 8 (.int .i64 ((zonH (dt3 l) : Nat) : Int))).store 9 (.int .i64 ((zonM (dt3 l) : Nat) : Int))
      change Tm g w.heap.size _ _ _ (toldL (day0 l) (day1 l) (day2 l) (sec0 (dt2 l)) (sec1 (dt2 l)) (sec2 (dt2 l)) (timMs (dt2 l)) (zonS (dt3 l)) (zonH (dt3 l)) (zonM (dt3 l))) W0 _ at x7
      have X7 := Hid.mk' x7
      have HR := Hid.mk' x7.row
      clear x7 hlen
      have es : zonS (dt3 l) = dtS l := by unfold dtS; rw [HE.out]; rfl
      have eh : zonH (dt3 l) = dtH l := by unfold dtH; rw [HE.out]; rfl
      have em : zonM (dt3 l) = dtM l := by unfold dtM; rw [HE.out]; rfl
      rw [es, eh, em] at X7 HR
      rw [es, eh, em]
      clear es eh em
      go_wp2_with (first | (refine wpList_load_row rfl 76 _ rfl w.heap.size rfl 76 _ _ _ HR.out Tryd.underlying76 rfl (sizeTold _ rfl) ?_) | fail)
      generalize (((W6.setCell _ _).setCell _ _).setCell _ _) = W7 at *
      refine (HST.out _).mono ?_
      rintro e W8 ⟨he8, hb8⟩
      obtain ⟨a, c, hac⟩ := stR_tup (day0 l) (day1 l) (day2 l) (sec0 (dt2 l)) (sec1 (dt2 l)) (sec2 (dt2 l)) (timMs (dt2 l)) (dtS l) (dtH l) (dtM l)
      have HAC : Hid (dtR l = .returned (.tuple #[.int .i64 a, .int .i64 c])) := HDR.out.trans hac
      rw [hac] at he8
      subst he8
      have HT8 := Hid.mk' (X7.out.tk.below hb8 X7.out.tk.lt)
      have HO8 := Hid.mk' ((X7.out.kept.one w HO.out (Nat.le_refl _)).below_trans hb8 (Nat.le_trans HO.out.size X7.out.kept.size))
      clear hac hb8 X7 HST HDR
      go_wp2_with fail
      go_ret2
      refine ⟨HAC.out.symm, ?_, HO8.out⟩
      have := HT8.out
      unfold dtL dtB
      rw [HE.out]
      simpa [Bool.or_assoc] using this
    · have HE := Hid.mk' hE
      clear hE
      have X7 := X4
      have es : (0 : Int) = dtS l := by unfold dtS; rw [HE.out]; rfl
      have eh : 0 = dtH l := by unfold dtH; rw [HE.out]; rfl
      have em : 0 = dtM l := by unfold dtM; rw [HE.out]; rfl
      have HR := Hid.mk' X7.out.row
      rw [← es, ← eh, ← em] at HST HDR
      clear es eh em
      go_wp2_with (first | (refine wpList_load_row rfl 76 _ rfl w.heap.size rfl 76 _ _ _ HR.out Tryd.underlying76 rfl (sizeTold _ rfl) ?_) | fail)
      generalize W4 = W7 at *
      refine (HST.out _).mono ?_
      rintro e W8 ⟨he8, hb8⟩
      obtain ⟨a, c, hac⟩ := stR_tup (day0 l) (day1 l) (day2 l) (sec0 (dt2 l)) (sec1 (dt2 l)) (sec2 (dt2 l)) (timMs (dt2 l)) 0 0 0
      have HAC : Hid (dtR l = .returned (.tuple #[.int .i64 a, .int .i64 c])) := HDR.out.trans hac
      rw [hac] at he8
      subst he8
      have HT8 := Hid.mk' (X7.out.tk.below hb8 X7.out.tk.lt)
      have HO8 := Hid.mk' ((X7.out.kept.one w HO.out (Nat.le_refl _)).below_trans hb8 (Nat.le_trans HO.out.size X7.out.kept.size))
      clear hac hb8 X7 HST HDR
      go_wp2_with fail
      go_ret2
      refine ⟨HAC.out.symm, ?_, HO8.out⟩
      have := HT8.out
      unfold dtL dtB
      rw [HE.out]
      simpa [Bool.or_assoc] using this
  · have e2 : restF 84 (dayL l) = dt2 l := by unfold dt2; rw [hT]; rfl
    have eb : (b || dayB l) = (b || (dayB l || (!hasF 84 (dayL l) && !hasF 32 (dayL l)))) := by rw [hT]; simp
    rw [e2, eb] at x2
    have X3 := Hid.mk' x2
    have HT := Hid.mk' hT
    clear x2 e2 eb hT
    go_wp2_with fail
    refine (tim_any g w.heap.size _ _ _ _ _ _ X3.out (by simp [toldL])).mono ?_
    rintro e W4 ⟨rfl, x4⟩
    clear X3
    have e3 : timL (dt2 l) = dt3 l := rfl
    have hrow : timC (dt2 l) ((((((toldL 0 0 0 0 0 0 0 0 0 0).set 0 (.int .i64 ((day0 l : Nat) : Int))).set 1 (.int .i64 ((day1 l : Nat) : Int))).set 2 (.int .i64 ((day2 l : Nat) : Int))).set 3 (.int .i64 ((sec0 (dt2 l) : Nat) : Int))).set 4 (.int .i64 ((sec1 (dt2 l) : Nat) : Int)) |>.set 5 (.int .i64 ((sec2 (dt2 l) : Nat) : Int))) = toldL (day0 l) (day1 l) (day2 l) (sec0 (dt2 l)) (sec1 (dt2 l)) (sec2 (dt2 l)) (timMs (dt2 l)) 0 0 0 := toldL_tim (dt2 l) _ _ _ _ _ _ 0 0 0
    rw [e3, hrow] at x4
    have X4 := Hid.mk' x4
    clear x4 e3 hrow
    go_wp2_with fail
    refine (ended_any g _ _ _ X4.out.tk).mono ?_
    rintro e W5 ⟨rfl, hw5⟩
    have hw6 := hw5.symm
    subst hw6
    clear hw5
    cases hE : endF (dt3 l)
    · have HE := Hid.mk' hE
      clear hE
      go_wp2_with fail
      refine (zon_any g _ _ _ X4.out.tk).mono ?_
      rintro e W6 ⟨rfl, ht, ho⟩
      have X6 := Hid.mk' (X4.out.call ht ho)
      clear ht ho X4
      have hlen : (toldL (day0 l) (day1 l) (day2 l) (sec0 (dt2 l)) (sec1 (dt2 l)) (sec2 (dt2 l)) (timMs (dt2 l)) 0 0 0).length = 10 := rfl
      obtain ⟨u7, cu7, fu7⟩ := X6.out.cell (o := 7) (by rw [hlen]; decide)
      obtain ⟨u8, cu8, fu8⟩ := X6.out.cell (o := 8) (by rw [hlen]; decide)
      obtain ⟨u9, cu9, fu9⟩ := X6.out.cell (o := 9) (by rw [hlen]; decide)
      have x7 := ((X6.out.store 7 (.int .i64 (zonS (dt3 l)))).store 8 (.int .i64 ((zonH (dt3 l) : Nat) : Int))).store 9 (.int .i64 ((zonM (dt3 l) : Nat) : Int))
      change Tm g w.heap.size _ _ _ (toldL (day0 l) (day1 l) (day2 l) (sec0 (dt2 l)) (sec1 (dt2 l)) (sec2 (dt2 l)) (timMs (dt2 l)) (zonS (dt3 l)) (zonH (dt3 l)) (zonM (dt3 l))) W0 _ at x7
      have X7 := Hid.mk' x7
      have HR := Hid.mk' x7.row
      clear x7 hlen
      have es : zonS (dt3 l) = dtS l := by unfold dtS; rw [HE.out]; rfl
      have eh : zonH (dt3 l) = dtH l := by unfold dtH; rw [HE.out]; rfl
      have em : zonM (dt3 l) = dtM l := by unfold dtM; rw [HE.out]; rfl
      rw [es, eh, em] at X7 HR
      rw [es, eh, em]
      clear es eh em
      go_wp2_with (first | (refine wpList_load_row rfl 76 _ rfl w.heap.size rfl 76 _ _ _ HR.out Tryd.underlying76 rfl (sizeTold _ rfl) ?_) | fail)
      generalize (((W6.setCell _ _).setCell _ _).setCell _ _) = W7 at *
      refine (HST.out _).mono ?_
      rintro e W8 ⟨he8, hb8⟩
      obtain ⟨a, c, hac⟩ := stR_tup (day0 l) (day1 l) (day2 l) (sec0 (dt2 l)) (sec1 (dt2 l)) (sec2 (dt2 l)) (timMs (dt2 l)) (dtS l) (dtH l) (dtM l)
      have HAC : Hid (dtR l = .returned (.tuple #[.int .i64 a, .int .i64 c])) := HDR.out.trans hac
      rw [hac] at he8
      subst he8
      have HT8 := Hid.mk' (X7.out.tk.below hb8 X7.out.tk.lt)
      have HO8 := Hid.mk' ((X7.out.kept.one w HO.out (Nat.le_refl _)).below_trans hb8 (Nat.le_trans HO.out.size X7.out.kept.size))
      clear hac hb8 X7 HST HDR
      go_wp2_with fail
      go_ret2
      refine ⟨HAC.out.symm, ?_, HO8.out⟩
      have := HT8.out
      unfold dtL dtB
      rw [HE.out]
      simpa [Bool.or_assoc] using this
    · have HE := Hid.mk' hE
      clear hE
      have X7 := X4
      have es : (0 : Int) = dtS l := by unfold dtS; rw [HE.out]; rfl
      have eh : 0 = dtH l := by unfold dtH; rw [HE.out]; rfl
      have em : 0 = dtM l := by unfold dtM; rw [HE.out]; rfl
      have HR := Hid.mk' X7.out.row
      rw [← es, ← eh, ← em] at HST HDR
      clear es eh em
      go_wp2_with (first | (refine wpList_load_row rfl 76 _ rfl w.heap.size rfl 76 _ _ _ HR.out Tryd.underlying76 rfl (sizeTold _ rfl) ?_) | fail)
      generalize W4 = W7 at *
      refine (HST.out _).mono ?_
      rintro e W8 ⟨he8, hb8⟩
      obtain ⟨a, c, hac⟩ := stR_tup (day0 l) (day1 l) (day2 l) (sec0 (dt2 l)) (sec1 (dt2 l)) (sec2 (dt2 l)) (timMs (dt2 l)) 0 0 0
      have HAC : Hid (dtR l = .returned (.tuple #[.int .i64 a, .int .i64 c])) := HDR.out.trans hac
      rw [hac] at he8
      subst he8
      have HT8 := Hid.mk' (X7.out.tk.below hb8 X7.out.tk.lt)
      have HO8 := Hid.mk' ((X7.out.kept.one w HO.out (Nat.le_refl _)).below_trans hb8 (Nat.le_trans HO.out.size X7.out.kept.size))
      clear hac hb8 X7 HST HDR
      go_wp2_with fail
      go_ret2
      refine ⟨HAC.out.symm, ?_, HO8.out⟩
      have := HT8.out
      unfold dtL dtB
      rw [HE.out]
      simpa [Bool.or_assoc] using this
end Go.Proofs.YthmpokndffbkdaaDoor
