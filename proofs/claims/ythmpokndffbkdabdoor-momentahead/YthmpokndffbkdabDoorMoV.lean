/-
  moment: the taker: bracket. Conditions: the taker lies in a block of its own; the table of names lies as the program lays it.
-/
import Derived.Test.YthmpokndffbkdabDoorMoU
namespace Go.Proofs.YthmpokndffbkdabDoor
open Go.RowKit
set_option linter.unusedVariables false
def b1L (l : List Nat) : List Nat := numL 2 l
def b2L (l : List Nat) : List Nat := restF 47 (b1L l)
def b3L (l : List Nat) : List Nat := mnL (b2L l)
def b4L (l : List Nat) : List Nat := restF 47 (b3L l)
def b5L (l : List Nat) : List Nat := numL 4 (b4L l)
def b6L (l : List Nat) : List Nat := restF 58 (b5L l)
def b7L (l : List Nat) : List Nat := secL (b6L l)
def b8L (l : List Nat) : List Nat := restF 32 (b7L l)
def b9L (l : List Nat) : List Nat := pmL (b8L l)
def b10L (l : List Nat) : List Nat := numL 2 (b9L l)
def b11L (l : List Nat) : List Nat := numL 2 (b10L l)
def brL (l : List Nat) : List Nat := restF 93 (b11L l)
def brB (l : List Nat) : Bool := numB 2 l || !hasF 47 (b1L l) || mnB (b2L l) || !hasF 47 (b3L l) || numB 4 (b4L l) || !hasF 58 (b5L l) || secB (b6L l) || !hasF 32 (b7L l) || pmB (b8L l) || numB 2 (b9L l) || numB 2 (b10L l) || !hasF 93 (b11L l)
def brR (l : List Nat) : Ending := stR (numN 4 0 (b4L l)) (mnI (b2L l)) (numN 2 0 l) (sec0 (b6L l)) (sec1 (b6L l)) (sec2 (b6L l)) 0 (pmV (b8L l)) (numN 2 0 (b9L l)) (numN 2 0 (b10L l))
theorem pmV_is (l : List Nat) : pmV l = 0 ∨ pmV l = 1 ∨ pmV l = -1 := by
  unfold pmV; split
  · exact .inr (.inr rfl)
  · exact .inr (.inl rfl)
theorem MnT.only2 {g h : Nat} {a b : World} (k : MnT a) (hb : Only2 g h a b) (hg : g ≠ 1) (hh : h ≠ 1) : MnT b := by
  obtain ⟨t, f, e⟩ := k.ex
  exact ⟨t, f, (hb.block 1 k.lt (fun e => hg e.symm) (fun e => hh e.symm)).trans e⟩
set_option maxRecDepth 100000 in
set_option maxHeartbeats 4000000 in
theorem bracket_any (g : Nat) (l : List Nat) (b : Bool) (w : World) (h : Tk g l b w) (hm : MnT w) (hg1 : g ≠ 1) :
    Calls Tryd.prog 42 #[.pointer (some ⟨g, 0, none⟩)] w fun e w' => e = brR l ∧ Tk g (brL l) (b || brB l) w' ∧ Only g w w' := by
  have HST := Hid.mk' (fun w => stamp_any (numN 4 0 (b4L l)) (mnI (b2L l)) (numN 2 0 l) (sec0 (b6L l)) (sec1 (b6L l)) (sec2 (b6L l)) 0 (pmV (b8L l)) (numN 2 0 (b9L l)) (numN 2 0 (b10L l)) w (pmV_is _) (num2_le _) (num2_le _))
  have HDR : Hid (brR l = stR (numN 4 0 (b4L l)) (mnI (b2L l)) (numN 2 0 l) (sec0 (b6L l)) (sec1 (b6L l)) (sec2 (b6L l)) 0 (pmV (b8L l)) (numN 2 0 (b9L l)) (numN 2 0 (b10L l))) := rfl
  have hlt := h.lt
  have HK := Hid.mk' h
  have hm1 := hm.lt
  have HMN : Hid (∀ o, MnT (w.alloc o)) := fun o => by
    obtain ⟨t, f, e⟩ := hm.ex
    exact ⟨t, f, (Below.heap_alloc w o 1 hm1).trans e⟩
  have HH1 : Hid (w.heap.size ≠ 1) := by show w.heap.size ≠ 1; omega
  have HG1 := Hid.mk' hg1
  clear h hm hm1 hg1
  go_enter Tryd.func42, Tryd.ntmps42
  go_wp2_with fail
  have HX : Hid (Tm g w.heap.size 56 l b (toldL 0 0 0 0 0 0 0 0 0 0) (w.alloc (.cells #[.int .i64 0, .int .i64 0, .int .i64 0, .int .i64 0, .int .i64 0, .int .i64 0, .int .i64 0, .int .i64 0, .int .i64 0, .int .i64 0] 56)) (w.alloc (.cells #[.int .i64 0, .int .i64 0, .int .i64 0, .int .i64 0, .int .i64 0, .int .i64 0, .int .i64 0, .int .i64 0, .int .i64 0, .int .i64 0] 56))) := ⟨HK.out.alloc _, heap_alloc_new w _, Only2.refl _ _ _, by omega⟩
  have HO := Hid.mk' ((Only.refl g w).alloc (.cells #[.int .i64 0, .int .i64 0, .int .i64 0, .int .i64 0, .int .i64 0, .int .i64 0, .int .i64 0, .int .i64 0, .int .i64 0, .int .i64 0] 56))
  have HMW := Hid.mk' (HMN.out (.cells #[.int .i64 0, .int .i64 0, .int .i64 0, .int .i64 0, .int .i64 0, .int .i64 0, .int .i64 0, .int .i64 0, .int .i64 0, .int .i64 0] 56))
  generalize (w.alloc _) = W0 at *
  clear HK HMN
  refine (number_any g 2 _ _ _ HX.out.tk (by decide)).mono ?_
  rintro e w0 ⟨rfl, ht, ho⟩
  have X0 := Hid.mk' (HX.out.call ht ho)
  obtain ⟨u0, cu, fu⟩ := X0.out.cell (o := 2) (by simp [toldL])
  clear ht ho HX
  go_wp2_with fail
  have Y0 := Hid.mk' (X0.out.store 2 (.int .i64 ((numN 2 0 l : Nat) : Int)))
  clear X0 cu fu
  generalize (w0.setCell _ _) = v0 at *
  refine (sign_any g 47 _ _ _ Y0.out.tk).mono ?_
  rintro e w1 ⟨rfl, ht, ho⟩
  have X1 := Hid.mk' (Y0.out.call ht ho)
  clear ht ho Y0
  go_wp2_with fail
  refine (month_any g _ _ _ X1.out.tk (HMW.out.only2 X1.out.kept HG1.out HH1.out) HG1.out).mono ?_
  rintro e w2 ⟨rfl, ht, ho⟩
  have X2 := Hid.mk' (X1.out.call ht ho)
  obtain ⟨u2, cu, fu⟩ := X2.out.cell (o := 1) (by simp [toldL])
  clear ht ho X1
  go_wp2_with fail
  have Y2 := Hid.mk' (X2.out.store 1 (.int .i64 ((mnI (restF 47 (numL 2 l)) : Nat) : Int)))
  clear X2 cu fu
  generalize (w2.setCell _ _) = v2 at *
  refine (sign_any g 47 _ _ _ Y2.out.tk).mono ?_
  rintro e w3 ⟨rfl, ht, ho⟩
  have X3 := Hid.mk' (Y2.out.call ht ho)
  clear ht ho Y2
  go_wp2_with fail
  refine (number_any g 4 _ _ _ X3.out.tk (by decide)).mono ?_
  rintro e w4 ⟨rfl, ht, ho⟩
  have X4 := Hid.mk' (X3.out.call ht ho)
  obtain ⟨u4, cu, fu⟩ := X4.out.cell (o := 0) (by simp [toldL])
  clear ht ho X3
  go_wp2_with fail
  have Y4 := Hid.mk' (X4.out.store 0 (.int .i64 ((numN 4 0 (restF 47 (mnL (restF 47 (numL 2 l)))) : Nat) : Int)))
  clear X4 cu fu
  generalize (w4.setCell _ _) = v4 at *
  refine (sign_any g 58 _ _ _ Y4.out.tk).mono ?_
  rintro e w5 ⟨rfl, ht, ho⟩
  have X5 := Hid.mk' (Y4.out.call ht ho)
  clear ht ho Y4
  go_wp2_with fail
  refine (sec_any g w.heap.size _ _ _ _ _ _ X5.out (by simp [toldL])).mono ?_
  rintro e w6 ⟨rfl, x⟩
  have X6 := Hid.mk' x
  clear x X5
  go_wp2_with fail
  refine (sign_any g 32 _ _ _ X6.out.tk).mono ?_
  rintro e w7 ⟨rfl, ht, ho⟩
  have X7 := Hid.mk' (X6.out.call ht ho)
  clear ht ho X6
  go_wp2_with fail
  refine (pm_any g _ _ _ X7.out.tk).mono ?_
  rintro e w8 ⟨rfl, ht, ho⟩
  have X8 := Hid.mk' (X7.out.call ht ho)
  obtain ⟨u8, cu, fu⟩ := X8.out.cell (o := 7) (by simp [toldL])
  clear ht ho X7
  go_wp2_with fail
  have Y8 := Hid.mk' (X8.out.store 7 (.int .i64 (pmV (restF 32 (secL (restF 58 (numL 4 (restF 47 (mnL (restF 47 (numL 2 l)))))))))))
  clear X8 cu fu
  generalize (w8.setCell _ _) = v8 at *
  refine (number_any g 2 _ _ _ Y8.out.tk (by decide)).mono ?_
  rintro e w9 ⟨rfl, ht, ho⟩
  have X9 := Hid.mk' (Y8.out.call ht ho)
  obtain ⟨u9, cu, fu⟩ := X9.out.cell (o := 8) (by simp [toldL])
  clear ht ho Y8
  go_wp2_with fail
  have Y9 := Hid.mk' (X9.out.store 8 (.int .i64 ((numN 2 0 (pmL (restF 32 (secL (restF 58 (numL 4 (restF 47 (mnL (restF 47 (numL 2 l))))))))) : Nat) : Int)))
  clear X9 cu fu
  generalize (w9.setCell _ _) = v9 at *
  refine (number_any g 2 _ _ _ Y9.out.tk (by decide)).mono ?_
  rintro e w10 ⟨rfl, ht, ho⟩
  have X10 := Hid.mk' (Y9.out.call ht ho)
  obtain ⟨u10, cu, fu⟩ := X10.out.cell (o := 9) (by simp [toldL])
  clear ht ho Y9
  go_wp2_with fail
  have Y10 := Hid.mk' (X10.out.store 9 (.int .i64 ((numN 2 0 (numL 2 (pmL (restF 32 (secL (restF 58 (numL 4 (restF 47 (mnL (restF 47 (numL 2 l)))))))))) : Nat) : Int)))
  clear X10 cu fu
  generalize (w10.setCell _ _) = v10 at *
  refine (sign_any g 93 _ _ _ Y10.out.tk).mono ?_
  rintro e w11 ⟨rfl, ht, ho⟩
  have X11 := Hid.mk' (Y10.out.call ht ho)
  clear ht ho Y10
  have X9 : Hid (Tm g w.heap.size 56 (brL l) (b || brB l) (toldL (numN 4 0 (b4L l)) (mnI (b2L l)) (numN 2 0 l) (sec0 (b6L l)) (sec1 (b6L l)) (sec2 (b6L l)) 0 (pmV (b8L l)) (numN 2 0 (b9L l)) (numN 2 0 (b10L l))) W0 w11) := Hid.mk' (by
    have x := X11.out
    unfold brB brL b11L b10L b9L b8L b7L b6L b5L b4L b3L b2L b1L
    simpa [toldL, Bool.or_assoc] using x)
  have HR := Hid.mk' X9.out.row
  clear X11
  go_wp2_with (first | (refine wpList_load_row rfl 56 _ rfl w.heap.size rfl 56 _ _ _ HR.out Tryd.underlying56 rfl (sizeTold _ rfl) ?_) | fail)
  refine (HST.out _).mono ?_
  rintro e W8 ⟨he8, hb8⟩
  obtain ⟨a, c, hac⟩ := stR_tup (numN 4 0 (b4L l)) (mnI (b2L l)) (numN 2 0 l) (sec0 (b6L l)) (sec1 (b6L l)) (sec2 (b6L l)) 0 (pmV (b8L l)) (numN 2 0 (b9L l)) (numN 2 0 (b10L l))
  have HAC : Hid (brR l = .returned (.tuple #[.int .i64 a, .int .i64 c])) := HDR.out.trans hac
  rw [hac] at he8
  subst he8
  have HT8 := Hid.mk' (X9.out.tk.below hb8 X9.out.tk.lt)
  have HO8 := Hid.mk' ((X9.out.kept.one w HO.out (Nat.le_refl _)).below_trans hb8 (Nat.le_trans HO.out.size X9.out.kept.size))
  clear hac hb8 X9 HST HDR
  go_wp2_with fail
  go_ret2
  exact ⟨HAC.out.symm, HT8.out, HO8.out⟩
end Go.Proofs.YthmpokndffbkdabDoor
