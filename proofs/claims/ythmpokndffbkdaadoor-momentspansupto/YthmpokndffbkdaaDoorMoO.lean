/-
  moment: the taker: zone. Conditions: the taker lies in a block of its own.
-/
import Derived.Test.YthmpokndffbkdaaDoorMoN
namespace Go.Proofs.YthmpokndffbkdaaDoor
open Go.RowKit
set_option linter.unusedVariables false
def zonL (l : List Nat) : List Nat := if hasF 90 l = true then restF 90 l else numL 2 (restF 58 (numL 2 (pmL l)))
def zonB (l : List Nat) : Bool := if hasF 90 l = true then false else pmB l || numB 2 (pmL l) || !hasF 58 (numL 2 (pmL l)) || numB 2 (restF 58 (numL 2 (pmL l)))
def zonS (l : List Nat) : Int := if hasF 90 l = true then 0 else pmV l
def zonH (l : List Nat) : Nat := if hasF 90 l = true then 0 else numN 2 0 (pmL l)
def zonM (l : List Nat) : Nat := if hasF 90 l = true then 0 else numN 2 0 (restF 58 (numL 2 (pmL l)))
theorem sizeZone (cs : Array Value) (h : cs.size = 3) : (Tryd.prog.info? 74).map (·.size) = some cs.size := by
  have : (Tryd.prog.info? 74).map (·.size) = some 3 := by kernel_rfl
  rw [this, h]
def zC (s h m : Int) : List Value := [.int .i64 s, .int .i64 h, .int .i64 m]
theorem zC_size (s h m : Int) : (zC s h m).toArray.size = 3 := rfl
theorem zC_old (s h m : Int) : (#[.int .i64 0, .int .i64 0, .int .i64 0] : Array Value).size = (zC s h m).toArray.size := rfl
theorem zC_one (s h m : Int) : (zC s h m).toArray.all (·.oneCell') = true := by simp [zC, Value.oneCell']
theorem only_setRow {g h : Nat} {a b : World} (x : Only g a b) (hh : a.heap.size ≤ h) (cs : Array Value) : Only g a (b.setRow h cs) := by
  refine ⟨x.os, x.tape, x.output, by have := x.size; simp [World.setRow]; omega, fun k hk hg => ?_⟩
  rw [← x.block k hk hg]
  simp only [World.setRow, Array.getElem?_modify]
  rw [if_neg (by omega)]
theorem Tk.setRow {g h : Nat} {l : List Nat} {b : Bool} {w : World} (x : Tk g l b w) (hh : g ≠ h) (cs : Array Value) : Tk g l b (w.setRow h cs) := by
  obtain ⟨t, ht, hg⟩ := x.ex
  refine ⟨t, ht, ?_⟩
  simp only [World.setRow, Array.getElem?_modify]
  rw [if_neg (by omega)]
  exact hg
theorem Only2.one {g h : Nat} {a b : World} (x : Only2 g h a b) (w : World) (y : Only g w a) (hh : w.heap.size ≤ h) : Only g w b :=
  ⟨x.os.trans y.os, x.tape.trans y.tape, x.output.trans y.output, Nat.le_trans y.size x.size, fun k hk hg => (x.block k (Nat.lt_of_lt_of_le hk y.size) hg (by omega)).trans (y.block k hk hg)⟩
set_option maxRecDepth 100000 in
set_option maxHeartbeats 2000000 in
theorem zon_any (g : Nat) (l : List Nat) (b : Bool) (w : World) (h : Tk g l b w) :
    Calls Tryd.prog 50 #[.pointer (some ⟨g, 0, none⟩)] w fun e w' => e = .returned (.agg #[.int .i64 (zonS l), .int .i64 ((zonH l : Nat) : Int), .int .i64 ((zonM l : Nat) : Int)]) ∧ Tk g (zonL l) (b || zonB l) w' ∧ Only g w w' := by
  unfold zonL zonB zonS zonH zonM
  have HX := Hid.mk' h
  have hlt := h.lt
  clear h
  cases hd : hasF 90 l
  · have hr := restF_not hd
    simp only [Bool.false_eq_true, if_false]
    have HD := Hid.mk' (And.intro hd hr)
    clear hd hr
    go_enter Tryd.func50, Tryd.ntmps50
    go_wp2_with fail
    refine (has_any g 90 _ _ _ (HX.out.alloc _)).mono ?_
    rintro e a1 ⟨rfl, ht, ho⟩
    rw [HD.out.2] at ht
    have HT := Hid.mk' ht
    have hz0 := heap_alloc_new w (.cells #[.int .i64 0, .int .i64 0, .int .i64 0] 74)
    have HZ := Hid.mk' ((ho.block w.heap.size (by simp) (by omega)).trans hz0)
    have HO := Hid.mk' (((Only.refl g w).alloc (.cells #[.int .i64 0, .int .i64 0, .int .i64 0] 74)).trans ho)
    have hs1 : w.heap.size < a1.heap.size := by have := ho.size; simp at this; omega
    rw [HD.out.1]
    clear ht ho HX hz0
    go_wp2_with fail
    refine (pm_any g _ _ _ HT.out).mono ?_
    rintro e a2 ⟨rfl, ht, ho⟩
    have HT2 := Hid.mk' ht
    have HZ2 := Hid.mk' ((ho.block w.heap.size hs1 (by omega)).trans HZ.out)
    have HO2 := Hid.mk' (HO.out.trans ho)
    have hs2 : w.heap.size < a2.heap.size := Nat.lt_of_lt_of_le hs1 ho.size
    clear ht ho HT HZ HO hs1
    go_wp2_with fail
    have HM : Hid (Tm g a2.heap.size 74 (pmL l) (b || pmB l) (zC (pmV l) 0 0) (a2.alloc (.cells #[.int .i64 (pmV l), .int .i64 0, .int .i64 0] 74)) (a2.alloc (.cells #[.int .i64 (pmV l), .int .i64 0, .int .i64 0] 74))) :=
      ⟨HT2.out.alloc _, heap_alloc_new a2 _, Only2.refl _ _ _, by have := HT2.out.lt; omega⟩
    have HZ3 := Hid.mk' ((Below.heap_alloc a2 (.cells #[.int .i64 (pmV l), .int .i64 0, .int .i64 0] 74) _ hs2).trans HZ2.out)
    have HO3 := Hid.mk' (HO2.out.alloc (.cells #[.int .i64 (pmV l), .int .i64 0, .int .i64 0] 74))
    have hs3 : w.heap.size < a2.heap.size := hs2
    have hs4 : (a2.alloc (.cells #[.int .i64 (pmV l), .int .i64 0, .int .i64 0] 74)).heap.size = a2.heap.size + 1 := by simp
    generalize (a2.alloc _) = a3 at *
    generalize hG : a2.heap.size = G at *
    clear HZ2 HO2 HT2 hs2
    refine (number_any g 2 _ _ _ HM.out.tk (by decide)).mono ?_
    rintro e a4 ⟨rfl, ht, ho⟩
    have HM4 := Hid.mk' (HM.out.call ht ho)
    obtain ⟨u, cu, fu⟩ := HM4.out.cell (o := 1) (by simp [zC])
    clear ht ho HM
    go_wp2_with fail
    have HM5 := Hid.mk' (HM4.out.store 1 (.int .i64 ((numN 2 0 (pmL l) : Nat) : Int)))
    clear HM4 cu fu
    generalize (a4.setCell _ _) = a5 at *
    refine (sign_any g 58 _ _ _ HM5.out.tk).mono ?_
    rintro e a6 ⟨rfl, ht, ho⟩
    have HM6 := Hid.mk' (HM5.out.call ht ho)
    clear ht ho HM5
    go_wp2_with fail
    refine (number_any g 2 _ _ _ HM6.out.tk (by decide)).mono ?_
    rintro e a7 ⟨rfl, ht, ho⟩
    have HM7 := Hid.mk' (HM6.out.call ht ho)
    obtain ⟨u2, cu, fu⟩ := HM7.out.cell (o := 2) (by simp [zC])
    clear ht ho HM6
    have HM8 := Hid.mk' (HM7.out.store 2 (.int .i64 ((numN 2 0 (restF 58 (numL 2 (pmL l))) : Nat) : Int)))
    have HZ8 := Hid.mk' ((HM8.out.kept.block w.heap.size (by omega) (by omega) (by omega)).trans HZ3.out)
    have HR8 := Hid.mk' HM8.out.row
    have HO8 := Hid.mk' (HM8.out.kept.one w HO3.out (by omega))
    go_wp2_with (first | (refine wpList_load_row rfl 74 _ rfl G rfl 74 (zC (pmV l) ((numN 2 0 (pmL l) : Nat) : Int) ((numN 2 0 (restF 58 (numL 2 (pmL l))) : Nat) : Int)).toArray _ _ HR8.out Tryd.underlying74 rfl (sizeZone _ (zC_size _ _ _)) ?_) | (refine wpList_store_row rfl 74 _ _ rfl w.heap.size (zC (pmV l) ((numN 2 0 (pmL l) : Nat) : Int) ((numN 2 0 (restF 58 (numL 2 (pmL l))) : Nat) : Int)).toArray rfl rfl 74 _ HZ8.out (sizeZone _ (zC_size _ _ _)) (zC_old _ _ _) (zC_one _ _ _) ?_) | fail)
    have hrow := setRow_heap _ w.heap.size _ (zC (pmV l) ((numN 2 0 (pmL l) : Nat) : Int) ((numN 2 0 (restF 58 (numL 2 (pmL l))) : Nat) : Int)).toArray 74 (0, 0) HZ8.out
    refine bodyPost_ret (results_cell_row rfl _ _ w.heap.size 74 _ (0, 0) _ rfl hrow Tryd.underlying74 rfl (sizeZone _ (zC_size _ _ _))) rfl ⟨rfl, ?_, only_setRow HO8.out (Nat.le_refl _) _⟩
    have := HM8.out.tk.setRow (h := w.heap.size) (by omega) (zC (pmV l) ((numN 2 0 (pmL l) : Nat) : Int) ((numN 2 0 (restF 58 (numL 2 (pmL l))) : Nat) : Int)).toArray
    simpa [Bool.or_assoc] using this
  · simp only [if_true, Bool.or_false]
    have HD := Hid.mk' hd
    clear hd
    go_enter Tryd.func50, Tryd.ntmps50
    go_wp2_with fail
    refine (has_any g 90 _ _ _ (HX.out.alloc _)).mono ?_
    rintro e a1 ⟨rfl, ht, ho⟩
    have HT := Hid.mk' ht
    have hz0 := heap_alloc_new w (.cells #[.int .i64 0, .int .i64 0, .int .i64 0] 74)
    have HZ := Hid.mk' ((ho.block w.heap.size (by simp) (by omega)).trans hz0)
    have HO := Hid.mk' (((Only.refl g w).alloc (.cells #[.int .i64 0, .int .i64 0, .int .i64 0] 74)).trans ho)
    rw [HD.out]
    clear ht ho HX hz0
    go_wp2_with (first | (refine wpList_store_row rfl 74 _ _ rfl w.heap.size (zC 0 0 0).toArray rfl rfl 74 _ HZ.out (sizeZone _ (zC_size _ _ _)) (zC_old _ _ _) (zC_one _ _ _) ?_) | fail)
    have hrow := setRow_heap _ w.heap.size _ (zC 0 0 0).toArray 74 (0, 0) HZ.out
    refine bodyPost_ret (results_cell_row rfl _ _ w.heap.size 74 _ (0, 0) _ rfl hrow Tryd.underlying74 rfl (sizeZone _ (zC_size _ _ _))) rfl ⟨rfl, HT.out.setRow (by omega) _, only_setRow HO.out (Nat.le_refl _) _⟩
end Go.Proofs.YthmpokndffbkdaaDoor
