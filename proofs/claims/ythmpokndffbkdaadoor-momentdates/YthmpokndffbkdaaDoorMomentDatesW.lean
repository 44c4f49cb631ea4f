/-
  The law MomentDates is true. Conditions: ints; the tables lie as the programs' texts lay them.
-/
import Derived.Test.YthmpokndffbkdaaDoorRdG
namespace Go.Proofs.YthmpokndffbkdaaDoor
open Go.RowKit
set_option linter.unusedVariables false
/-- what the law knows from step to step: its argument's row lies -/
structure DaW (D : Nat) (yy mm dd hh mi ss ms : Int) (w W : World) : Prop where
  lw : Lw w W
  row : W.heap[D]? = some (.cells #[.int .i64 yy, .int .i64 mm, .int .i64 dd, .int .i64 hh, .int .i64 mi, .int .i64 ss, .int .i64 ms] 23 (0, 0))
theorem DaW.next {D : Nat} {yy mm dd hh mi ss ms : Int} {w W V : World} (h : DaW D yy mm dd hh mi ss ms w W) (b : Below W.heap.size W V) : DaW D yy mm dd hh mi ss ms w V :=
  ⟨h.lw.next b, (b.block D (Array.getElem?_eq_some_iff.1 h.row).1).trans h.row⟩
theorem DaW.cells {D : Nat} {yy mm dd hh mi ss ms : Int} {w W : World} (h : DaW D yy mm dd hh mi ss ms w W) : DateAt D yy mm dd hh mi ss ms W := by
  have h := h.row
  exact ⟨by simp [World.cell?, h], by simp [World.cell?, h], by simp [World.cell?, h], by simp [World.cell?, h], by simp [World.cell?, h], by simp [World.cell?, h], by simp [World.cell?, h]⟩
set_option maxRecDepth 100000 in
set_option maxHeartbeats 8000000 in
theorem momentDates_any (yy mm dd hh mi ss ms stamp width : Int) (w : World) (hs0 : -9223372036854775808 ≤ stamp) (hs1 : stamp ≤ 9223372036854775807) (hp0 : -9223372036854775808 ≤ width) (hp1 : width ≤ 9223372036854775807) (hu : UnT w) (hp : Pow w) :
    Calls Tryd.prog 3 #[dateV yy mm dd hh mi ss ms, .int .i64 stamp, .int .i64 width] w fun e w' => e = .returned (.bool true) ∧ Below w.heap.size w w' := by
  have B0 : Hid (DaW w.heap.size yy mm dd hh mi ss ms w (w.alloc (.cells #[.int .i64 yy, .int .i64 mm, .int .i64 dd, .int .i64 hh, .int .i64 mi, .int .i64 ss, .int .i64 ms] 23))) := ⟨(Lw.mk hu hp (Below.refl _ _) hp.size).next ((Below.refl _ w).alloc (Nat.le_refl _) _), heap_alloc_new w (.cells #[.int .i64 yy, .int .i64 mm, .int .i64 dd, .int .i64 hh, .int .i64 mi, .int .i64 ss, .int .i64 ms] 23)⟩
  have HK : Hid (∀ W, UnT W → Pow W → Calls Tryd.prog 8 #[] W fun e w' => e = .returned (.bool true) ∧ Below W.heap.size W w') := fun W a b => (known_any W a b).mono (fun e w' h => ⟨h.1, h.2.bel⟩)
  obtain ⟨oa, oc, O1, O2⟩ := of_two yy mm dd hh mi ss ms
  obtain ⟨a0, a1, a2, a3, a4, a5, a6, dc, D1, D2⟩ := date_two stamp
  obtain ⟨wa, wc, W1, W2⟩ := week_two stamp
  obtain ⟨st, sc, S1, S2⟩ := show_two stamp
  obtain ⟨ba, bc, K1, K2⟩ := bucket_two stamp width
  have HE := Hid.mk' (fun w => eql_date a0 a1 a2 a3 a4 a5 a6 a0 a1 a2 a3 a4 a5 a6 w)
  have HO1 := Hid.mk' O1
  have HO2 := Hid.mk' O2
  have HD1 := Hid.mk' D1
  have HD2 := Hid.mk' D2
  have HW1 := Hid.mk' W1
  have HW2 := Hid.mk' W2
  have HS1 := Hid.mk' S1
  have HS2 := Hid.mk' S2
  have HB1 := Hid.mk' K1
  have HB2 := Hid.mk' K2
  clear hu hp hs0 hs1 hp0 hp1 O1 O2 D1 D2 W1 W2 S1 S2 K1 K2
  unfold dateV at HO1 HO2 HD1 HD2 ⊢
  go_enter Tryd.func3, Tryd.ntmps3
  go_wp2_with fail
  generalize (w.alloc _) = w0 at *
  generalize w.heap.size = D at *
  refine (HK.out _ B0.out.lw.un B0.out.lw.pow).mono ?_
  rintro e w1 ⟨rfl, hb⟩
  have B1 := Hid.mk' (B0.out.next hb)
  clear hb HK B0
  obtain ⟨c0, c1, c2, c3, c4, c5, c6⟩ := B1.out.cells
  go_wp2_with fail
  clear c0 c1 c2 c3 c4 c5 c6
  refine (HO1.out _).mono ?_
  rintro e w2 ⟨rfl, hb⟩
  have B2 := Hid.mk' (B1.out.next hb)
  clear hb B1 HO1
  obtain ⟨c0, c1, c2, c3, c4, c5, c6⟩ := B2.out.cells
  go_wp2_with fail
  clear c0 c1 c2 c3 c4 c5 c6
  refine (HO2.out _).mono ?_
  rintro e w3 ⟨rfl, hb⟩
  have B3 := Hid.mk' (B2.out.next hb)
  clear hb B2 HO2
  go_wp2_with fail
  refine (HD1.out _).mono ?_
  rintro e w4 ⟨rfl, hb⟩
  have B4 := Hid.mk' (B3.out.next hb)
  clear hb B3 HD1
  go_wp2_with fail
  have L5 := Hid.mk' (B4.out.lw.next ((Below.refl _ w4).alloc (Nat.le_refl _) (.cells #[.int .i64 a0, .int .i64 a1, .int .i64 a2, .int .i64 a3, .int .i64 a4, .int .i64 a5, .int .i64 a6] 23)))
  have K5 : Hid (ShD w4.heap.size a0 a1 a2 a3 a4 a5 a6 w (w4.alloc (.cells #[.int .i64 a0, .int .i64 a1, .int .i64 a2, .int .i64 a3, .int .i64 a4, .int .i64 a5, .int .i64 a6] 23))) := ⟨L5.out.bel, heap_alloc_new w4 _⟩
  clear B4
  generalize (w4.alloc _) = w5 at *
  generalize w4.heap.size = X at *
  refine (HD2.out _).mono ?_
  rintro e w6 ⟨rfl, hb⟩
  have L6 := Hid.mk' (L5.out.next hb)
  have K6 := Hid.mk' (K5.out.next hb)
  clear hb L5 K5 HD2
  go_wp2_with fail
  have L7 := Hid.mk' (L6.out.next ((Below.refl _ w6).alloc (Nat.le_refl _) (.cells #[.int .i64 a0, .int .i64 a1, .int .i64 a2, .int .i64 a3, .int .i64 a4, .int .i64 a5, .int .i64 a6] 23)))
  have K7 := Hid.mk' (K6.out.next ((Below.refl _ w6).alloc (Nat.le_refl _) (.cells #[.int .i64 a0, .int .i64 a1, .int .i64 a2, .int .i64 a3, .int .i64 a4, .int .i64 a5, .int .i64 a6] 23)))
  have J7 : Hid (ShD w6.heap.size a0 a1 a2 a3 a4 a5 a6 w (w6.alloc (.cells #[.int .i64 a0, .int .i64 a1, .int .i64 a2, .int .i64 a3, .int .i64 a4, .int .i64 a5, .int .i64 a6] 23))) := ⟨L7.out.bel, heap_alloc_new w6 _⟩
  clear L6 K6
  generalize (w6.alloc _) = w7 at *
  generalize w6.heap.size = Y at *
  refine (HW1.out _).mono ?_
  rintro e w8 ⟨rfl, hw⟩
  have hw2 := hw.symm
  subst hw2
  clear hw HW1
  go_wp2_with fail
  refine (HW2.out _).mono ?_
  rintro e w8 ⟨rfl, hw⟩
  have hw2 := hw.symm
  subst hw2
  clear hw HW2
  go_wp2_with fail
  refine (HS1.out _).mono ?_
  rintro e w8 ⟨rfl, hb⟩
  have L8 := Hid.mk' (L7.out.next hb)
  have K8 := Hid.mk' (K7.out.next hb)
  have J8 := Hid.mk' (J7.out.next hb)
  clear hb L7 K7 J7 HS1
  go_wp2_with fail
  refine (HS2.out _).mono ?_
  rintro e w9 ⟨rfl, hb⟩
  have L9 := Hid.mk' (L8.out.next hb)
  have K9 := Hid.mk' (K8.out.next hb)
  have J9 := Hid.mk' (J8.out.next hb)
  clear hb L8 K8 J8 HS2
  go_wp2_with fail
  refine (HB1.out _).mono ?_
  rintro e w10 ⟨rfl, hw⟩
  have hw2 := hw.symm
  subst hw2
  clear hw HB1
  go_wp2_with fail
  refine (HB2.out _).mono ?_
  rintro e w10 ⟨rfl, hw⟩
  have hw2 := hw.symm
  subst hw2
  clear hw HB2
  obtain ⟨c0, c1, c2, c3, c4, c5, c6⟩ := K9.out.cells
  obtain ⟨g0, g1, g2, g3, g4, g5, g6⟩ := J9.out.cells
  have heq := HE.out
  simp only [BEq.rfl, Bool.and_self] at heq
  go_wp2_with fail
  go_ret
  exact ⟨rfl, L9.out.bel⟩
end Go.Proofs.YthmpokndffbkdaaDoor
