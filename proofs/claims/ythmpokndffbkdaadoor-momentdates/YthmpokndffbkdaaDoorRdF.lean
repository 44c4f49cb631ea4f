/-
  The document's Show. Conditions: an int.
-/
import Derived.Test.YthmpokndffbkdaaDoorRdE
import Derived.Test.YthmpokndffbkdaaDoorZn12
namespace Go.Proofs.YthmpokndffbkdaaDoor
open Go.RowKit
set_option linter.unusedVariables false
structure ShD (D : Nat) (y m d h mi s ms : Int) (w W : World) : Prop where
  bel : Below w.heap.size w W
  row : W.heap[D]? = some (.cells #[.int .i64 y, .int .i64 m, .int .i64 d, .int .i64 h, .int .i64 mi, .int .i64 s, .int .i64 ms] 23 (0, 0))
theorem ShD.next {D : Nat} {y m d h mi s ms : Int} {w W V : World} (k : ShD D y m d h mi s ms w W) (b : Below W.heap.size W V) : ShD D y m d h mi s ms w V :=
  ⟨k.bel.trans (b.mono k.bel.size), (b.block D (Array.getElem?_eq_some_iff.1 k.row).1).trans k.row⟩
theorem ShD.cells {D : Nat} {y m d h mi s ms : Int} {w W : World} (k : ShD D y m d h mi s ms w W) : DateAt D y m d h mi s ms W := by
  have h := k.row
  exact ⟨by simp [World.cell?, h], by simp [World.cell?, h], by simp [World.cell?, h], by simp [World.cell?, h], by simp [World.cell?, h], by simp [World.cell?, h], by simp [World.cell?, h]⟩
theorem rDigitsN (n k : Nat) (t : ByteArray) (w : World) (h1 : n ≤ 253402300799999) (h2 : k ≤ 10) (ht : Sums.bl t = dg k n) :
    Calls Tryd.prog 37 #[.int .i64 (n : Int), .int .i64 (k : Int)] w fun e w' => e = .returned (.string t) ∧ Below w.heap.size w w' := by
  refine (rDigits_any n k w h1 h2).mono ?_
  rintro e w' ⟨⟨u, hu, rfl⟩, hb⟩
  rw [Sums.bl_inj (hu.trans ht.symm)]
  exact ⟨rfl, hb⟩
theorem dg_text (k n : Nat) : ∃ t : ByteArray, Sums.bl t = dg k n ∧ t.size = k := by
  have hb : Sums.bl (nums (dg k n)) = dg k n := bl_nums _ (fun z hz => by have := dg_dig k n z hz; omega)
  exact ⟨nums (dg k n), hb, by rw [← Sums.bl_length, hb, dg_len]⟩
set_option maxRecDepth 100000 in
set_option maxHeartbeats 8000000 in
theorem rShow_any (n : Nat) (w : World) (hn : n ≤ 253402300799999) :
    Calls Tryd.prog 16 #[.int .i64 (n : Int)] w fun e w' => (∃ t, ShT n t ∧ e = .returned (.tuple #[.string t, .int .i64 0])) ∧ Below w.heap.size w w' := by
  have RD := Hid.mk' (fun w => rDate_any n w hn)
  obtain ⟨h, hh⟩ : ∃ h, n % 86400000 / 3600000 = h := ⟨_, rfl⟩
  obtain ⟨mi, hmi⟩ : ∃ h, n % 86400000 % 3600000 / 60000 = h := ⟨_, rfl⟩
  obtain ⟨s, hs⟩ : ∃ h, n % 86400000 % 60000 / 1000 = h := ⟨_, rfl⟩
  obtain ⟨ms, hms⟩ : ∃ h, n % 86400000 % 1000 = h := ⟨_, rfl⟩
  have HHH := Hid.mk' (And.intro hh (And.intro hmi (And.intro hs hms)))
  rw [hh, hmi, hs, hms] at RD
  have b4 : h ≤ 99 := by omega
  have b5 : mi ≤ 99 := by omega
  have b6 : s ≤ 99 := by omega
  have b7 : ms ≤ 999 := by omega
  clear hh hmi hs hms hn
  go_enter Tryd.func16, Tryd.ntmps16
  go_wp2_with fail
  refine (RD.out _).mono ?_
  rintro e w1 ⟨⟨y, m, d, hday, rfl⟩, hb⟩
  have hyb : y ≤ 9999 := hday.y1
  have hmb : m ≤ 12 := hday.m1
  have hdb : d ≤ 31 := by have h1 := hday.d1; have h2 := (Mo.md_pos y m).2; omega
  have HDAY := Hid.mk' hday
  clear hday RD
  obtain ⟨t0, e0, z0⟩ := dg_text 4 y
  have H0 : Hid (∀ w, Calls Tryd.prog 37 #[.int .i64 (y : Int), .int .i64 4] w fun e w' => e = .returned (.string t0) ∧ Below w.heap.size w w') := fun w => rDigitsN y 4 t0 w (by omega) (by decide) e0
  have E0 := Hid.mk' e0
  clear e0
  obtain ⟨t1, e1, z1⟩ := dg_text 2 m
  have H1 : Hid (∀ w, Calls Tryd.prog 37 #[.int .i64 (m : Int), .int .i64 2] w fun e w' => e = .returned (.string t1) ∧ Below w.heap.size w w') := fun w => rDigitsN m 2 t1 w (by omega) (by decide) e1
  have E1 := Hid.mk' e1
  clear e1
  obtain ⟨t2, e2, z2⟩ := dg_text 2 d
  have H2 : Hid (∀ w, Calls Tryd.prog 37 #[.int .i64 (d : Int), .int .i64 2] w fun e w' => e = .returned (.string t2) ∧ Below w.heap.size w w') := fun w => rDigitsN d 2 t2 w (by omega) (by decide) e2
  have E2 := Hid.mk' e2
  clear e2
  obtain ⟨t3, e3, z3⟩ := dg_text 2 h
  have H3 : Hid (∀ w, Calls Tryd.prog 37 #[.int .i64 (h : Int), .int .i64 2] w fun e w' => e = .returned (.string t3) ∧ Below w.heap.size w w') := fun w => rDigitsN h 2 t3 w (by omega) (by decide) e3
  have E3 := Hid.mk' e3
  clear e3
  obtain ⟨t4, e4, z4⟩ := dg_text 2 mi
  have H4 : Hid (∀ w, Calls Tryd.prog 37 #[.int .i64 (mi : Int), .int .i64 2] w fun e w' => e = .returned (.string t4) ∧ Below w.heap.size w w') := fun w => rDigitsN mi 2 t4 w (by omega) (by decide) e4
  have E4 := Hid.mk' e4
  clear e4
  obtain ⟨t5, e5, z5⟩ := dg_text 2 s
  have H5 : Hid (∀ w, Calls Tryd.prog 37 #[.int .i64 (s : Int), .int .i64 2] w fun e w' => e = .returned (.string t5) ∧ Below w.heap.size w w') := fun w => rDigitsN s 2 t5 w (by omega) (by decide) e5
  have E5 := Hid.mk' e5
  clear e5
  obtain ⟨t6, e6, z6⟩ := dg_text 3 ms
  have H6 : Hid (∀ w, Calls Tryd.prog 37 #[.int .i64 (ms : Int), .int .i64 3] w fun e w' => e = .returned (.string t6) ∧ Below w.heap.size w w') := fun w => rDigitsN ms 3 t6 w (by omega) (by decide) e6
  have E6 := Hid.mk' e6
  clear e6
  unfold dateV
  go_wp2_with fail
  have K : Hid (ShD w1.heap.size y m d h mi s ms w (w1.alloc (.cells #[.int .i64 (y : Int), .int .i64 (m : Int), .int .i64 (d : Int), .int .i64 (h : Int), .int .i64 (mi : Int), .int .i64 (s : Int), .int .i64 (ms : Int)] 23))) := ⟨hb.trans (((Below.refl _ w1).alloc (Nat.le_refl _) _).mono hb.size), heap_alloc_new w1 (.cells #[.int .i64 (y : Int), .int .i64 (m : Int), .int .i64 (d : Int), .int .i64 (h : Int), .int .i64 (mi : Int), .int .i64 (s : Int), .int .i64 (ms : Int)] 23)⟩
  generalize (w1.alloc _) = w2 at *
  generalize w1.heap.size = D at *
  clear hb
  generalize (y : Int) = vy at *
  generalize (m : Int) = vm at *
  generalize (d : Int) = vd at *
  generalize (h : Int) = vh at *
  generalize (mi : Int) = vmi at *
  generalize (s : Int) = vs at *
  generalize (ms : Int) = vms at *
  obtain ⟨c0, c1, c2, c3, c4, c5, c6⟩ := K.out.cells
  go_region_held3 (fun w' => w'.cell? ⟨D, 0, none⟩ = some (.int .i64 vy) ∧ w'.cell? ⟨D, 1, none⟩ = some (.int .i64 vm) ∧ w'.cell? ⟨D, 2, none⟩ = some (.int .i64 vd) ∧ w'.cell? ⟨D, 3, none⟩ = some (.int .i64 vh) ∧ w'.cell? ⟨D, 4, none⟩ = some (.int .i64 vmi) ∧ w'.cell? ⟨D, 5, none⟩ = some (.int .i64 vs) ∧ w'.cell? ⟨D, 6, none⟩ = some (.int .i64 vms)) (first | go_keep | exact ⟨c0, c1, c2, c3, c4, c5, c6⟩)
    (((first | (go_at_call_of 37 vy; refine (H0.out _).mono ?_) | (go_at_call_of 37 vm; refine (H1.out _).mono ?_) | (go_at_call_of 37 vd; refine (H2.out _).mono ?_) | (go_at_call_of 37 vh; refine (H3.out _).mono ?_) | (go_at_call_of 37 vmi; refine (H4.out _).mono ?_) | (go_at_call_of 37 vs; refine (H5.out _).mono ?_) | (go_at_call_of 37 vms; refine (H6.out _).mono ?_)); rintro e wz ⟨rfl, hbz⟩; have K := (show Hid (ShD D vy vm vd vh vmi vs vms w wz) from (by first | exact K.out.next hbz | exact K.out.next (((Below.refl _ _).drewN' 1).trans hbz))); clear c0 c1 c2 c3 c4 c5 c6 hbz; obtain ⟨c0, c1, c2, c3, c4, c5, c6⟩ := K.out.cells))
  go_wp2_with fail
  go_ret2
  refine ⟨⟨_, ⟨y, m, d, HDAY.out, ?_⟩, rfl⟩, K.out.bel⟩
  obtain ⟨e1, e2, e3, e4⟩ := HHH.out
  have l1 : Sums.bl ⟨#[45]⟩ = [45] := rfl
  have l2 : Sums.bl ⟨#[84]⟩ = [84] := rfl
  have l3 : Sums.bl ⟨#[58]⟩ = [58] := rfl
  have l4 : Sums.bl ⟨#[46]⟩ = [46] := rfl
  have l5 : Sums.bl ⟨#[90]⟩ = [90] := rfl
  rw [e1, e2, e3, e4]
  simp only [Sums.bl_append, E0.out, E1.out, E2.out, E3.out, E4.out, E5.out, E6.out, l1, l2, l3, l4, l5]
  simp [Mo.sh, dg, Nat.div_div_eq_div_mul]
end Go.Proofs.YthmpokndffbkdaaDoor
