/-
  The walk of the law RecordDecodes: whatever texts it is given it returns true, and of what was there nothing turns. Conditions: texts no longer than a text can be.
-/
import Derived.Test.YtchhdkmflppjhaaAptB
import Derived.Test.YtchhdkmflppjhaaRcP
namespace Rec
open Code Sums
theorem txt_le2 (s : ByteArray) : (if (decF s).1 = 0 then (decF s).2.1 else []).length ≤ 131072 := by
  by_cases h : (decF s).1 = 0
  · rw [if_pos h]
    obtain ⟨h1, h2, h3, _⟩ := dec_ok s h
    have hl : szF (decF s).2.1 = s.size := by rw [← pay_len, h1, bl_length]
    have := len_le (decF s).2.1
    unfold szF at hl
    omega
  · rw [if_neg h]
    exact Nat.zero_le _
end Rec
namespace Go.Proofs.Ytchhdkmflppjhaa
open Go.RowKit
set_option linter.unusedVariables false
theorem dec_row {err pos : Nat} {l : List Rec.Ln} {w w' : World} {e : Ending} (h : DecP err l pos w e w') : ∃ v, e = .returned (.tuple #[v, .int .i64 (err : Int), .int .i64 (pos : Int)]) ∧ w'.ownsRow w.heap.size 35 2 v (if err = 0 then l else []).length (lnV (if err = 0 then l else [])) ∧ Below w.heap.size w w' := by
  obtain ⟨v, he, h1, h2, h3⟩ := h
  refine ⟨v, he, ?_, h3⟩
  by_cases h0 : err = 0
  · rw [if_pos h0]
    exact h1 h0
  · rw [if_neg h0, h2 h0]
    exact World.ownsRow_nil _ _ _ _
theorem row_below {w w' : World} {B e n s : Nat} {v : Value} {xs : List Value} (h : w.ownsRow B e s v n xs) (hb : Below w.heap.size w w') : w'.ownsRow B e s v n xs :=
  row_kept h fun k hk => hb.block k (h.lt k hk).2
def ttr (x y z : Value) (i : Nat) : Value := if i = 0 then x else if i = 1 then y else z
theorem three_cases {P : Nat → Prop} (h0 : P 0) (h1 : P 1) (h2 : P 2) (i : Nat) (hi : i < 3) : P i := by
  have hh : i = 0 ∨ i = 1 ∨ i = 2 := by omega
  rcases hh with rfl | rfl | rfl
  · exact h0
  · exact h1
  · exact h2
set_option maxHeartbeats 2000000 in
set_option maxRecDepth 100000 in
theorem recordDecodes_any (b o : ByteArray) (w : World) (hs : b.size ≤ 140737488351232) (ho : o.size ≤ 140737488351232) :
    Calls Try.prog 3 #[.string b, .string o] w fun e w' => e = .returned (.bool true) ∧ Below w.heap.size w w' := by
  obtain ⟨R, hR⟩ : ∃ R, R = Rec.decF b := ⟨_, rfl⟩
  obtain ⟨R2, hR2⟩ : ∃ R2, R2 = Rec.decF o := ⟨_, rfl⟩
  have HD : Hid (∀ W : World, Calls Try.prog 7 #[.string b] W fun e w' => DecP R.1 R.2.1 R.2.2 W e w') := fun W => decode_any b W (by omega) R hR
  have HR : Hid (∀ W : World, Calls Try.prog 8 #[.string b] W fun e w' => DecP R.1 R.2.1 R.2.2 W e w') := fun W => rDecode_any b W (by omega) R hR
  have HO : Hid (∀ W : World, Calls Try.prog 7 #[.string o] W fun e w' => DecP R2.1 R2.2.1 R2.2.2 W e w') := fun W => decode_any o W (by omega) R2 hR2
  have h1 := Rec.txt_le2 b
  have h2 := Rec.txt_le2 o
  rw [← hR] at h1
  rw [← hR2] at h2
  obtain ⟨E, l, p⟩ := R
  obtain ⟨E2, l2, p2⟩ := R2
  simp only at h1 h2 HD HR HO
  obtain ⟨L, hL⟩ : ∃ L, L = if E = 0 then l else [] := ⟨_, rfl⟩
  obtain ⟨L2, hL2⟩ : ∃ L2, L2 = if E2 = 0 then l2 else [] := ⟨_, rfl⟩
  rw [← hL] at h1
  rw [← hL2] at h2
  have HL := Hid.mk' hL
  have HL2 := Hid.mk' hL2
  have H1 := Hid.mk' h1
  have H2 := Hid.mk' h2
  clear hR hR2 hL hL2 h1 h2 hs ho
  go_enter Try.func3, Try.ntmps3
  go_wp2_with fail
  refine (examples_any w).mono ?_
  rintro e w1 ⟨rfl, hb1⟩
  have HB1 := Hid.mk' hb1
  clear hb1
  go_wp2_with fail
  refine (HD.out w1).mono ?_
  intro e w2 hd2
  obtain ⟨vx, rfl, hx, hb2⟩ := dec_row hd2
  rw [← HL.out] at hx
  obtain ⟨px, cx, rfl⟩ := row_shape hx
  have HX := Hid.mk' hx
  have HB2 := Hid.mk' hb2
  clear hd2 hx hb2
  go_wp2_with fail
  refine (HO.out w2).mono ?_
  intro e w3 hd3
  obtain ⟨vy, rfl, hy, hb3⟩ := dec_row hd3
  rw [← HL2.out] at hy
  obtain ⟨py, cy, rfl⟩ := row_shape hy
  have HY := Hid.mk' hy
  have HB3 := Hid.mk' hb3
  clear hd3 hy hb3
  go_wp2_with fail
  refine (HD.out w3).mono ?_
  intro e w4 hd4
  obtain ⟨vz, rfl, hz, hb4⟩ := dec_row hd4
  rw [← HL.out] at hz
  obtain ⟨pz, cz, rfl⟩ := row_shape hz
  have HZ := Hid.mk' hz
  have HB4 := Hid.mk' hb4
  clear hd4 hz hb4
  go_wp2_with fail
  refine (HR.out w4).mono ?_
  intro e w5 hd5
  obtain ⟨vw, rfl, hw, hb5⟩ := dec_row hd5
  rw [← HL.out] at hw
  have HW := Hid.mk' hw
  have HB5 := Hid.mk' hb5
  clear hd5 hw hb5
  go_wp2_with fail
  refine (same_any _ vw L w5 (own_ls (row_below (row_below (row_below HX.out HB3.out) HB4.out) HB5.out)) (own_ls HW.out) (by have := H1.out; omega)).mono ?_
  rintro e w6 ⟨rfl, k6, hw6⟩
  have HB6 : Hid (Below w5.heap.size w5 w6) := by rw [hw6]; exact (Below.refl _ _).drewN' k6
  clear hw6
  go_wp2_with fail
  refine (same_any _ vw L w6 ((own_ls (row_below HZ.out HB5.out)).below HB6.out) ((own_ls HW.out).below HB6.out) (by have := H1.out; omega)).mono ?_
  rintro e w7 ⟨rfl, k7, hw7⟩
  have HB7 : Hid (Below w5.heap.size w5 w7) := by
    rw [hw7]
    exact HB6.out.drewN' k7
  clear hw7 HB6
  obtain ⟨w8, hw8⟩ : ∃ w8, w8 = w7.alloc (.cells #[.slice px L.length cx, .slice py L2.length cy, .slice pz L.length cz] 23) := ⟨_, rfl⟩
  have h12 := HB2.out.size
  have h23 := HB3.out.size
  have h34 := HB4.out.size
  have h45 := HB5.out.size
  have h57 := HB7.out.size
  have hx8 : w8.ownsRow w1.heap.size 35 2 (.slice px L.length cx) L.length (lnV L) := by
    rw [hw8]
    exact (row_below (row_below (row_below (row_below HX.out HB3.out) HB4.out) HB5.out) HB7.out).alloc _
  have hy8 : w8.ownsRow w2.heap.size 35 2 (.slice py L2.length cy) L2.length (lnV L2) := by
    rw [hw8]
    exact (row_below (row_below (row_below HY.out HB4.out) HB5.out) HB7.out).alloc _
  have hz8 : w8.ownsRow w3.heap.size 35 2 (.slice pz L.length cz) L.length (lnV L) := by
    rw [hw8]
    exact (row_below (row_below HZ.out HB5.out) HB7.out).alloc _
  have hww8 : w8.ownsRow w4.heap.size 35 2 vw L.length (lnV L) := by
    rw [hw8]
    exact (row_below HW.out HB7.out).alloc _
  have ax : ∀ k, (Value.slice px L.length cx).ownBlock = some k → w1.heap.size ≤ k ∧ k < w2.heap.size := fun k hk => HX.out.lt k hk
  have ay : ∀ k, (Value.slice py L2.length cy).ownBlock = some k → w2.heap.size ≤ k ∧ k < w3.heap.size := fun k hk => HY.out.lt k hk
  have az : ∀ k, (Value.slice pz L.length cz).ownBlock = some k → w3.heap.size ≤ k ∧ k < w4.heap.size := fun k hk => HZ.out.lt k hk
  have hall : ∀ i, i < 3 → ∀ k, (ttr (.slice px L.length cx) (.slice py L2.length cy) (.slice pz L.length cz) i).ownBlock = some k → w1.heap.size ≤ k ∧ k < w4.heap.size := three_cases (fun k hk => by have := ax k hk; omega) (fun k hk => by have := ay k hk; omega) (fun k hk => by have := az k hk; omega)
  have hsa : Sa1 w1.heap.size w7.heap.size (ttr (.slice px L.length cx) (.slice py L2.length cy) (.slice pz L.length cz)) (fun i => if i = 1 then L2 else L) w8 w8 := by
    refine ⟨by rw [hw8]; exact heap_alloc_new _ _, three_cases hx8 (own_mono hy8 (by omega)) (own_mono hz8 (by omega)), ?_, by rw [hw8, World.size_alloc]; omega, Svd.refl _ _⟩
    intro i j hi hj hij k h1 h2
    have hi2 : i = 0 ∨ i = 1 ∨ i = 2 := by omega
    have hj2 : j = 0 ∨ j = 1 ∨ j = 2 := by omega
    rcases hi2 with rfl | rfl | rfl <;> rcases hj2 with rfl | rfl | rfl
    · exact hij rfl
    · have := ax k h1; have := ay k h2; omega
    · have := ax k h1; have := az k h2; omega
    · have := ay k h1; have := ax k h2; omega
    · exact hij rfl
    · have := ay k h1; have := az k h2; omega
    · have := az k h1; have := ax k h2; omega
    · have := az k h1; have := ay k h2; omega
    · exact hij rfl
  have HSA := Hid.mk' hsa
  have HAL := Hid.mk' hall
  have HW8 : Hid (w8 = w7.alloc (.cells #[.slice px L.length cx, .slice py L2.length cy, .slice pz L.length cz] 23)) := hw8
  have HWW := Hid.mk' hww8
  have HB8 : Hid (Below w1.heap.size w1 w8) := by
    rw [hw8]
    exact (below_up (below_up (below_up (below_up (below_up HB2.out HB3.out (Nat.le_refl _)) HB4.out (by omega)) HB5.out (by omega)) HB7.out (by omega)) ((Below.refl w7.heap.size w7).alloc (Nat.le_refl _) _) (by omega))
  clear hsa hall hw8 hww8 hx8 hy8 hz8 ax ay az h12 h23 h34 h45 h57
  go_wp2_with fail
  rw [← HW8.out]
  refine (apart_any w1.heap.size w7.heap.size _ _ w8 HSA.out (three_cases (by exact H1.out) (by exact H2.out) (by exact H1.out)) HB8.out.size).mono ?_
  rintro e w9 ⟨rfl, hv9⟩
  have hs4 : w4.heap.size ≤ w8.heap.size := by rw [HW8.out, World.size_alloc]; have := HB5.out.size; have := HB7.out.size; omega
  have HB9 : Hid (Below w1.heap.size w1 w9) := ⟨hv9.os.trans HB8.out.os, hv9.tape.trans HB8.out.tape, hv9.output.trans HB8.out.output, Nat.le_trans HB8.out.size hv9.size, fun k hk => (hv9.block k (Nat.lt_of_lt_of_le hk HB8.out.size) (fun i hi e => by have := HAL.out i hi k e; omega)).trans (HB8.out.block k hk)⟩
  have HW9 : Hid (w9.ownsRow w4.heap.size 35 2 vw L.length (lnV L)) := row_kept HWW.out fun k hk => hv9.block k (HWW.out.lt k hk).2 (fun i hi e => by have := HAL.out i hi k e; have := (HWW.out.lt k hk).1; omega)
  clear hv9 hs4
  go_wp2_with fail
  refine (HD.out w9).mono ?_
  intro e w10 hd10
  obtain ⟨va, rfl, ha, hb10⟩ := dec_row hd10
  rw [← HL.out] at ha
  have HA := Hid.mk' ha
  have HB10 := Hid.mk' hb10
  clear hd10 ha hb10
  go_wp2_with fail
  refine (same_any va vw L w10 (own_ls HA.out) (own_ls (row_below HW9.out HB10.out)) (by have := H1.out; omega)).mono ?_
  rintro e w11 ⟨rfl, k11, hw11⟩
  have HB11 : Hid (Below w.heap.size w w11) := by
    rw [hw11]
    exact (below_up HB1.out (below_up HB9.out HB10.out (Nat.le_refl _)) (Nat.le_refl _)).drewN' k11
  clear hw11
  go_wp2_with fail
  go_ret
  exact ⟨by first | rfl | simp, HB11.out⟩
end Go.Proofs.Ytchhdkmflppjhaa
