/-
  Sealing says one image of one head and lines, and no other: the law BlockOne. Conditions: as it says.
-/
import Derived.Test.YtlplbnlfajdcbabGreatDoorBkR
namespace Go.Proofs.YtlplbnlfajdcbabGreatDoor
open Go.RowKit
set_option linter.unusedVariables false
set_option linter.unusedSimpArgs false
theorem madeB (h0 h1 h2 h3 h4 h5 h6 h7 h8 : Int) (v : Value) (l : List Rec.Ln) (hl : l.length ≤ 1125899906842624) (hls : (∀ x ∈ l, -9223372036854775808 ≤ x.1 ∧ x.1 ≤ 9223372036854775807 ∧ x.2.size ≤ 140737488351232)) (qh0 : -9223372036854775808 ≤ h0 ∧ h0 ≤ 9223372036854775807) (qh1 : -9223372036854775808 ≤ h1 ∧ h1 ≤ 9223372036854775807) (qh5 : -9223372036854775808 ≤ h5 ∧ h5 ≤ 9223372036854775807) (qh6 : -9223372036854775808 ≤ h6 ∧ h6 ≤ 9223372036854775807) :
    ∃ (a b f g : Nat) (L : List Rec.Ln), a ≤ 1152921504606846976 ∧ b ≤ 1152921504606846976 ∧ f ≤ 1152921504606846976 ∧ g ≤ 2 ∧ Fine L ∧ ∀ w, LsAt v l w → Calls Tryz.prog 5 #[.agg #[.int .i64 h0, .int .i64 h1, .int .i64 h2, .int .i64 h3, .int .i64 h4, .int .i64 h5, .int .i64 h6, .int .i64 h7, .int .i64 h8], v] w fun r w' => ∃ p c, r = .returned (.tuple #[.agg #[.int .i64 (a : Int), .int .i64 (b : Int), .int .i64 0, .int .i64 0, .int .i64 0, .int .i64 (f : Int), .int .i64 (g : Int), .int .i64 0, .int .i64 0], .slice p L.length c]) ∧ LsAt (.slice p L.length c) L w' ∧ Below w.heap.size w w' := by
  have p0 := pkB_lt h0 1152921504606846977 (by decide)
  have p1 := pkB_lt h1 1152921504606846977 (by decide)
  have p5 := pkB_lt h5 1152921504606846977 (by decide)
  have p6 := pkB_lt h6 3 (by decide)
  exact ⟨pkB h0 1152921504606846977, pkB h1 1152921504606846977, pkB h5 1152921504606846977, pkB h6 3, madeL l, by omega, by omega, by omega, by omega, made_fine l, fun w hv => made_any h0 h1 h2 h3 h4 h5 h6 h7 h8 v l w hv hl hls qh0 qh1 qh5 qh6⟩
set_option maxHeartbeats 4000000 in
set_option maxRecDepth 100000 in
theorem one_any (h0 h1 h2 h3 h4 h5 h6 h7 h8 k0 k1 k2 k3 k4 k5 k6 k7 k8 : Int) (v1 v2 : Value) (l m : List Rec.Ln) (w : World) (hv1 : LsAt v1 l w) (hv2 : LsAt v2 m w) (hl : l.length ≤ 1125899906842624) (hls : (∀ x ∈ l, -9223372036854775808 ≤ x.1 ∧ x.1 ≤ 9223372036854775807 ∧ x.2.size ≤ 140737488351232)) (hm : m.length ≤ 1125899906842624) (hms : (∀ x ∈ m, -9223372036854775808 ≤ x.1 ∧ x.1 ≤ 9223372036854775807 ∧ x.2.size ≤ 140737488351232))
    (qh0 : -9223372036854775808 ≤ h0 ∧ h0 ≤ 9223372036854775807) (qh1 : -9223372036854775808 ≤ h1 ∧ h1 ≤ 9223372036854775807) (qh5 : -9223372036854775808 ≤ h5 ∧ h5 ≤ 9223372036854775807) (qh6 : -9223372036854775808 ≤ h6 ∧ h6 ≤ 9223372036854775807) (qk0 : -9223372036854775808 ≤ k0 ∧ k0 ≤ 9223372036854775807) (qk1 : -9223372036854775808 ≤ k1 ∧ k1 ≤ 9223372036854775807) (qk5 : -9223372036854775808 ≤ k5 ∧ k5 ≤ 9223372036854775807) (qk6 : -9223372036854775808 ≤ k6 ∧ k6 ≤ 9223372036854775807) (ht : Tab w) :
    Calls Tryz.prog 3 #[.agg #[.int .i64 h0, .int .i64 h1, .int .i64 h2, .int .i64 h3, .int .i64 h4, .int .i64 h5, .int .i64 h6, .int .i64 h7, .int .i64 h8], v1, .agg #[.int .i64 k0, .int .i64 k1, .int .i64 k2, .int .i64 k3, .int .i64 k4, .int .i64 k5, .int .i64 k6, .int .i64 k7, .int .i64 k8], v2] w fun e w' => e = .returned (.bool true) ∧ Below w.heap.size w w' := by
  obtain ⟨a1, b1, f1, g1, L1, ra1, rb1, rf1, rg1, hf1, hmd1⟩ := madeB h0 h1 h2 h3 h4 h5 h6 h7 h8 v1 l hl hls qh0 qh1 qh5 qh6
  obtain ⟨a2, b2, f2, g2, L2, ra2, rb2, rf2, rg2, hf2, hmd2⟩ := madeB k0 k1 k2 k3 k4 k5 k6 k7 k8 v2 m hm hms qk0 qk1 qk5 qk6
  have hse1 : ∀ v W, LsAt v L1 W → Tab W → Calls Tryz.prog 6 #[.agg #[.int .i64 (a1 : Int), .int .i64 (b1 : Int), .int .i64 0, .int .i64 0, .int .i64 0, .int .i64 (f1 : Int), .int .i64 (g1 : Int), .int .i64 0, .int .i64 0], v] W fun r w' => r = .returned (.tuple #[.string (nums (imgL a1 b1 f1 g1 L1)), .nilIface]) ∧ Below W.heap.size W w' := fun v W hv hW => seal_ok a1 b1 f1 g1 0 0 0 0 0 v L1 W hv hf1 ra1 rb1 rf1 rg1 hW
  have hse2 : ∀ v W, LsAt v L2 W → Tab W → Calls Tryz.prog 6 #[.agg #[.int .i64 (a2 : Int), .int .i64 (b2 : Int), .int .i64 0, .int .i64 0, .int .i64 0, .int .i64 (f2 : Int), .int .i64 (g2 : Int), .int .i64 0, .int .i64 0], v] W fun r w' => r = .returned (.tuple #[.string (nums (imgL a2 b2 f2 g2 L2)), .nilIface]) ∧ Below W.heap.size W w' := fun v W hv hW => seal_ok a2 b2 f2 g2 0 0 0 0 0 v L2 W hv hf2 ra2 rb2 rf2 rg2 hW
  have hsm : ∀ u1 u2 W, LsAt u1 L1 W → LsAt u2 L2 W → Calls Tryz.prog 7 #[u1, u2] W fun e w' => e = .returned (.bool (decide (L1 = L2))) ∧ ∃ k, w' = W.drewN k := fun u1 u2 W h1 h2 => sameLines_any u1 u2 L1 L2 W h1 h2 (by have := hf1.len; omega) (by have := hf2.len; omega)
  have hhd : ∀ W, (binOp .eql 23 (.agg #[.int .i64 (a1 : Int), .int .i64 (b1 : Int), .int .i64 0, .int .i64 0, .int .i64 0, .int .i64 (f1 : Int), .int .i64 (g1 : Int), .int .i64 0, .int .i64 0]) (.agg #[.int .i64 (a2 : Int), .int .i64 (b2 : Int), .int .i64 0, .int .i64 0, .int .i64 0, .int .i64 (f2 : Int), .int .i64 (g2 : Int), .int .i64 0, .int .i64 0])).run Tryz.prog W = .ok (.bool (decide ((a1 : Int) = a2 ∧ (b1 : Int) = b2 ∧ (f1 : Int) = f2 ∧ (g1 : Int) = g2))) W := fun W => eql_headB a1 b1 f1 g1 a2 b2 f2 g2 W
  have hbs : decide (nums (imgL a1 b1 f1 g1 L1) = nums (imgL a2 b2 f2 g2 L2)) = (decide (L1 = L2) && decide ((a1 : Int) = a2 ∧ (b1 : Int) = b2 ∧ (f1 : Int) = f2 ∧ (g1 : Int) = g2)) := by
    by_cases h : nums (imgL a1 b1 f1 g1 L1) = nums (imgL a2 b2 f2 g2 L2)
    · obtain ⟨⟨rfl, rfl, rfl, rfl⟩, rfl⟩ := imgL_inj hf1 hf2 ra1 rb1 rf1 rg1 ra2 rb2 rf2 rg2 h
      simp
    · rw [decide_eq_false h]
      by_cases h9 : L1 = L2
      · by_cases h8 : (a1 : Int) = a2 ∧ (b1 : Int) = b2 ∧ (f1 : Int) = f2 ∧ (g1 : Int) = g2
        · exfalso
          obtain ⟨y1, y2, y3, y4⟩ := h8
          have z1 : a1 = a2 := by omega
          have z2 : b1 = b2 := by omega
          have z3 : f1 = f2 := by omega
          have z4 : g1 = g2 := by omega
          exact h (by rw [h9, z1, z2, z3, z4])
        · rw [decide_eq_false h8, Bool.and_false]
      · rw [decide_eq_false h9, Bool.false_and]
  obtain ⟨s1, hs1⟩ : ∃ s, nums (imgL a1 b1 f1 g1 L1) = s := ⟨_, rfl⟩
  obtain ⟨s2, hs2⟩ : ∃ s, nums (imgL a2 b2 f2 g2 L2) = s := ⟨_, rfl⟩
  rw [hs1] at hse1 hbs
  rw [hs2] at hse2 hbs
  have hst : ∀ W, (binOp .eql 9 (.string s1) (.string s2)).run Tryz.prog W = .ok (.bool (decide (s1 = s2))) W := fun W => str_eql s1 s2 W
  have hsq : (s1.toList == s2.toList) = decide (s1 = s2) := by
    by_cases h : s1 = s2
    · subst h
      simp
    · rw [decide_eq_false h, beq_eq_false_iff_ne]
      intro e
      rw [ByteArray.toList_eq, ByteArray.toList_eq] at e
      exact h (ByteArray.ext (Array.toList_inj.1 e))
  generalize decide (s1 = s2) = x1 at hbs hst hsq
  generalize decide (L1 = L2) = x2 at hbs hsm
  generalize decide ((a1 : Int) = a2 ∧ (b1 : Int) = b2 ∧ (f1 : Int) = f2 ∧ (g1 : Int) = g2) = x3 at hbs hhd
  subst hbs
  have HST := Hid.mk' hst
  have HSQ := Hid.mk' hsq
  have HHD := Hid.mk' hhd
  have HS1 := Hid.mk' hse1
  have HS2 := Hid.mk' hse2
  have HSM := Hid.mk' hsm
  have HM1 := Hid.mk' hmd1
  have HM2 := Hid.mk' hmd2
  have HKN := Hid.mk' (fun W (hW : Tab W) => known_any W hW)
  obtain ⟨B, hB⟩ : ∃ B, w.heap.size = B := ⟨_, rfl⟩
  obtain ⟨w0, hw0⟩ : ∃ w0, (w.alloc (.cells #[.int .i64 h0, .int .i64 h1, .int .i64 h2, .int .i64 h3, .int .i64 h4, .int .i64 h5, .int .i64 h6, .int .i64 h7, .int .i64 h8] 23)).alloc (.cells #[.int .i64 k0, .int .i64 k1, .int .i64 k2, .int .i64 k3, .int .i64 k4, .int .i64 k5, .int .i64 k6, .int .i64 k7, .int .i64 k8] 23) = w0 := ⟨_, rfl⟩
  have HA : Hid (∀ X, Below w0.heap.size w0 X → X.heap[B]? = some (.cells #[.int .i64 h0, .int .i64 h1, .int .i64 h2, .int .i64 h3, .int .i64 h4, .int .i64 h5, .int .i64 h6, .int .i64 h7, .int .i64 h8] 23 (0, 0)) ∧ X.heap[B + 1]? = some (.cells #[.int .i64 k0, .int .i64 k1, .int .i64 k2, .int .i64 k3, .int .i64 k4, .int .i64 k5, .int .i64 k6, .int .i64 k7, .int .i64 k8] 23 (0, 0)) ∧ LsAt v1 l X ∧ LsAt v2 m X ∧ Tab X ∧ Below w.heap.size w X) := by
    have z1 : (w.alloc (.cells #[.int .i64 h0, .int .i64 h1, .int .i64 h2, .int .i64 h3, .int .i64 h4, .int .i64 h5, .int .i64 h6, .int .i64 h7, .int .i64 h8] 23)).heap.size = B + 1 := by rw [World.size_alloc, hB]
    have z2 : w0.heap.size = B + 2 := by rw [← hw0, World.size_alloc, z1]
    have z3 : Below B w w0 := by
      rw [← hw0]
      exact ((Below.refl B w).alloc (by omega) _).alloc (by rw [z1]; omega) _
    have z4 : w0.heap[B]? = some (.cells #[.int .i64 h0, .int .i64 h1, .int .i64 h2, .int .i64 h3, .int .i64 h4, .int .i64 h5, .int .i64 h6, .int .i64 h7, .int .i64 h8] 23 (0, 0)) := by
      rw [← hw0]
      refine (Below.heap_alloc _ _ _ (by rw [z1]; omega)).trans ?_
      rw [← hB]
      exact heap_alloc_new _ _
    have z5 : w0.heap[B + 1]? = some (.cells #[.int .i64 k0, .int .i64 k1, .int .i64 k2, .int .i64 k3, .int .i64 k4, .int .i64 k5, .int .i64 k6, .int .i64 k7, .int .i64 k8] 23 (0, 0)) := by
      rw [← hw0, ← z1]
      exact heap_alloc_new _ _
    intro X hX
    have z6 : Below w.heap.size w X := by rw [hB]; exact z3.trans (hX.mono (by omega))
    exact ⟨(hX.block B (by omega)).trans z4, (hX.block (B + 1) (by omega)).trans z5, hv1.below z6, hv2.below z6, ht.below z6, z6⟩
  clear hv1 hv2 hl hls hm hms qh0 qh1 qh5 qh6 qk0 qk1 qk5 qk6 ht hf1 hf2 ra1 rb1 rf1 rg1 ra2 rb2 rf2 rg2 hmd1 hmd2 hse1 hse2 hsm hhd hs1 hs2 hst hsq
  go_enter Tryz.func3, Tryz.ntmps3
  go_upto_region 2 with (go_at_call 4; refine (HKN.out w0 (HA.out w0 (Below.refl _ _)).2.2.2.2.1).mono ?_; rintro r w1 ⟨rfl, hb1⟩; have HB1 := Hid.mk' hb1; clear hb1)
  have p0 := cell_at (k := 0) (HA.out w1 HB1.out).1 rfl
  have p1 := cell_at (k := 1) (HA.out w1 HB1.out).1 rfl
  have p2 := cell_at (k := 2) (HA.out w1 HB1.out).1 rfl
  have p3 := cell_at (k := 3) (HA.out w1 HB1.out).1 rfl
  have p4 := cell_at (k := 4) (HA.out w1 HB1.out).1 rfl
  have p5 := cell_at (k := 5) (HA.out w1 HB1.out).1 rfl
  have p6 := cell_at (k := 6) (HA.out w1 HB1.out).1 rfl
  have p7 := cell_at (k := 7) (HA.out w1 HB1.out).1 rfl
  have p8 := cell_at (k := 8) (HA.out w1 HB1.out).1 rfl
  go_upto_region 3 with (go_at_call 5; refine (HM1.out w1 (HA.out w1 HB1.out).2.2.1).mono ?_; rintro r w2 ⟨n1, c1, rfl, hv2, hb2⟩; have HB2 := Hid.mk' (HB1.out.trans (hb2.mono HB1.out.size)); have HV2 := Hid.mk' hv2; clear hb2 hv2)
  clear p0 p1 p2 p3 p4 p5 p6 p7 p8
  obtain ⟨C, hC⟩ : ∃ C, w2.heap.size = C := ⟨_, rfl⟩
  obtain ⟨w3, hww3⟩ : ∃ w3, w2.alloc (.cells #[.int .i64 (a1 : Int), .int .i64 (b1 : Int), .int .i64 0, .int .i64 0, .int .i64 0, .int .i64 (f1 : Int), .int .i64 (g1 : Int), .int .i64 0, .int .i64 0] 23) = w3 := ⟨_, rfl⟩
  have HX1 : Hid (∀ X, Below w3.heap.size w3 X → X.heap[C]? = some (.cells #[.int .i64 (a1 : Int), .int .i64 (b1 : Int), .int .i64 0, .int .i64 0, .int .i64 0, .int .i64 (f1 : Int), .int .i64 (g1 : Int), .int .i64 0, .int .i64 0] 23 (0, 0)) ∧ LsAt (.slice n1 L1.length c1) L1 X ∧ Below w0.heap.size w0 X) := by
    have z1 : w3.heap[C]? = some (.cells #[.int .i64 (a1 : Int), .int .i64 (b1 : Int), .int .i64 0, .int .i64 0, .int .i64 0, .int .i64 (f1 : Int), .int .i64 (g1 : Int), .int .i64 0, .int .i64 0] 23 (0, 0)) := by
      rw [← hww3, ← hC]
      exact heap_alloc_new _ _
    have z2 : Below w2.heap.size w2 w3 := by
      rw [← hww3]
      exact (Below.refl _ _).alloc (Nat.le_refl _) _
    intro X hX
    have z3 : Below w2.heap.size w2 X := z2.trans (hX.mono z2.size)
    exact ⟨(hX.block C (Array.getElem?_eq_some_iff.1 z1).1).trans z1, HV2.out.below z3, HB2.out.trans (z3.mono HB2.out.size)⟩
  try rw [hww3]
  try rw [hC]
  clear hww3 hC HB2 HV2 HB1
  have p0 := cell_at (k := 0) (HA.out w3 (HX1.out w3 (Below.refl _ _)).2.2).2.1 rfl
  have p1 := cell_at (k := 1) (HA.out w3 (HX1.out w3 (Below.refl _ _)).2.2).2.1 rfl
  have p2 := cell_at (k := 2) (HA.out w3 (HX1.out w3 (Below.refl _ _)).2.2).2.1 rfl
  have p3 := cell_at (k := 3) (HA.out w3 (HX1.out w3 (Below.refl _ _)).2.2).2.1 rfl
  have p4 := cell_at (k := 4) (HA.out w3 (HX1.out w3 (Below.refl _ _)).2.2).2.1 rfl
  have p5 := cell_at (k := 5) (HA.out w3 (HX1.out w3 (Below.refl _ _)).2.2).2.1 rfl
  have p6 := cell_at (k := 6) (HA.out w3 (HX1.out w3 (Below.refl _ _)).2.2).2.1 rfl
  have p7 := cell_at (k := 7) (HA.out w3 (HX1.out w3 (Below.refl _ _)).2.2).2.1 rfl
  have p8 := cell_at (k := 8) (HA.out w3 (HX1.out w3 (Below.refl _ _)).2.2).2.1 rfl
  go_upto_region 4 with (go_at_call 5; refine (HM2.out w3 (HA.out w3 (HX1.out w3 (Below.refl _ _)).2.2).2.2.2.1).mono ?_; rintro r w4 ⟨n2, c2, rfl, hv4, hb4⟩; have HB4 := Hid.mk' hb4; have HV4 := Hid.mk' hv4; have HB4x := Hid.mk' ((HX1.out w3 (Below.refl _ _)).2.2.trans (hb4.mono (HX1.out w3 (Below.refl _ _)).2.2.size)); clear hb4 hv4)
  clear p0 p1 p2 p3 p4 p5 p6 p7 p8
  obtain ⟨D, hD⟩ : ∃ D, w4.heap.size = D := ⟨_, rfl⟩
  obtain ⟨w5, hww5⟩ : ∃ w5, w4.alloc (.cells #[.int .i64 (a2 : Int), .int .i64 (b2 : Int), .int .i64 0, .int .i64 0, .int .i64 0, .int .i64 (f2 : Int), .int .i64 (g2 : Int), .int .i64 0, .int .i64 0] 23) = w5 := ⟨_, rfl⟩
  have HX2 : Hid (∀ X, Below w5.heap.size w5 X → X.heap[D]? = some (.cells #[.int .i64 (a2 : Int), .int .i64 (b2 : Int), .int .i64 0, .int .i64 0, .int .i64 0, .int .i64 (f2 : Int), .int .i64 (g2 : Int), .int .i64 0, .int .i64 0] 23 (0, 0)) ∧ LsAt (.slice n2 L2.length c2) L2 X ∧ Below w0.heap.size w0 X) := by
    have z1 : w5.heap[D]? = some (.cells #[.int .i64 (a2 : Int), .int .i64 (b2 : Int), .int .i64 0, .int .i64 0, .int .i64 0, .int .i64 (f2 : Int), .int .i64 (g2 : Int), .int .i64 0, .int .i64 0] 23 (0, 0)) := by
      rw [← hww5, ← hD]
      exact heap_alloc_new _ _
    have z2 : Below w4.heap.size w4 w5 := by
      rw [← hww5]
      exact (Below.refl _ _).alloc (Nat.le_refl _) _
    intro X hX
    have z3 : Below w4.heap.size w4 X := z2.trans (hX.mono z2.size)
    exact ⟨(hX.block D (Array.getElem?_eq_some_iff.1 z1).1).trans z1, HV4.out.below z3, HB4x.out.trans (z3.mono HB4x.out.size)⟩
  have HX1b : Hid (∀ X, Below w5.heap.size w5 X → X.heap[C]? = some (.cells #[.int .i64 (a1 : Int), .int .i64 (b1 : Int), .int .i64 0, .int .i64 0, .int .i64 0, .int .i64 (f1 : Int), .int .i64 (g1 : Int), .int .i64 0, .int .i64 0] 23 (0, 0)) ∧ LsAt (.slice n1 L1.length c1) L1 X) := by
    have z2 : Below w4.heap.size w4 w5 := by
      rw [← hww5]
      exact (Below.refl _ _).alloc (Nat.le_refl _) _
    intro X hX
    have z3 : Below w3.heap.size w3 X := HB4.out.trans ((z2.trans (hX.mono z2.size)).mono HB4.out.size)
    have z4 := HX1.out X z3
    exact ⟨z4.1, z4.2.1⟩
  try rw [hww5]
  try rw [hD]
  clear hww5 hD HB4x HV4 HB4 HX1
  have p0 := cell_at (k := 0) (HX1b.out w5 (Below.refl _ _)).1 rfl
  have p1 := cell_at (k := 1) (HX1b.out w5 (Below.refl _ _)).1 rfl
  have p2 := cell_at (k := 2) (HX1b.out w5 (Below.refl _ _)).1 rfl
  have p3 := cell_at (k := 3) (HX1b.out w5 (Below.refl _ _)).1 rfl
  have p4 := cell_at (k := 4) (HX1b.out w5 (Below.refl _ _)).1 rfl
  have p5 := cell_at (k := 5) (HX1b.out w5 (Below.refl _ _)).1 rfl
  have p6 := cell_at (k := 6) (HX1b.out w5 (Below.refl _ _)).1 rfl
  have p7 := cell_at (k := 7) (HX1b.out w5 (Below.refl _ _)).1 rfl
  have p8 := cell_at (k := 8) (HX1b.out w5 (Below.refl _ _)).1 rfl
  go_upto_region 5 with (go_at_call 6; refine (HS1.out _ w5 (HX1b.out w5 (Below.refl _ _)).2 (HA.out w5 (HX2.out w5 (Below.refl _ _)).2.2).2.2.2.2.1).mono ?_; rintro r w6 ⟨rfl, hb6⟩; have HB6 := Hid.mk' hb6; clear hb6)
  clear p0 p1 p2 p3 p4 p5 p6 p7 p8
  have p0 := cell_at (k := 0) (HX2.out w6 HB6.out).1 rfl
  have p1 := cell_at (k := 1) (HX2.out w6 HB6.out).1 rfl
  have p2 := cell_at (k := 2) (HX2.out w6 HB6.out).1 rfl
  have p3 := cell_at (k := 3) (HX2.out w6 HB6.out).1 rfl
  have p4 := cell_at (k := 4) (HX2.out w6 HB6.out).1 rfl
  have p5 := cell_at (k := 5) (HX2.out w6 HB6.out).1 rfl
  have p6 := cell_at (k := 6) (HX2.out w6 HB6.out).1 rfl
  have p7 := cell_at (k := 7) (HX2.out w6 HB6.out).1 rfl
  have p8 := cell_at (k := 8) (HX2.out w6 HB6.out).1 rfl
  go_upto_region 6 with (go_at_call 6; refine (HS2.out _ w6 (HX2.out w6 HB6.out).2.1 (HA.out w6 (HX2.out w6 HB6.out).2.2).2.2.2.2.1).mono ?_; rintro r w7 ⟨rfl, hb7⟩; have HB7 := Hid.mk' (HB6.out.trans (hb7.mono HB6.out.size)); clear hb7)
  clear p0 p1 p2 p3 p4 p5 p6 p7 p8
  go_upto_region 7 with (go_at_call 7; refine (HSM.out _ _ w7 (HX1b.out w7 HB7.out).2 (HX2.out w7 HB7.out).2.1).mono ?_; rintro r w8 ⟨rfl, nq8, hw8⟩; have HB8 : Hid (Below w5.heap.size w5 w8) := (by rw [hw8]; exact HB7.out.drewN' nq8); clear hw8)
  have p0 := cell_at (k := 0) (HX1b.out w8 HB8.out).1 rfl
  have p1 := cell_at (k := 1) (HX1b.out w8 HB8.out).1 rfl
  have p2 := cell_at (k := 2) (HX1b.out w8 HB8.out).1 rfl
  have p3 := cell_at (k := 3) (HX1b.out w8 HB8.out).1 rfl
  have p4 := cell_at (k := 4) (HX1b.out w8 HB8.out).1 rfl
  have p5 := cell_at (k := 5) (HX1b.out w8 HB8.out).1 rfl
  have p6 := cell_at (k := 6) (HX1b.out w8 HB8.out).1 rfl
  have p7 := cell_at (k := 7) (HX1b.out w8 HB8.out).1 rfl
  have p8 := cell_at (k := 8) (HX1b.out w8 HB8.out).1 rfl
  have q0 := cell_at (k := 0) (HX2.out w8 HB8.out).1 rfl
  have q1 := cell_at (k := 1) (HX2.out w8 HB8.out).1 rfl
  have q2 := cell_at (k := 2) (HX2.out w8 HB8.out).1 rfl
  have q3 := cell_at (k := 3) (HX2.out w8 HB8.out).1 rfl
  have q4 := cell_at (k := 4) (HX2.out w8 HB8.out).1 rfl
  have q5 := cell_at (k := 5) (HX2.out w8 HB8.out).1 rfl
  have q6 := cell_at (k := 6) (HX2.out w8 HB8.out).1 rfl
  have q7 := cell_at (k := 7) (HX2.out w8 HB8.out).1 rfl
  have q8 := cell_at (k := 8) (HX2.out w8 HB8.out).1 rfl
  have HBL := Hid.mk' (HA.out w8 (HX2.out w8 HB8.out).2.2).2.2.2.2.2
  have hst := HST.out
  have hhd := HHD.out
  cases x2
  · have hsq : (s1.toList == s2.toList) = false := HSQ.out
    go_wp2_with fail
    go_ret
    exact ⟨rfl, HBL.out⟩
  · cases x3
    · have hsq : (s1.toList == s2.toList) = false := HSQ.out
      go_wp2_with fail
      go_ret
      exact ⟨rfl, HBL.out⟩
    · have hsq : (s1.toList == s2.toList) = true := HSQ.out
      go_wp2_with fail
      go_ret
      exact ⟨rfl, HBL.out⟩
end Go.Proofs.YtlplbnlfajdcbabGreatDoor
