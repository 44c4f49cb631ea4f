/-
  The walk of the law CodeReads: whatever texts and script it is given it returns true, and of what was there nothing turns. Conditions: texts no longer than a text that is read can be; the script's cells hold ints.
-/
import Derived.Test.YthmaaeibdcoemaaStepR
import Derived.Deep.DrawnRows
namespace Go.Proofs.Ythmaaeibdcoemaa
open Go.RowKit
attribute [local go_sem ↓] Go.wp_at_zero Go.wp_at_succ
set_option linter.unusedVariables false
theorem Two.cell {g h k o : Nat} {a b : World} (x : Two g h a b) (hk : k < a.heap.size) (hg : k ≠ g) (hh : k ≠ h) : b.cell? ⟨k, o, none⟩ = a.cell? ⟨k, o, none⟩ := by
  simp [World.cell?, x.block k hk hg hh]
/-- two Readers and the document's, in blocks of their own; two arrays of their addresses -/
structure Duo (g1 g2 h1 h2 A C : Nat) (one two : ByteArray) (a1 a2 : Nat) (w : World) : Prop where
  r1 : Rdr g1 one a1 w
  r2 : Rdr g2 two a2 w
  q1 : Rd2 h1 one a1 w
  q2 : Rd2 h2 two a2 w
  ra : w.heap[A]? = some (.cells #[.pointer (some ⟨g1, 0, none⟩), .pointer (some ⟨g2, 0, none⟩)] 37 (0, 0))
  rc : w.heap[C]? = some (.cells #[.pointer (some ⟨h1, 0, none⟩), .pointer (some ⟨h2, 0, none⟩)] 40 (0, 0))
/-- the blocks are unlike, and none is old -/
structure Apart (B g1 g2 h1 h2 A C : Nat) : Prop where
  b1 : B ≤ g1
  b2 : B ≤ g2
  b3 : B ≤ h1
  b4 : B ≤ h2
  b5 : B ≤ A
  b6 : B ≤ C
  n12 : g1 < g2
  n23 : g2 < A
  n34 : A < h1
  n45 : h1 < h2
  n56 : h2 < C
theorem Duo.step1 {B g1 g2 h1 h2 A C : Nat} {one two : ByteArray} {a1 a2 b1 : Nat} {w w' : World} (h : Duo g1 g2 h1 h2 A C one two a1 a2 w) (n : Apart B g1 g2 h1 h2 A C) (r : Rdr g1 one b1 w') (q : Rd2 h1 one b1 w') (t : Two g1 h1 w w') : Duo g1 g2 h1 h2 A C one two b1 a2 w' := by
  have := n.n12; have := n.n23; have := n.n34; have := n.n45; have := n.n56
  exact ⟨r, (t.block g2 h.r2.lt (by omega) (by omega)).trans h.r2, q, (t.block h2 h.q2.lt (by omega) (by omega)).trans h.q2, (t.block A (Array.getElem?_eq_some_iff.1 h.ra).1 (by omega) (by omega)).trans h.ra, (t.block C (Array.getElem?_eq_some_iff.1 h.rc).1 (by omega) (by omega)).trans h.rc⟩
theorem Duo.step2 {B g1 g2 h1 h2 A C : Nat} {one two : ByteArray} {a1 a2 b2 : Nat} {w w' : World} (h : Duo g1 g2 h1 h2 A C one two a1 a2 w) (n : Apart B g1 g2 h1 h2 A C) (r : Rdr g2 two b2 w') (q : Rd2 h2 two b2 w') (t : Two g2 h2 w w') : Duo g1 g2 h1 h2 A C one two a1 b2 w' := by
  have := n.n12; have := n.n23; have := n.n34; have := n.n45; have := n.n56
  exact ⟨(t.block g1 h.r1.lt (by omega) (by omega)).trans h.r1, r, (t.block h1 h.q1.lt (by omega) (by omega)).trans h.q1, q, (t.block A (Array.getElem?_eq_some_iff.1 h.ra).1 (by omega) (by omega)).trans h.ra, (t.block C (Array.getElem?_eq_some_iff.1 h.rc).1 (by omega) (by omega)).trans h.rc⟩
theorem pick2 (c : Int) (w : World) (h0 : -9223372036854775808 ≤ c) (h1 : c ≤ 9223372036854775807) :
    Calls Try.prog 24 #[.int .i64 c, .int .i64 2] w fun e w' => e = .returned (.int .i64 (pickN c 2 : Int)) ∧ w' = w :=
  pick_any c 2 w h0 h1 (by decide) (by decide)
set_option maxRecDepth 100000 in
set_option maxHeartbeats 4000000 in
theorem codeReads_any (one two : ByteArray) (p : Option Addr) (len cap : Nat) (K O N : Nat → Int) (w : World) (h1 : one.size ≤ 140737488351232) (h2 : two.size ≤ 140737488351232) (hl : len ≤ 140737488351232)
    (hK : ∀ i, i < len → (-9223372036854775808 ≤ O i ∧ O i ≤ 9223372036854775807) ∧ N i ≤ 9223372036854775807)
    (hc : ∀ i, i < len → ∃ g off, p = some ⟨g, off, none⟩ ∧ w.cell? ⟨g, off + i * 3, none⟩ = some (.int .i64 (K i)) ∧ w.cell? ⟨g, off + i * 3 + 1, none⟩ = some (.int .i64 (O i)) ∧ w.cell? ⟨g, off + i * 3 + 2, none⟩ = some (.int .i64 (N i))) :
    Calls Try.prog 5 #[.string one, .string two, .slice p len cap] w fun e w' => e = .returned (.bool true) ∧ Below w.heap.size w w' := by
  have hnot : ∀ (x : Bool) (w : World), (Op.unary .not (.bool x)).run Try.prog w = .ok (.bool (!x)) w := fun _ _ => rfl
  have HKK := Hid.mk' hK
  have HCC := Hid.mk' hc
  have H1 := Hid.mk' h1
  have H2 := Hid.mk' h2
  have l1 : (len : Int) ≤ 140737488351232 := by omega
  clear hK hc h1 h2 hl
  go_enter Try.func5, Try.ntmps5
  go_wp2_with fail
  refine (known_any w).mono ?_
  rintro e w1 ⟨rfl, hb1⟩
  have HB1 := Hid.mk' hb1
  clear hb1
  go_wp2_with fail
  refine (read_any one w1).mono ?_
  rintro e w2 ⟨g1, hg1, rfl, hr1, hb2⟩
  have HB2 : Hid (Below w.heap.size w w2) := HB1.out.trans (hb2.mono HB1.out.size)
  have HG1 : Hid (w.heap.size ≤ g1) := Nat.le_trans HB1.out.size hg1
  have HR1 := Hid.mk' hr1
  clear hb2 hg1 hr1
  go_wp2_with fail
  refine (read_any two w2).mono ?_
  rintro e w3 ⟨g2, hg2, rfl, hr2, hb3⟩
  have HB3 : Hid (Below w.heap.size w w3) := HB2.out.trans (hb3.mono HB2.out.size)
  have HG2 : Hid (g1 < g2) := Nat.lt_of_lt_of_le HR1.out.lt hg2
  have HR1b := Hid.mk' (HR1.out.below hb3 HR1.out.lt)
  have HR2 := Hid.mk' hr2
  clear hb3 hg2 hr2
  go_wp2_with fail
  obtain ⟨w4, hw4⟩ : ∃ w4, w4 = w3.alloc (.cells #[.pointer (some ⟨g1, 0, none⟩), .pointer (some ⟨g2, 0, none⟩)] 37) := ⟨_, rfl⟩
  obtain ⟨A, HAE⟩ : ∃ A, Hid (A = w3.heap.size) := ⟨_, Hid.mk' rfl⟩
  have hb4 : Below w3.heap.size w3 w4 := by rw [hw4]; exact (Below.refl _ _).alloc (Nat.le_refl _) _
  have HRA : Hid (w4.heap[A]? = some (.cells #[.pointer (some ⟨g1, 0, none⟩), .pointer (some ⟨g2, 0, none⟩)] 37 (0, 0))) := by rw [hw4, HAE.out]; exact heap_alloc_new w3 _
  have HG3 : Hid (g2 < A) := by rw [HAE.out]; exact HR2.out.lt
  have HR1c := Hid.mk' (HR1b.out.below hb4 HR1b.out.lt)
  have HR2c := Hid.mk' (HR2.out.below hb4 HR2.out.lt)
  have HB4 : Hid (Below w.heap.size w w4) := HB3.out.trans (hb4.mono HB3.out.size)
  have HZ4 : Hid (A < w4.heap.size) := (Array.getElem?_eq_some_iff.1 HRA.out).1
  rw [← hw4, ← HAE.out]
  clear hw4 hb4 HAE HR1 HR1b HR2 HB1 HB2 HB3
  refine (refRead_any one w4).mono ?_
  rintro e w5 ⟨h1, hh1, rfl, hq1, hb5⟩
  have HG4 : Hid (A < h1) := Nat.lt_of_lt_of_le HZ4.out hh1
  have HB5 : Hid (Below w.heap.size w w5) := HB4.out.trans (hb5.mono HB4.out.size)
  have HR1d := Hid.mk' (HR1c.out.below hb5 HR1c.out.lt)
  have HR2d := Hid.mk' (HR2c.out.below hb5 HR2c.out.lt)
  have HRAd : Hid (w5.heap[A]? = some (.cells #[.pointer (some ⟨g1, 0, none⟩), .pointer (some ⟨g2, 0, none⟩)] 37 (0, 0))) := (hb5.block A HZ4.out).trans HRA.out
  have HQ1 := Hid.mk' hq1
  clear hb5 hh1 hq1 HR1c HR2c HRA HB4 HZ4
  go_wp2_with fail
  refine (refRead_any two w5).mono ?_
  rintro e w6 ⟨h2, hh2, rfl, hq2, hb6⟩
  have HG5 : Hid (h1 < h2) := Nat.lt_of_lt_of_le HQ1.out.lt hh2
  have HB6 : Hid (Below w.heap.size w w6) := HB5.out.trans (hb6.mono HB5.out.size)
  have HR1e := Hid.mk' (HR1d.out.below hb6 HR1d.out.lt)
  have HR2e := Hid.mk' (HR2d.out.below hb6 HR2d.out.lt)
  have HQ1e := Hid.mk' (HQ1.out.below hb6 HQ1.out.lt)
  have HRAe : Hid (w6.heap[A]? = some (.cells #[.pointer (some ⟨g1, 0, none⟩), .pointer (some ⟨g2, 0, none⟩)] 37 (0, 0))) := (hb6.block A (Array.getElem?_eq_some_iff.1 HRAd.out).1).trans HRAd.out
  have HQ2 := Hid.mk' hq2
  clear hb6 hh2 hq2 HR1d HR2d HRAd HQ1 HB5
  obtain ⟨w7, hw7⟩ : ∃ w7, w7 = w6.alloc (.cells #[.pointer (some ⟨h1, 0, none⟩), .pointer (some ⟨h2, 0, none⟩)] 40) := ⟨_, rfl⟩
  obtain ⟨C, HCE⟩ : ∃ C, Hid (C = w6.heap.size) := ⟨_, Hid.mk' rfl⟩
  have hb7 : Below w6.heap.size w6 w7 := by rw [hw7]; exact (Below.refl _ _).alloc (Nat.le_refl _) _
  have HD : Hid (Duo g1 g2 h1 h2 A C one two 0 0 w7) := ⟨HR1e.out.below hb7 HR1e.out.lt, HR2e.out.below hb7 HR2e.out.lt, HQ1e.out.below hb7 HQ1e.out.lt, HQ2.out.below hb7 HQ2.out.lt, (hb7.block A (Array.getElem?_eq_some_iff.1 HRAe.out).1).trans HRAe.out, by rw [hw7, HCE.out]; exact heap_alloc_new w6 _⟩
  have HB7 : Hid (Below w.heap.size w w7) := HB6.out.trans (hb7.mono HB6.out.size)
  have HAP : Hid (Apart w.heap.size g1 g2 h1 h2 A C) := by
    have a1 := HG1.out; have a2 := HG2.out; have a3 := HG3.out; have a4 := HG4.out; have a5 := HG5.out
    have a6 : h2 < C := by rw [HCE.out]; exact HQ2.out.lt
    exact ⟨by omega, by omega, by omega, by omega, by omega, by omega, a2, a3, a4, a5, a6⟩
  have x0 : w7.cell? ⟨A, 0, none⟩ = some (.pointer (some ⟨g1, 0, none⟩)) := by rw [Lib.cell_of_heap HD.out.ra]; rfl
  have x1 : w7.cell? ⟨A, 1, none⟩ = some (.pointer (some ⟨g2, 0, none⟩)) := by rw [Lib.cell_of_heap HD.out.ra]; rfl
  have y0 : (w6.alloc (.cells #[.pointer (some ⟨h1, 0, none⟩), .pointer (some ⟨h2, 0, none⟩)] 40)).cell? ⟨A, 0, none⟩ = some (.pointer (some ⟨g1, 0, none⟩)) := by rw [← hw7]; exact x0
  have y1 : (w6.alloc (.cells #[.pointer (some ⟨h1, 0, none⟩), .pointer (some ⟨h2, 0, none⟩)] 40)).cell? ⟨A, 1, none⟩ = some (.pointer (some ⟨g2, 0, none⟩)) := by rw [← hw7]; exact x1
  have HW7 := Hid.mk' hw7
  clear hw7 hb7 HR1e HR2e HQ1e HQ2 HRAe HB6 HG1 HG2 HG3 HG4 HG5 x0 x1
  go_wp2_with fail
  rw [← HW7.out, ← HCE.out]
  clear y0 y1 HW7 HCE
  go_loopw [10] (fun i' wr => ∃ (i a1 a2 : Nat), i' = .int .i64 (i : Int) ∧ i ≤ len ∧ i ≤ 300 ∧ a1 ≤ one.size ∧ a2 ≤ two.size ∧ Duo g1 g2 h1 h2 A C one two a1 a2 wr ∧ Below w.heap.size w wr) (fun i' _ => 300 - (intOf i').toNat)
  case atStart => exact ⟨0, 0, 0, rfl, by omega, by omega, by omega, by omega, HD.out, HB7.out⟩
  case round =>
    obtain ⟨i, a1, a2, rfl, hil, hi3, ha1, ha2, hd, hb⟩ := hrel
    have HIL := Hid.mk' hil
    have HI3 := Hid.mk' hi3
    have HA1 := Hid.mk' ha1
    have HA2 := Hid.mk' ha2
    have HDD := Hid.mk' hd
    have HB := Hid.mk' hb
    clear hil hi3 ha1 ha2 hd hb HD HB7
    by_cases hlt : i < len ∧ i < 300
    · obtain ⟨hlt, hlt3⟩ := hlt
      obtain ⟨gS, off, rfl, s0, s1, s2⟩ := HCC.out i hlt
      have hSl : gS < w.heap.size := by
        rcases Nat.lt_or_ge gS w.heap.size with h | h
        · exact h
        · simp [World.cell?, Array.getElem?_eq_none h] at s0
      have t0 := (HB.out.cell (p := ⟨gS, off + i * 3, none⟩) hSl).trans s0
      have t1 := (HB.out.cell (p := ⟨gS, off + i * 3 + 1, none⟩) hSl).trans s1
      have t2 := (HB.out.cell (p := ⟨gS, off + i * 3 + 2, none⟩) hSl).trans s2
      have hbO := (HKK.out i hlt).1
      have HBN := Hid.mk' (HKK.out i hlt).2
      generalize K i = k at *
      generalize O i = o at *
      generalize N i = n at *
      have i1 : (i : Int) < (len : Int) := by omega
      have i2 : (i : Int) < 300 := by omega
      have i0 : (0 : Int) ≤ (i : Int) := by omega
      have HLT := Hid.mk' hlt
      have HLT3 := Hid.mk' hlt3
      clear hlt hlt3 s0 s1 s2
      go_wp2_with fail
      refine (pick2 o wr hbO.1 hbO.2).mono ?_
      rintro e w' ⟨rfl, hw'⟩
      rw [hw']
      clear hw' w'
      have hpk : pickN o 2 = 0 ∨ pickN o 2 = 1 := by unfold pickN; omega
      rcases hpk with hk | hk
      · have z0 : wr.cell? ⟨A, 0, none⟩ = some (.pointer (some ⟨g1, 0, none⟩)) := by rw [Lib.cell_of_heap HDD.out.ra]; rfl
        have z1 : wr.cell? ⟨C, 0, none⟩ = some (.pointer (some ⟨h1, 0, none⟩)) := by rw [Lib.cell_of_heap HDD.out.rc]; rfl
        have HAL : Hid (A < wr.heap.size ∧ C < wr.heap.size) := ⟨(Array.getElem?_eq_some_iff.1 HDD.out.ra).1, (Array.getElem?_eq_some_iff.1 HDD.out.rc).1⟩
        have HSL : Hid (gS < wr.heap.size) := Nat.lt_of_lt_of_le hSl HB.out.size
        rw [hk]
        clear hk
        simp only [Int.cast_ofNat_Int]
        go_wp2_with fail
        go_region_held3 (fun w' => w'.cell? ⟨A, 0, none⟩ = some (.pointer (some ⟨g1, 0, none⟩)) ∧ w'.cell? ⟨C, 0, none⟩ = some (.pointer (some ⟨h1, 0, none⟩)) ∧ w'.cell? ⟨gS, off + i * 3, none⟩ = some (.int .i64 k) ∧ w'.cell? ⟨gS, off + i * 3 + 1, none⟩ = some (.int .i64 o) ∧ w'.cell? ⟨gS, off + i * 3 + 2, none⟩ = some (.int .i64 n)) (first | go_keep | exact ⟨v0, v1, v2, v3, v4⟩)
          ((first | (go_at_call 25; refine (step_any g1 h1 one a1 k o n wr.drew (by exact HDD.out.r1) (by exact HDD.out.q1) (by have := HAP.out.n12; have := HAP.out.n23; have := HAP.out.n34; have := HAP.out.n45; have := HAP.out.n56; omega) HA1.out (by have := H1.out; omega) HBN.out).mono ?_; rintro e wz ⟨rfl, hrz, hqz, htz⟩; have v0 := (htz.cell (k := A) (o := 0) (by exact HAL.out.1) (by have := HAP.out.n12; have := HAP.out.n23; omega) (by have := HAP.out.n34; have := HAP.out.n45; omega)).trans z0; have v1 := (htz.cell (k := C) (o := 0) (by exact HAL.out.2) (by have := HAP.out.n12; have := HAP.out.n23; have := HAP.out.n34; have := HAP.out.n45; have := HAP.out.n56; omega) (by have := HAP.out.n45; have := HAP.out.n56; omega)).trans z1; have v2 := (htz.cell (k := gS) (o := off + i * 3) (by exact HSL.out) (by have := HAP.out.b1; have := HAP.out.b2; omega) (by have := HAP.out.b3; have := HAP.out.b4; omega)).trans t0; have v3 := (htz.cell (k := gS) (o := off + i * 3 + 1) (by exact HSL.out) (by have := HAP.out.b1; have := HAP.out.b2; omega) (by have := HAP.out.b3; have := HAP.out.b4; omega)).trans t1; have v4 := (htz.cell (k := gS) (o := off + i * 3 + 2) (by exact HSL.out) (by have := HAP.out.b1; have := HAP.out.b2; omega) (by have := HAP.out.b3; have := HAP.out.b4; omega)).trans t2; have HRZ := Hid.mk' hrz; have HQZ := Hid.mk' hqz; have HTZ := Hid.mk' htz; clear hrz hqz htz)))
        go_wp2_with fail
        go_roundw
        case rel => exact ⟨i + 1, stepP one a1 k n, a2, by go_num, HLT.out, HLT3.out, stepP_le one a1 k n HA1.out, HA2.out, Duo.step1 (show Duo g1 g2 h1 h2 A C one two a1 a2 wr.drew from ⟨HDD.out.r1, HDD.out.r2, HDD.out.q1, HDD.out.q2, HDD.out.ra, HDD.out.rc⟩) HAP.out HRZ.out HQZ.out HTZ.out, (show Below w.heap.size w wr.drew from ⟨HB.out.os, HB.out.tape, HB.out.output, HB.out.size, HB.out.block⟩).trans (HTZ.out.below HAP.out.b1 HAP.out.b3 HB.out.size)⟩
        case measure => have := HLT3.out; simp [intOf]; omega
      · have z0 : wr.cell? ⟨A, 1, none⟩ = some (.pointer (some ⟨g2, 0, none⟩)) := by rw [Lib.cell_of_heap HDD.out.ra]; rfl
        have z1 : wr.cell? ⟨C, 1, none⟩ = some (.pointer (some ⟨h2, 0, none⟩)) := by rw [Lib.cell_of_heap HDD.out.rc]; rfl
        have HAL : Hid (A < wr.heap.size ∧ C < wr.heap.size) := ⟨(Array.getElem?_eq_some_iff.1 HDD.out.ra).1, (Array.getElem?_eq_some_iff.1 HDD.out.rc).1⟩
        have HSL : Hid (gS < wr.heap.size) := Nat.lt_of_lt_of_le hSl HB.out.size
        rw [hk]
        clear hk
        simp only [Int.cast_ofNat_Int]
        go_wp2_with fail
        go_region_held3 (fun w' => w'.cell? ⟨A, 1, none⟩ = some (.pointer (some ⟨g2, 0, none⟩)) ∧ w'.cell? ⟨C, 1, none⟩ = some (.pointer (some ⟨h2, 0, none⟩)) ∧ w'.cell? ⟨gS, off + i * 3, none⟩ = some (.int .i64 k) ∧ w'.cell? ⟨gS, off + i * 3 + 1, none⟩ = some (.int .i64 o) ∧ w'.cell? ⟨gS, off + i * 3 + 2, none⟩ = some (.int .i64 n)) (first | go_keep | exact ⟨v0, v1, v2, v3, v4⟩)
          ((first | (go_at_call 25; refine (step_any g2 h2 two a2 k o n wr.drew (by exact HDD.out.r2) (by exact HDD.out.q2) (by have := HAP.out.n12; have := HAP.out.n23; have := HAP.out.n34; have := HAP.out.n45; have := HAP.out.n56; omega) HA2.out (by have := H2.out; omega) HBN.out).mono ?_; rintro e wz ⟨rfl, hrz, hqz, htz⟩; have v0 := (htz.cell (k := A) (o := 1) (by exact HAL.out.1) (by have := HAP.out.n12; have := HAP.out.n23; omega) (by have := HAP.out.n34; have := HAP.out.n45; omega)).trans z0; have v1 := (htz.cell (k := C) (o := 1) (by exact HAL.out.2) (by have := HAP.out.n12; have := HAP.out.n23; have := HAP.out.n34; have := HAP.out.n45; have := HAP.out.n56; omega) (by have := HAP.out.n45; have := HAP.out.n56; omega)).trans z1; have v2 := (htz.cell (k := gS) (o := off + i * 3) (by exact HSL.out) (by have := HAP.out.b1; have := HAP.out.b2; omega) (by have := HAP.out.b3; have := HAP.out.b4; omega)).trans t0; have v3 := (htz.cell (k := gS) (o := off + i * 3 + 1) (by exact HSL.out) (by have := HAP.out.b1; have := HAP.out.b2; omega) (by have := HAP.out.b3; have := HAP.out.b4; omega)).trans t1; have v4 := (htz.cell (k := gS) (o := off + i * 3 + 2) (by exact HSL.out) (by have := HAP.out.b1; have := HAP.out.b2; omega) (by have := HAP.out.b3; have := HAP.out.b4; omega)).trans t2; have HRZ := Hid.mk' hrz; have HQZ := Hid.mk' hqz; have HTZ := Hid.mk' htz; clear hrz hqz htz)))
        go_wp2_with fail
        go_roundw
        case rel => exact ⟨i + 1, a1, stepP two a2 k n, by go_num, HLT.out, HLT3.out, HA1.out, stepP_le two a2 k n HA2.out, Duo.step2 (show Duo g1 g2 h1 h2 A C one two a1 a2 wr.drew from ⟨HDD.out.r1, HDD.out.r2, HDD.out.q1, HDD.out.q2, HDD.out.ra, HDD.out.rc⟩) HAP.out HRZ.out HQZ.out HTZ.out, (show Below w.heap.size w wr.drew from ⟨HB.out.os, HB.out.tape, HB.out.output, HB.out.size, HB.out.block⟩).trans (HTZ.out.below HAP.out.b2 HAP.out.b4 HB.out.size)⟩
        case measure => have := HLT3.out; simp [intOf]; omega
    · obtain ⟨b, hbb, hb2⟩ : ∃ b : Bool, b = decide ((i : Int) < (len : Int)) ∧ (b = true → ¬ (i : Int) < 300) := ⟨_, rfl, fun h => by have := of_decide_eq_true h; omega⟩
      have i0 : (0 : Int) ≤ (i : Int) := by omega
      have z0 : wr.cell? ⟨A, 0, none⟩ = some (.pointer (some ⟨g1, 0, none⟩)) := by rw [Lib.cell_of_heap HDD.out.ra]; rfl
      have z1 : wr.cell? ⟨A, 1, none⟩ = some (.pointer (some ⟨g2, 0, none⟩)) := by rw [Lib.cell_of_heap HDD.out.ra]; rfl
      have z2 : wr.cell? ⟨C, 0, none⟩ = some (.pointer (some ⟨h1, 0, none⟩)) := by rw [Lib.cell_of_heap HDD.out.rc]; rfl
      have z3 : wr.cell? ⟨C, 1, none⟩ = some (.pointer (some ⟨h2, 0, none⟩)) := by rw [Lib.cell_of_heap HDD.out.rc]; rfl
      clear hlt
      by_cases hq : (i : Int) < (len : Int)
      · have hq3 : ¬ (i : Int) < 300 := hb2 (by rw [hbb]; exact decide_eq_true hq)
        clear hbb hb2 b
        go_wp2_with fail
        refine wp_loop_rounds 3 ?_
        rw [rounds_succ]
        go_wp2_with fail
        go_quiet ((first | (go_at_call 26; exact Calls.quiet_of_same (at_any g1 one a1 _ (by exact HDD.out.r1))) | (go_at_call 27; exact Calls.quiet_of_same (refAt_any h1 one a1 _ (by exact HDD.out.q1)))))
        go_wp2_with fail
        rw [rounds_succ]
        have HDX : Hid (Duo g1 g2 h1 h2 A C one two a1 a2 (wr.drewN nq)) := ⟨HDD.out.r1, HDD.out.r2, HDD.out.q1, HDD.out.q2, HDD.out.ra, HDD.out.rc⟩
        have HBX : Hid (Below w.heap.size w (wr.drewN nq)) := ⟨HB.out.os, HB.out.tape, HB.out.output, HB.out.size, HB.out.block⟩
        clear z0 z1 z2 z3 HDD HB
        generalize wr.drewN nq = wx at *
        have z1 : wx.cell? ⟨A, 1, none⟩ = some (.pointer (some ⟨g2, 0, none⟩)) := by rw [Lib.cell_of_heap HDX.out.ra]; rfl
        have z3 : wx.cell? ⟨C, 1, none⟩ = some (.pointer (some ⟨h2, 0, none⟩)) := by rw [Lib.cell_of_heap HDX.out.rc]; rfl
        go_wp2_with fail
        go_quiet ((first | (go_at_call 26; exact Calls.quiet_of_same (at_any g2 two a2 _ (by exact HDX.out.r2))) | (go_at_call 27; exact Calls.quiet_of_same (refAt_any h2 two a2 _ (by exact HDX.out.q2)))))
        go_wp2_with fail
        rw [rounds_succ]
        go_wp2_with fail
        go_ret
        exact ⟨rfl, ⟨HBX.out.os, HBX.out.tape, HBX.out.output, HBX.out.size, HBX.out.block⟩⟩
      · clear hbb hb2 b
        go_wp2_with fail
        refine wp_loop_rounds 3 ?_
        rw [rounds_succ]
        go_wp2_with fail
        go_quiet ((first | (go_at_call 26; exact Calls.quiet_of_same (at_any g1 one a1 _ (by exact HDD.out.r1))) | (go_at_call 27; exact Calls.quiet_of_same (refAt_any h1 one a1 _ (by exact HDD.out.q1)))))
        go_wp2_with fail
        rw [rounds_succ]
        have HDX : Hid (Duo g1 g2 h1 h2 A C one two a1 a2 (wr.drewN nq)) := ⟨HDD.out.r1, HDD.out.r2, HDD.out.q1, HDD.out.q2, HDD.out.ra, HDD.out.rc⟩
        have HBX : Hid (Below w.heap.size w (wr.drewN nq)) := ⟨HB.out.os, HB.out.tape, HB.out.output, HB.out.size, HB.out.block⟩
        clear z0 z1 z2 z3 HDD HB
        generalize wr.drewN nq = wx at *
        have z1 : wx.cell? ⟨A, 1, none⟩ = some (.pointer (some ⟨g2, 0, none⟩)) := by rw [Lib.cell_of_heap HDX.out.ra]; rfl
        have z3 : wx.cell? ⟨C, 1, none⟩ = some (.pointer (some ⟨h2, 0, none⟩)) := by rw [Lib.cell_of_heap HDX.out.rc]; rfl
        go_wp2_with fail
        go_quiet ((first | (go_at_call 26; exact Calls.quiet_of_same (at_any g2 two a2 _ (by exact HDX.out.r2))) | (go_at_call 27; exact Calls.quiet_of_same (refAt_any h2 two a2 _ (by exact HDX.out.q2)))))
        go_wp2_with fail
        rw [rounds_succ]
        go_wp2_with fail
        go_ret
        exact ⟨rfl, ⟨HBX.out.os, HBX.out.tape, HBX.out.output, HBX.out.size, HBX.out.block⟩⟩
end Go.Proofs.Ythmaaeibdcoemaa
