/-
  The walk of the law SumsHash: whatever it is given it returns true, and of what was there nothing turns. Conditions: seeds of 32 bits, a list no longer than what is read can be, its cells hold what an Op holds, the table of package sums lies as its text lays it.
-/
import Derived.Test.YtapphnkddjchkaaDoorHashZ
import Derived.Test.YtapphnkddjchkaaDoorRefXB
import Derived.Deep.RegionHeld3
import Derived.Deep.DrawnRows
import Derived.Laws.Strings
namespace Go.Proofs.YtapphnkddjchkaaDoor
open Go.RowKit
attribute [local go_sem ↓] Go.wp_at_zero Go.wp_at_succ
set_option linter.unusedVariables false
/-- of what was there only blocks g and h are written -/
structure Two (g h : Nat) (w w' : World) : Prop where
  os : w'.os = w.os
  tape : w'.tape = w.tape
  output : w'.output = w.output
  size : w.heap.size ≤ w'.heap.size
  block : ∀ k, k < w.heap.size → k ≠ g → k ≠ h → w'.heap[k]? = w.heap[k]?
theorem Two.refl (g h : Nat) (w : World) : Two g h w w := ⟨rfl, rfl, rfl, Nat.le_refl _, fun _ _ _ _ => rfl⟩
theorem Two.trans {g h : Nat} {a b c : World} (x : Two g h a b) (y : Two g h b c) : Two g h a c :=
  ⟨y.os.trans x.os, y.tape.trans x.tape, y.output.trans x.output, Nat.le_trans x.size y.size, fun i hi h1 h2 => (y.block i (Nat.lt_of_lt_of_le hi x.size) h1 h2).trans (x.block i hi h1 h2)⟩
theorem Only.two1 {g h : Nat} {a b : World} (x : Only g a b) : Two g h a b := ⟨x.os, x.tape, x.output, x.size, fun i hi h1 _ => x.block i hi h1⟩
theorem Only.two2 {g h : Nat} {a b : World} (x : Only h a b) : Two g h a b := ⟨x.os, x.tape, x.output, x.size, fun i hi _ h2 => x.block i hi h2⟩
theorem Two.of_below {g h : Nat} {a b : World} (x : Below a.heap.size a b) : Two g h a b := ⟨x.os, x.tape, x.output, x.size, fun k hk _ _ => x.block k hk⟩
theorem Two.drewN {g h : Nat} {a b : World} (x : Two g h a b) (n : Nat) : Two g h a (b.drewN n) := ⟨x.os, x.tape, x.output, x.size, x.block⟩
theorem Two.below {g h B : Nat} {a b : World} (x : Two g h a b) (hg : B ≤ g) (hh : B ≤ h) (hs : B ≤ a.heap.size) : Below B a b := ⟨x.os, x.tape, x.output, x.size, fun k hk => x.block k (by omega) (by omega) (by omega)⟩
/-- a Hash of both: the program's in block g, the document's in block h -/
structure HH (g h seed : Nat) (s : ByteArray) (w : World) : Prop where
  is : HashIs g seed (Sums.bl s) w
  ref : w.heap[h]? = some (.cells #[.int .u32 (seed : Int), .string s] 29 (0, 0))
  le : s.size ≤ 1048576
theorem HH.lt {g h seed : Nat} {s : ByteArray} {w : World} (x : HH g h seed s w) : h < w.heap.size := (Array.getElem?_eq_some_iff.1 x.ref).1
theorem HH.heap {g h seed : Nat} {s : ByteArray} {w w' : World} (x : HH g h seed s w) (e1 : w'.heap[g]? = w.heap[g]?) (e2 : w'.heap[h]? = w.heap[h]?) : HH g h seed s w' := ⟨x.is.heap e1, e2.trans x.ref, x.le⟩
theorem HH.below {g h seed B : Nat} {s : ByteArray} {w w' : World} (x : HH g h seed s w) (hb : Below B w w') (hg : g < B) (hh : h < B) : HH g h seed s w' := x.heap (hb.block g hg) (hb.block h hh)
theorem HH.other {g h k l seed : Nat} {s : ByteArray} {w w' : World} (x : HH g h seed s w) (t : Two k l w w') (h1 : g ≠ k) (h2 : g ≠ l) (h3 : h ≠ k) (h4 : h ≠ l) : HH g h seed s w' := x.heap (t.block g x.is.lt h1 h2) (t.block h x.lt h3 h4)
theorem HH.c0 {g h seed : Nat} {s : ByteArray} {w : World} (x : HH g h seed s w) : w.cell? ⟨h, 0, none⟩ = some (.int .u32 (seed : Int)) := by rw [Lib.cell_of_heap x.ref]; rfl
theorem HH.c1 {g h seed : Nat} {s : ByteArray} {w : World} (x : HH g h seed s w) : w.cell? ⟨h, 1, none⟩ = some (.string s) := by rw [Lib.cell_of_heap x.ref]; rfl
/-- the document's Sum -/
theorem refSum_any (g h seed : Nat) (s : ByteArray) (w : World) (x : HH g h seed s w) (hq : seed < 4294967296) :
    Calls Tryd.prog 9 #[.pointer (some ⟨h, 0, none⟩)] w fun e w' => e = .returned (.int .u32 (Sums.xx32 seed (Sums.bl s) : Nat)) ∧ Below w.heap.size w w' := by
  have c0 := x.c0
  have c1 := x.c1
  have HLT := Hid.mk' x.lt
  have HL := Hid.mk' x.le
  clear x
  go_enter Tryd.func9, Tryd.ntmps9
  go_wp2_with fail
  go_region_held3 (fun w' => w'.cell? ⟨h, 0, none⟩ = some (.int .u32 (seed : Int)) ∧ w'.cell? ⟨h, 1, none⟩ = some (.string s)) (first | go_keep | exact ⟨v0, v1⟩)
    ((first | (go_at_call 20; refine (refXX32_any seed s w.drew hq (by have := HL.out; omega)).mono ?_; rintro e wz ⟨rfl, hbz⟩; have v0 := (hbz.cell (p := ⟨h, 0, none⟩) (by exact HLT.out)).trans c0; have v1 := (hbz.cell (p := ⟨h, 1, none⟩) (by exact HLT.out)).trans c1; have HBZ := Hid.mk' hbz; clear hbz)))
  go_wp2_with fail
  go_ret
  exact ⟨rfl, HBZ.out.os, HBZ.out.tape, HBZ.out.output, HBZ.out.size, HBZ.out.block⟩
/-- the document's text is written -/
theorem HH.set {g h seed : Nat} {s : ByteArray} {w : World} (hr : w.heap[h]? = some (.cells #[.int .u32 (seed : Int), .string s] 29 (0, 0))) (x : ByteArray) (hi : HashIs g seed (Sums.bl x) w) (hg : g ≠ h) (hx : x.size ≤ 1048576) : HH g h seed x (w.setCell ⟨h, 1, none⟩ (.string x)) ∧ Only h w (w.setCell ⟨h, 1, none⟩ (.string x)) := by
  have hp : Put h 29 [.int .u32 (seed : Int), .string s] w w := Put.refl hr
  have := hp.setCell (o := 1) (.string x)
  exact ⟨⟨hi.heap (this.block g hg), this.row, hx⟩, this.only⟩
theorem hlen2_any (g seed : Nat) (s : ByteArray) (w : World) (h : HashIs g seed (Sums.bl s) w) :
    Calls Tryd.prog 10 #[.pointer (some ⟨g, 0, none⟩)] w fun e w' => e = .returned (.int .i64 (s.size : Int)) ∧ w' = w := by
  rw [← Sums.bl_length s]
  exact hlen_any g seed (Sums.bl s) w h
set_option maxRecDepth 100000 in
set_option maxHeartbeats 4000000 in
theorem sumsHash_any (one two : Nat) (p : Option Addr) (len cap : Nat) (K : Nat → Int) (B : Nat → Bool) (S : Nat → ByteArray) (w : World) (h1 : one < 4294967296) (h2 : two < 4294967296) (hl : len ≤ 140737488351232)
    (hK : ∀ i, i < len → (S i).size ≤ 140737488351232)
    (hc : ∀ i, i < len → ∃ g off, p = some ⟨g, off, none⟩ ∧ w.cell? ⟨g, off + i * 3, none⟩ = some (.int .i64 (K i)) ∧ w.cell? ⟨g, off + i * 3 + 1, none⟩ = some (.bool (B i)) ∧ w.cell? ⟨g, off + i * 3 + 2, none⟩ = some (.string (S i))) (ht : Tab w) :
    Calls Tryd.prog 3 #[.int .u32 (one : Int), .int .u32 (two : Int), .slice p len cap] w fun e w' => e = .returned (.bool true) ∧ Below w.heap.size w w' := by
  have HKK := Hid.mk' hK
  have HCC := Hid.mk' hc
  have l1 : (len : Int) ≤ 140737488351232 := by omega
  clear hK hc hl
  go_enter Tryd.func3, Tryd.ntmps3
  go_wp2_with fail
  refine (examples_any _ ht).mono ?_
  rintro e w1 ⟨rfl, B1⟩
  have HB1 := Hid.mk' B1
  clear B1 ht
  go_wp2_with fail
  refine (hnew_any one _ h1).mono ?_
  rintro e w2 ⟨g1, hg1, rfl, hi1, B2⟩
  have HG1 : Hid (w.heap.size ≤ g1) := Nat.le_trans HB1.out.size hg1
  have HB2 : Hid (Below w.heap.size w w2) := HB1.out.trans (B2.mono HB1.out.size)
  have HI1 := Hid.mk' hi1
  clear B2 hi1 hg1 HB1
  go_wp2_with fail
  refine (hnew_any two _ h2).mono ?_
  rintro e w3 ⟨g2, hg2, rfl, hi2, B3⟩
  have HG2 : Hid (g1 < g2) := Nat.lt_of_lt_of_le HI1.out.lt hg2
  have HB3 : Hid (Below w.heap.size w w3) := HB2.out.trans (B3.mono HB2.out.size)
  have HI1b := Hid.mk' (HI1.out.below B3 HI1.out.lt)
  have HI2 := Hid.mk' hi2
  clear B3 hi2 hg2 HB2 HI1
  obtain ⟨w4, hw4⟩ : ∃ w4, w4 = (w3.alloc (.cells #[.int .u32 (one : Int), .string ⟨#[]⟩] 29)) := ⟨_, rfl⟩
  obtain ⟨w5, hw5⟩ : ∃ w5, w5 = (w4.alloc (.cells #[.int .u32 (two : Int), .string ⟨#[]⟩] 29)) := ⟨_, rfl⟩
  obtain ⟨x1, hx1⟩ : ∃ x1, x1 = w3.heap.size := ⟨_, rfl⟩
  obtain ⟨x2, hx2⟩ : ∃ x2, x2 = w4.heap.size := ⟨_, rfl⟩
  have hb4 : Below w3.heap.size w3 w4 := by rw [hw4]; exact (Below.refl _ _).alloc (Nat.le_refl _) _
  have hb5 : Below w4.heap.size w4 w5 := by rw [hw5]; exact (Below.refl _ _).alloc (Nat.le_refl _) _
  have hr4 : w4.heap[x1]? = some (.cells #[.int .u32 (one : Int), .string ⟨#[]⟩] 29 (0, 0)) := by rw [hw4, hx1]; exact heap_alloc_new w3 _
  have hr5 : w5.heap[x2]? = some (.cells #[.int .u32 (two : Int), .string ⟨#[]⟩] 29 (0, 0)) := by rw [hw5, hx2]; exact heap_alloc_new w4 _
  have HX1 : Hid (g2 < x1) := by unfold Hid; rw [hx1]; exact HI2.out.lt
  have hlt4 : x1 < w4.heap.size := (Array.getElem?_eq_some_iff.1 hr4).1
  have HX2 : Hid (x1 < x2) := by unfold Hid; rw [hx2]; exact hlt4
  have HA : Hid (HH g1 x1 one ⟨#[]⟩ w5) := HH.below ⟨HI1b.out.below hb4 HI1b.out.lt, hr4, Nat.zero_le _⟩ hb5 (Nat.lt_of_lt_of_le HI1b.out.lt hb4.size) hlt4
  have HB : Hid (HH g2 x2 two ⟨#[]⟩ w5) := ⟨(HI2.out.below hb4 HI2.out.lt).below hb5 (Nat.lt_of_lt_of_le HI2.out.lt hb4.size), hr5, Nat.zero_le _⟩
  have HB5 : Hid (Below w.heap.size w w5) := HB3.out.trans ((hb4.trans (hb5.mono hb4.size)).mono HB3.out.size)
  have HE3 : Hid (w3.heap.size + 1 = x2) := by unfold Hid; rw [hx2, hw4]; simp
  have HW4 := Hid.mk' hw4
  have HW5 := Hid.mk' hw5
  have HE1 := Hid.mk' hx1
  clear hw4 hw5 hx1 hx2 hb4 hb5 hr4 hr5 hlt4 HB3 HI1b HI2
  go_wp2_with fail
  rw [← HW4.out, ← HW5.out, HE3.out, ← HE1.out]
  clear HW4 HW5 HE1 HE3
  go_loopw [12] (fun i' wr => ∃ (i : Nat) (s1 s2 : ByteArray), i' = .int .i64 (i : Int) ∧ i ≤ len ∧ HH g1 x1 one s1 wr ∧ HH g2 x2 two s2 wr ∧ Below w.heap.size w wr) (fun i' _ => len - (intOf i').toNat)
  case atStart => exact ⟨0, _, _, rfl, by omega, HA.out, HB.out, HB5.out⟩
  case round =>
    clear HA HB HB5
    obtain ⟨i, s1, s2, rfl, hil, ha, hb, hbw⟩ := hrel
    have HIL := Hid.mk' hil
    have HA := Hid.mk' ha
    have HB := Hid.mk' hb
    have HBW := Hid.mk' hbw
    clear hil ha hb hbw
    by_cases hlt : i < len
    · obtain ⟨gS, off, rfl, s0, s1', s2'⟩ := HCC.out i hlt
      have hSl : gS < w.heap.size := by
        rcases Nat.lt_or_ge gS w.heap.size with h | h
        · exact h
        · simp [World.cell?, Array.getElem?_eq_none h] at s0
      have t0 := (HBW.out.cell (p := ⟨gS, off + i * 3, none⟩) hSl).trans s0
      have t1 := (HBW.out.cell (p := ⟨gS, off + i * 3 + 1, none⟩) hSl).trans s1'
      have t2 := (HBW.out.cell (p := ⟨gS, off + i * 3 + 2, none⟩) hSl).trans s2'
      have zt : ((S i).size : Int) ≤ 140737488351232 := by have := HKK.out i hlt; omega
      generalize K i = k at *
      generalize B i = bo at *
      generalize S i = t at *
      have i1 : (i : Int) < (len : Int) := by omega
      have i0 : (0 : Int) ≤ (i : Int) := by omega
      have HLT := Hid.mk' hlt
      clear hlt s0 s1' s2'
      cases bo with
      | false =>
        have c1 := HA.out.c1
        have z1 : (s1.size : Int) ≤ 1048576 := by have := HA.out.le; omega
        by_cases k1 : k = 1
        · subst k1
          by_cases hm : s1.size + t.size ≤ 1048576
          · have hm2 : (s1.size : Int) + (t.size : Int) ≤ 1048576 := by omega
            go_wp2_with fail
            go_quiet (fail)
            go_wp2_with fail
            refine (write_any g1 one (Sums.bl s1) t _ h1 (by rw [Sums.bl_length]; omega) (HA.out.is.drewN nq)).mono ?_
            rintro e w6 ⟨rfl, hi6, ho6⟩
            have hr6 := (ho6.block x1 HA.out.lt (by have := HG1.out; have := HG2.out; have := HX1.out; have := HX2.out; omega)).trans HA.out.ref
            have c6 : w6.cell? ⟨x1, 1, none⟩ = some (.string s1) := by rw [Lib.cell_of_heap hr6]; rfl
            have f6 : w6.frozen? ⟨x1, 1, none⟩ = false := by simp [World.frozen?, hr6]
            have t6 : w6.cell? ⟨gS, off + i * 3 + 2, none⟩ = some (.string t) := by
              have hb6 := ho6.block gS (Nat.lt_of_lt_of_le hSl HBW.out.size) (by have := hSl; have := HG1.out; have := HG2.out; have := HX1.out; have := HX2.out; omega)
              have e6 : w6.cell? ⟨gS, off + i * 3 + 2, none⟩ = wr.cell? ⟨gS, off + i * 3 + 2, none⟩ := by simp [World.cell?, hb6]
              exact e6.trans t2
            have HI6 := Hid.mk' hi6
            have HO6 := Hid.mk' ho6
            have HR6 := Hid.mk' hr6
            clear hi6 ho6 hr6 c1 t0 t1 t2
            go_wp2_with fail
            go_region
            all_goals (
              go_wp2_with fail
              go_roundw
              case rel =>
                have hS := HH.set (g := g1) HR6.out (s1 ++ t) (by rw [Sums.bl_append]; exact HI6.out) (by have := HG1.out; have := HG2.out; have := HX1.out; have := HX2.out; omega) (by rw [ByteArray.size_append]; exact hm)
                have hT : Two g1 x1 wr (w6.setCell ⟨x1, 1, none⟩ (.string (s1 ++ t))) := (show Two g1 x1 wr w6 from ⟨HO6.out.os, HO6.out.tape, HO6.out.output, HO6.out.size, fun k hk h1 _ => HO6.out.block k hk h1⟩).trans hS.2.two2
                have hO := HB.out.other hT (by have := HG1.out; have := HG2.out; have := HX1.out; have := HX2.out; omega) (by have := HG1.out; have := HG2.out; have := HX1.out; have := HX2.out; omega) (by have := HG1.out; have := HG2.out; have := HX1.out; have := HX2.out; omega) (by have := HG1.out; have := HG2.out; have := HX1.out; have := HX2.out; omega)
                have hL := HBW.out.trans (hT.below (by have := HG1.out; have := HG2.out; have := HX1.out; have := HX2.out; omega) (by have := HG1.out; have := HG2.out; have := HX1.out; have := HX2.out; omega) HBW.out.size)
                exact ⟨i + 1, s1 ++ t, s2, by go_num, HLT.out, hS.1.heap rfl rfl, hO.heap rfl rfl, ⟨hL.os, hL.tape, hL.output, hL.size, hL.block⟩⟩
              case measure => have := HLT.out; simp [intOf]; omega)
          · have hm2 : ¬ (s1.size : Int) + (t.size : Int) ≤ 1048576 := by omega
            go_wp2_with fail
            go_quiet (fail)
            go_wp2_with fail
            go_roundw
            case rel => exact ⟨i + 1, s1, s2, by go_num, HLT.out, HA.out.heap rfl rfl, HB.out.heap rfl rfl, HBW.out.drewN' nq⟩
            case measure => have := HLT.out; simp [intOf]; omega
        by_cases k2 : k = 2
        · subst k2
          go_wp2_with fail
          refine (reset_any g1 one (Sums.bl s1) _ h1 HA.out.is).mono ?_
          rintro e w6 ⟨rfl, hi6, ho6⟩
          have hr6 := (ho6.block x1 HA.out.lt (by have := HG1.out; have := HG2.out; have := HX1.out; have := HX2.out; omega)).trans HA.out.ref
          have f6 : w6.frozen? ⟨x1, 1, none⟩ = false := by simp [World.frozen?, hr6]
          have c6 : w6.cell? ⟨x1, 1, none⟩ = some (.string s1) := by rw [Lib.cell_of_heap hr6]; rfl
          have HS6 := Hid.mk' (HH.set (g := g1) hr6 ⟨#[]⟩ hi6 (by have := HG1.out; have := HG2.out; have := HX1.out; have := HX2.out; omega) (Nat.zero_le _))
          have HO6 := Hid.mk' ho6
          clear hi6 ho6 hr6 c1
          go_wp2_with fail
          go_roundw
          case rel =>
            have hT : Two g1 x1 wr _ := HO6.out.two1.trans HS6.out.2.two2
            exact ⟨i + 1, ⟨#[]⟩, s2, by go_num, HLT.out, HS6.out.1, HB.out.other hT (by have := HG1.out; have := HG2.out; have := HX1.out; have := HX2.out; omega) (by have := HG1.out; have := HG2.out; have := HX1.out; have := HX2.out; omega) (by have := HG1.out; have := HG2.out; have := HX1.out; have := HX2.out; omega) (by have := HG1.out; have := HG2.out; have := HX1.out; have := HX2.out; omega), HBW.out.trans (hT.below (by have := HG1.out; have := HG2.out; have := HX1.out; have := HX2.out; omega) (by have := HG1.out; have := HG2.out; have := HX1.out; have := HX2.out; omega) HBW.out.size)⟩
          case measure => have := HLT.out; simp [intOf]; omega
        by_cases k3 : k = 3
        · subst k3
          go_wp2_with fail
          refine (sum_any g1 one (Sums.bl s1) _ h1 (by rw [Sums.bl_length]; have := HA.out.le; omega) HA.out.is).mono ?_
          rintro e w6 ⟨rfl, n6, rfl⟩
          obtain ⟨u, HU⟩ : ∃ u, Hid (u = Sums.xx32 one (Sums.bl s1)) := ⟨_, Hid.mk' rfl⟩
          rw [← HU.out]
          go_wp2_with fail
          refine (refSum_any g1 x1 one s1 _ (by exact HA.out.heap rfl rfl) h1).mono ?_
          rintro e w7 ⟨rfl, hb7⟩
          rw [← HU.out]
          have HB7 : Hid (Below wr.heap.size wr w7) := ⟨hb7.os, hb7.tape, hb7.output, hb7.size, hb7.block⟩
          clear hb7
          go_wp2_with fail
          go_roundw
          case rel => exact ⟨i + 1, s1, s2, by go_num, HLT.out, HA.out.below HB7.out HA.out.is.lt HA.out.lt, HB.out.below HB7.out HB.out.is.lt HB.out.lt, HBW.out.trans (HB7.out.mono HBW.out.size)⟩
          case measure => have := HLT.out; simp [intOf]; omega
        by_cases k4 : k = 4
        · subst k4
          go_wp2_with fail
          go_quiet ((go_at_call 10; exact Calls.quiet_of_same (hlen2_any g1 one s1 _ (by exact HA.out.is.heap rfl))))
          go_wp2_with fail
          go_roundw
          case rel => exact ⟨i + 1, s1, s2, by go_num, HLT.out, HA.out.heap rfl rfl, HB.out.heap rfl rfl, HBW.out.drewN' nq⟩
          case measure => have := HLT.out; simp [intOf]; omega
        · go_wp2_with fail
          go_roundw
          case rel => exact ⟨i + 1, s1, s2, by go_num, HLT.out, HA.out, HB.out, HBW.out⟩
          case measure => have := HLT.out; simp [intOf]; omega
      | true =>
        have c1 := HB.out.c1
        have z1 : (s2.size : Int) ≤ 1048576 := by have := HB.out.le; omega
        by_cases k1 : k = 1
        · subst k1
          by_cases hm : s2.size + t.size ≤ 1048576
          · have hm2 : (s2.size : Int) + (t.size : Int) ≤ 1048576 := by omega
            go_wp2_with fail
            go_quiet (fail)
            go_wp2_with fail
            refine (write_any g2 two (Sums.bl s2) t _ h2 (by rw [Sums.bl_length]; omega) (HB.out.is.drewN nq)).mono ?_
            rintro e w6 ⟨rfl, hi6, ho6⟩
            have hr6 := (ho6.block x2 HB.out.lt (by have := HG1.out; have := HG2.out; have := HX1.out; have := HX2.out; omega)).trans HB.out.ref
            have c6 : w6.cell? ⟨x2, 1, none⟩ = some (.string s2) := by rw [Lib.cell_of_heap hr6]; rfl
            have f6 : w6.frozen? ⟨x2, 1, none⟩ = false := by simp [World.frozen?, hr6]
            have t6 : w6.cell? ⟨gS, off + i * 3 + 2, none⟩ = some (.string t) := by
              have hb6 := ho6.block gS (Nat.lt_of_lt_of_le hSl HBW.out.size) (by have := hSl; have := HG1.out; have := HG2.out; have := HX1.out; have := HX2.out; omega)
              have e6 : w6.cell? ⟨gS, off + i * 3 + 2, none⟩ = wr.cell? ⟨gS, off + i * 3 + 2, none⟩ := by simp [World.cell?, hb6]
              exact e6.trans t2
            have HI6 := Hid.mk' hi6
            have HO6 := Hid.mk' ho6
            have HR6 := Hid.mk' hr6
            clear hi6 ho6 hr6 c1 t0 t1 t2
            go_wp2_with fail
            go_region
            all_goals (
              go_wp2_with fail
              go_roundw
              case rel =>
                have hS := HH.set (g := g2) HR6.out (s2 ++ t) (by rw [Sums.bl_append]; exact HI6.out) (by have := HG1.out; have := HG2.out; have := HX1.out; have := HX2.out; omega) (by rw [ByteArray.size_append]; exact hm)
                have hT : Two g2 x2 wr (w6.setCell ⟨x2, 1, none⟩ (.string (s2 ++ t))) := (show Two g2 x2 wr w6 from ⟨HO6.out.os, HO6.out.tape, HO6.out.output, HO6.out.size, fun k hk h1 _ => HO6.out.block k hk h1⟩).trans hS.2.two2
                have hO := HA.out.other hT (by have := HG1.out; have := HG2.out; have := HX1.out; have := HX2.out; omega) (by have := HG1.out; have := HG2.out; have := HX1.out; have := HX2.out; omega) (by have := HG1.out; have := HG2.out; have := HX1.out; have := HX2.out; omega) (by have := HG1.out; have := HG2.out; have := HX1.out; have := HX2.out; omega)
                have hL := HBW.out.trans (hT.below (by have := HG1.out; have := HG2.out; have := HX1.out; have := HX2.out; omega) (by have := HG1.out; have := HG2.out; have := HX1.out; have := HX2.out; omega) HBW.out.size)
                exact ⟨i + 1, s1, s2 ++ t, by go_num, HLT.out, hO.heap rfl rfl, hS.1.heap rfl rfl, ⟨hL.os, hL.tape, hL.output, hL.size, hL.block⟩⟩
              case measure => have := HLT.out; simp [intOf]; omega)
          · have hm2 : ¬ (s2.size : Int) + (t.size : Int) ≤ 1048576 := by omega
            go_wp2_with fail
            go_quiet (fail)
            go_wp2_with fail
            go_roundw
            case rel => exact ⟨i + 1, s1, s2, by go_num, HLT.out, HA.out.heap rfl rfl, HB.out.heap rfl rfl, HBW.out.drewN' nq⟩
            case measure => have := HLT.out; simp [intOf]; omega
        by_cases k2 : k = 2
        · subst k2
          go_wp2_with fail
          refine (reset_any g2 two (Sums.bl s2) _ h2 HB.out.is).mono ?_
          rintro e w6 ⟨rfl, hi6, ho6⟩
          have hr6 := (ho6.block x2 HB.out.lt (by have := HG1.out; have := HG2.out; have := HX1.out; have := HX2.out; omega)).trans HB.out.ref
          have f6 : w6.frozen? ⟨x2, 1, none⟩ = false := by simp [World.frozen?, hr6]
          have c6 : w6.cell? ⟨x2, 1, none⟩ = some (.string s2) := by rw [Lib.cell_of_heap hr6]; rfl
          have HS6 := Hid.mk' (HH.set (g := g2) hr6 ⟨#[]⟩ hi6 (by have := HG1.out; have := HG2.out; have := HX1.out; have := HX2.out; omega) (Nat.zero_le _))
          have HO6 := Hid.mk' ho6
          clear hi6 ho6 hr6 c1
          go_wp2_with fail
          go_roundw
          case rel =>
            have hT : Two g2 x2 wr _ := HO6.out.two1.trans HS6.out.2.two2
            exact ⟨i + 1, s1, ⟨#[]⟩, by go_num, HLT.out, HA.out.other hT (by have := HG1.out; have := HG2.out; have := HX1.out; have := HX2.out; omega) (by have := HG1.out; have := HG2.out; have := HX1.out; have := HX2.out; omega) (by have := HG1.out; have := HG2.out; have := HX1.out; have := HX2.out; omega) (by have := HG1.out; have := HG2.out; have := HX1.out; have := HX2.out; omega), HS6.out.1, HBW.out.trans (hT.below (by have := HG1.out; have := HG2.out; have := HX1.out; have := HX2.out; omega) (by have := HG1.out; have := HG2.out; have := HX1.out; have := HX2.out; omega) HBW.out.size)⟩
          case measure => have := HLT.out; simp [intOf]; omega
        by_cases k3 : k = 3
        · subst k3
          go_wp2_with fail
          refine (sum_any g2 two (Sums.bl s2) _ h2 (by rw [Sums.bl_length]; have := HB.out.le; omega) HB.out.is).mono ?_
          rintro e w6 ⟨rfl, n6, rfl⟩
          obtain ⟨u, HU⟩ : ∃ u, Hid (u = Sums.xx32 two (Sums.bl s2)) := ⟨_, Hid.mk' rfl⟩
          rw [← HU.out]
          go_wp2_with fail
          refine (refSum_any g2 x2 two s2 _ (by exact HB.out.heap rfl rfl) h2).mono ?_
          rintro e w7 ⟨rfl, hb7⟩
          rw [← HU.out]
          have HB7 : Hid (Below wr.heap.size wr w7) := ⟨hb7.os, hb7.tape, hb7.output, hb7.size, hb7.block⟩
          clear hb7
          go_wp2_with fail
          go_roundw
          case rel => exact ⟨i + 1, s1, s2, by go_num, HLT.out, HA.out.below HB7.out HA.out.is.lt HA.out.lt, HB.out.below HB7.out HB.out.is.lt HB.out.lt, HBW.out.trans (HB7.out.mono HBW.out.size)⟩
          case measure => have := HLT.out; simp [intOf]; omega
        by_cases k4 : k = 4
        · subst k4
          go_wp2_with fail
          go_quiet ((go_at_call 10; exact Calls.quiet_of_same (hlen2_any g2 two s2 _ (by exact HB.out.is.heap rfl))))
          go_wp2_with fail
          go_roundw
          case rel => exact ⟨i + 1, s1, s2, by go_num, HLT.out, HA.out.heap rfl rfl, HB.out.heap rfl rfl, HBW.out.drewN' nq⟩
          case measure => have := HLT.out; simp [intOf]; omega
        · go_wp2_with fail
          go_roundw
          case rel => exact ⟨i + 1, s1, s2, by go_num, HLT.out, HA.out, HB.out, HBW.out⟩
          case measure => have := HLT.out; simp [intOf]; omega
    · obtain rfl : i = len := by have := HIL.out; omega
      have c1 := HA.out.c1
      have c2 := HB.out.c1
      have HL1 : Hid ((Sums.bl s1).length < 9223372036854775808) := by unfold Hid; rw [Sums.bl_length]; have := HA.out.le; omega
      have HL2 : Hid ((Sums.bl s2).length < 9223372036854775808) := by unfold Hid; rw [Sums.bl_length]; have := HB.out.le; omega
      obtain ⟨m1, HU1⟩ : ∃ u, Hid (u = Sums.xx32 one (Sums.bl s1)) := ⟨_, Hid.mk' rfl⟩
      obtain ⟨m2, HU2⟩ : ∃ u, Hid (u = Sums.xx32 two (Sums.bl s2)) := ⟨_, Hid.mk' rfl⟩
      go_wp2_with fail
      go_region_held3 (fun w' => w'.cell? ⟨x1, 1, none⟩ = some (.string s1) ∧ w'.cell? ⟨x2, 1, none⟩ = some (.string s2)) (first | go_keep | exact ⟨v0, v1⟩)
        ((first | (go_at_call_of 8 g1; refine (sum_any g1 one (Sums.bl s1) _ h1 HL1.out (by exact HA.out.is.heap rfl)).mono ?_; rintro e wz ⟨rfl, nz, hwz⟩; rw [← HU1.out]; have HAn : Hid (HH g1 x1 one s1 wz) := (by unfold Hid; rw [hwz]; exact HA.out.heap rfl rfl); have HBn : Hid (HH g2 x2 two s2 wz) := (by unfold Hid; rw [hwz]; exact HB.out.heap rfl rfl); have HWn : Hid (Below w.heap.size w wz) := (by unfold Hid; rw [hwz]; exact ⟨HBW.out.os, HBW.out.tape, HBW.out.output, HBW.out.size, HBW.out.block⟩); clear hwz; have v0 := HAn.out.c1; have v1 := HBn.out.c1; have HA := HAn; have HB := HBn; have HBW := HWn) | (go_at_call_of 9 x1; refine (refSum_any g1 x1 one s1 _ (by exact HA.out.heap rfl rfl) h1).mono ?_; rintro e wz ⟨rfl, hbz⟩; rw [← HU1.out]; have HAn : Hid (HH g1 x1 one s1 wz) := HH.heap HA.out (hbz.block g1 (by exact HA.out.is.lt)) (hbz.block x1 (by exact HA.out.lt)); have HBn : Hid (HH g2 x2 two s2 wz) := HH.heap HB.out (hbz.block g2 (by exact HB.out.is.lt)) (hbz.block x2 (by exact HB.out.lt)); have HWn : Hid (Below w.heap.size w wz) := ⟨hbz.os.trans HBW.out.os, hbz.tape.trans HBW.out.tape, hbz.output.trans HBW.out.output, Nat.le_trans HBW.out.size hbz.size, fun k hk => (hbz.block k (by exact Nat.lt_of_lt_of_le hk HBW.out.size)).trans (HBW.out.block k hk)⟩; clear hbz; have v0 := HAn.out.c1; have v1 := HBn.out.c1; have HA := HAn; have HB := HBn; have HBW := HWn) | (go_at_call_of 8 g2; refine (sum_any g2 two (Sums.bl s2) _ h2 HL2.out (by exact HB.out.is.heap rfl)).mono ?_; rintro e wz ⟨rfl, nz, hwz⟩; rw [← HU2.out]; have HAn : Hid (HH g1 x1 one s1 wz) := (by unfold Hid; rw [hwz]; exact HA.out.heap rfl rfl); have HBn : Hid (HH g2 x2 two s2 wz) := (by unfold Hid; rw [hwz]; exact HB.out.heap rfl rfl); have HWn : Hid (Below w.heap.size w wz) := (by unfold Hid; rw [hwz]; exact ⟨HBW.out.os, HBW.out.tape, HBW.out.output, HBW.out.size, HBW.out.block⟩); clear hwz; have v0 := HAn.out.c1; have v1 := HBn.out.c1; have HA := HAn; have HB := HBn; have HBW := HWn) | (go_at_call_of 9 x2; refine (refSum_any g2 x2 two s2 _ (by exact HB.out.heap rfl rfl) h2).mono ?_; rintro e wz ⟨rfl, hbz⟩; rw [← HU2.out]; have HAn : Hid (HH g1 x1 one s1 wz) := HH.heap HA.out (hbz.block g1 (by exact HA.out.is.lt)) (hbz.block x1 (by exact HA.out.lt)); have HBn : Hid (HH g2 x2 two s2 wz) := HH.heap HB.out (hbz.block g2 (by exact HB.out.is.lt)) (hbz.block x2 (by exact HB.out.lt)); have HWn : Hid (Below w.heap.size w wz) := ⟨hbz.os.trans HBW.out.os, hbz.tape.trans HBW.out.tape, hbz.output.trans HBW.out.output, Nat.le_trans HBW.out.size hbz.size, fun k hk => (hbz.block k (by exact Nat.lt_of_lt_of_le hk HBW.out.size)).trans (HBW.out.block k hk)⟩; clear hbz; have v0 := HAn.out.c1; have v1 := HBn.out.c1; have HA := HAn; have HB := HBn; have HBW := HWn) | (go_at_call_of 10 g1; refine (hlen2_any g1 one s1 _ (by exact HA.out.is.heap rfl)).mono ?_; rintro e wz ⟨rfl, hwz⟩; have HAn : Hid (HH g1 x1 one s1 wz) := (by unfold Hid; rw [hwz]; exact HA.out.heap rfl rfl); have HBn : Hid (HH g2 x2 two s2 wz) := (by unfold Hid; rw [hwz]; exact HB.out.heap rfl rfl); have HWn : Hid (Below w.heap.size w wz) := (by unfold Hid; rw [hwz]; exact ⟨HBW.out.os, HBW.out.tape, HBW.out.output, HBW.out.size, HBW.out.block⟩); clear hwz; have v0 := HAn.out.c1; have v1 := HBn.out.c1; have HA := HAn; have HB := HBn; have HBW := HWn) | (go_at_call_of 10 g2; refine (hlen2_any g2 two s2 _ (by exact HB.out.is.heap rfl)).mono ?_; rintro e wz ⟨rfl, hwz⟩; have HAn : Hid (HH g1 x1 one s1 wz) := (by unfold Hid; rw [hwz]; exact HA.out.heap rfl rfl); have HBn : Hid (HH g2 x2 two s2 wz) := (by unfold Hid; rw [hwz]; exact HB.out.heap rfl rfl); have HWn : Hid (Below w.heap.size w wz) := (by unfold Hid; rw [hwz]; exact ⟨HBW.out.os, HBW.out.tape, HBW.out.output, HBW.out.size, HBW.out.block⟩); clear hwz; have v0 := HAn.out.c1; have v1 := HBn.out.c1; have HA := HAn; have HB := HBn; have HBW := HWn)))
      go_wp2_with fail
      go_ret
      exact ⟨rfl, HBW.out.os, HBW.out.tape, HBW.out.output, HBW.out.size, HBW.out.block⟩
end Go.Proofs.YtapphnkddjchkaaDoor
