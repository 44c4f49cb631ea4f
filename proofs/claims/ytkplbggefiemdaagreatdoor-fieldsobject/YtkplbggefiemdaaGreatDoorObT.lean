/-
  object: the reader: all of a text; Parse. Conditions: as each says.
-/
import Derived.Test.YtkplbggefiemdaaGreatDoorObS
namespace Go.Proofs.YtkplbggefiemdaaGreatDoor
open Go.RowKit
set_option linter.unusedVariables false
set_option linter.unusedSimpArgs false
theorem vl_drewN {F : Nat → Prop} {X : World} {v : Vl} {cs : Array Value} (h : VlAt F X v cs) (n : Nat) : VlAt F (X.drewN n) v cs := VlAt.keep (X := X) (Y := X.drewN n) (F := F) (G := F) (fun _ x => x) (fun k _ _ => rfl) (Nat.le_refl X.heap.size) v cs h
set_option maxRecDepth 100000 in
set_option maxHeartbeats 4000000 in
theorem whole_any (rb : Rv Vl) (g : Nat) (S : ByteArray) (d p : Nat) (w : World) (h : Rr g S p d w) (ht : RwT w) (hS : S.size ≤ 65536) (hg8 : g ≠ 6)
    (hb : ∀ X, Rr g S p d X → RwT X → Calls Tryz.prog 65 #[.pointer (some ⟨g, 0, none⟩)] X (rb.PostV g S d X)) :
    Calls Tryz.prog 36 #[.pointer (some ⟨g, 0, none⟩)] w ((rb.bind fun v q => if q = S.size then Rv.ok v q else .no 130 q).PostV g S d w) := by
  have HS := Hid.mk' hS
  have HGL := Hid.mk' h.lt
  have HA : Hid (∀ X, X = w.alloc (.cells #[.int .i64 0, .string ByteArray.empty, .slice none 0 0, .slice none 0 0] 41) → Rr g S p d X ∧ Only g w X ∧ RwT X ∧ X.heap[w.heap.size]? = some (.cells zr4 41 (0, 0))) := Hid.mk' (fun X hX => by subst hX; have hb := (Below.refl w.heap.size w).alloc (Nat.le_refl _) (.cells #[.int .i64 0, .string ByteArray.empty, .slice none 0 0, .slice none 0 0] 41); exact ⟨h.below hb h.lt, (Only.refl _ _).alloc _, ht.below hb ht.lt, heap_alloc_new w _⟩)
  have HKEEP : Hid (∀ X Y, Only g w X ∧ RwT X ∧ X.heap[w.heap.size]? = some (.cells zr4 41 (0, 0)) → Only g X Y → Only g w Y ∧ RwT Y ∧ Y.heap[w.heap.size]? = some (.cells zr4 41 (0, 0))) := Hid.mk' (fun X Y hX ho => ⟨hX.1.trans ho, hX.2.1.only ho hg8, res_keep (by have := h.lt; omega) hX.2.2 ho⟩)
  have HB := Hid.mk' hb
  obtain ⟨r, hr⟩ : ∃ r, (rb.bind fun v q => if q = S.size then Rv.ok v q else .no 130 q) = r := ⟨_, rfl⟩
  rw [hr]
  have HE := Hid.mk' hr
  clear h ht hS hg8 hb hr
  go_enter Tryz.func36, Tryz.ntmps36
  go_wp2_with fail
  have HW1 : Hid (∃ w1, w1 = w.alloc (.cells #[.int .i64 0, .string ByteArray.empty, .slice none 0 0, .slice none 0 0] 41) ∧ (Rr g S p d w1 ∧ Only g w w1 ∧ RwT w1 ∧ w1.heap[w.heap.size]? = some (.cells zr4 41 (0, 0)))) := Hid.mk' ⟨_, rfl, HA.out _ rfl⟩
  obtain ⟨w1, hw1, hh1⟩ := HW1.out
  have H1 := Hid.mk' hh1
  have hcall := HB.out w1 hh1.1 hh1.2.2.1
  rw [hw1] at hcall
  rcases postV_two hcall with ⟨v, q, hrv, hc⟩ | ⟨c, q, hrv, hc⟩
  · refine hc.mono ?_
    rw [← hw1]
    rintro e w2 ⟨cs, rfl, hr3, ho3, hv3⟩
    subst hrv
    obtain ⟨xk, xt, pn, nn, cn, pk, nk, ck, rfl⟩ : ∃ (xk : Int) (xt : ByteArray) (pn : Option Addr) (nn cn : Nat) (pk : Option Addr) (nk ck : Nat), cs = #[.int .i64 xk, .string xt, .slice pn nn cn, .slice pk nk ck] := by
      obtain ⟨F, _, hv4⟩ := hv3
      exact hv4.form
    have HZ : Hid (∀ X, X = w2.alloc (.cells #[.int .i64 xk, .string xt, .slice pn nn cn, .slice pk nk ck] 41) → Rr g S q d X ∧ Only g w1 X ∧ X.heap[w2.heap.size]? = some (.cells #[.int .i64 xk, .string xt, .slice pn nn cn, .slice pk nk ck] 41 (0, 0)) ∧ (∃ F : Nat → Prop, (∀ k, F k → w1.heap.size ≤ k ∧ k < X.heap.size) ∧ VlAt F X v #[.int .i64 xk, .string xt, .slice pn nn cn, .slice pk nk ck])) := Hid.mk' (fun X hX => by
      subst hX
      have hb := (Below.refl w2.heap.size w2).alloc (Nat.le_refl _) (.cells #[.int .i64 xk, .string xt, .slice pn nn cn, .slice pk nk ck] 41)
      obtain ⟨F, h1, h2⟩ := hv3
      exact ⟨hr3.below hb hr3.lt, ho3.alloc _, heap_alloc_new w2 _, F, fun k hk => ⟨(h1 k hk).1, by have := (h1 k hk).2; rw [World.size_alloc]; omega⟩, VlAt.keep (fun _ x => x) (fun k _ hl => hb.block k hl) hb.size _ _ h2⟩)
    have HSZ : Hid (w1.heap.size ≤ w2.heap.size ∧ g < w2.heap.size) := Hid.mk' ⟨ho3.size, hr3.lt⟩
    clear hr3 ho3 hv3 hc hcall hh1 hw1 HW1
    go_wp2_with fail
    obtain ⟨zb, hzb⟩ : ∃ zb, decide (q = S.size) = zb := ⟨_, rfl⟩
    refine (atEnd_any g S q d zb _ (HZ.out _ rfl).1 HS.out hzb).mono ?_
    rintro e w3 ⟨rfl, nn3, hw3⟩
    have H3 : Hid (Rr g S q d w3 ∧ Only g w1 w3 ∧ w3.heap[w2.heap.size]? = some (.cells #[.int .i64 xk, .string xt, .slice pn nn cn, .slice pk nk ck] 41 (0, 0)) ∧ (∃ F : Nat → Prop, (∀ k, F k → w1.heap.size ≤ k ∧ k < w3.heap.size) ∧ VlAt F w3 v #[.int .i64 xk, .string xt, .slice pn nn cn, .slice pk nk ck])) := Hid.mk' (by
      obtain ⟨h1, h2, h3, F, h4, h5⟩ := HZ.out _ rfl
      subst hw3
      exact ⟨h1.drewN _, h2.drewN _, h3, F, fun k hk => ⟨(h4 k hk).1, (h4 k hk).2⟩, vl_drewN h5 _⟩)
    have hbx := H3.out.2.2.1
    have c0 : w3.cell? ⟨w2.heap.size, 0, none⟩ = some (.int .i64 xk) := by simp [World.cell?, hbx]
    have c1 : w3.cell? ⟨w2.heap.size, 1, none⟩ = some (.string xt) := by simp [World.cell?, hbx]
    have c2 : w3.cell? ⟨w2.heap.size, 2, none⟩ = some (.slice pn nn cn) := by simp [World.cell?, hbx]
    have c3 : w3.cell? ⟨w2.heap.size, 3, none⟩ = some (.slice pk nk ck) := by simp [World.cell?, hbx]
    have HX : Hid (Only g w w3 ∧ RwT w3 ∧ w3.heap[w.heap.size]? = some (.cells zr4 41 (0, 0))) := Hid.mk' (HKEEP.out _ _ H1.out.2 H3.out.2.1)
    obtain ⟨r0, r1, r2, r3, z0, z1, z2, z3⟩ := rz_of HX.out.2.2
    have HZB := Hid.mk' hzb
    clear hbx HZ hzb hw3
    cases zb
    · have hne : ¬ q = S.size := of_decide_eq_false HZB.out
      have HNE := Hid.mk' hne
      clear hne
      go_wp2_with fail
      refine (cant_any g S q d _ H3.out.1).mono ?_
      rintro e w4 ⟨rfl, hw⟩
      have hw2 := hw.symm
      subst hw2
      have hpo : (if q = S.size then Rv.ok v q else .no 130 q) = r := HE.out
      rw [if_neg HNE.out] at hpo
      subst hpo
      exact ⟨rfl, rfl, HX.out.1⟩
    · have he := of_decide_eq_true HZB.out
      have HEQ := Hid.mk' he
      clear he
      go_wp2_with fail
      have hp := put4_res (.int .i64 xk) (.string xt) (.slice pn nn cn) (.slice pk nk ck) HX.out.2.2
      obtain ⟨y1, y2, y3⟩ := bare_done HGL.out rfl (.inr trivial) H1.out.2.1 H1.out.2.2.2 H3.out.1 H3.out.2.1 H3.out.2.2.2 hp
      have hrow := hp.row
      show bodyPost _ _ _ _ _ (put4 w3 w.heap.size 0 (.int .i64 xk) (.string xt) (.slice pn nn cn) (.slice pk nk ck))
      generalize put4 w3 w.heap.size 0 (.int .i64 xk) (.string xt) (.slice pn nn cn) (.slice pk nk ck) = w4 at y1 y2 y3 hrow ⊢
      have hpo : (if q = S.size then Rv.ok v q else .no 130 q) = r := HE.out
      rw [if_pos HEQ.out] at hpo
      subst hpo
      refine ⟨rfl, _, ?_, _, rfl, y1, y2, y3⟩
      simp [results, Tryz.f36, go_sem, World.cell?, hrow]
  · refine hc.mono ?_
    rw [← hw1]
    rintro e w2 ⟨rfl, ho3⟩
    subst hrv
    have hpo : Rv.no c q = r := HE.out
    subst hpo
    exact ⟨rfl, rfl, H1.out.2.1.trans ho3⟩
def Rv.PostP (r : Rv Vl) (g V : Nat) (w : World) (e : Ending) (w' : World) : Prop :=
  match r with
  | .ok v q => e = .returned (.tuple #[]) ∧ ∃ cs w3, Only g w w3 ∧ (∃ F : Nat → Prop, (∀ k, F k → w.heap.size ≤ k ∧ k < w3.heap.size) ∧ VlAt F w3 v cs) ∧ Put4 w3 w' V cs 41
  | .no c q => e = .panicked (flt c q) ∧ Only g w w'
/-- what Parse's closure does -/
theorem parse1_any (r : Rv Vl) (g V : Nat) (S : ByteArray) (d p : Nat) (w : World) (h : Rr g S p d w) (hV : w.heap[V]? = some (.cells zr4 41 (0, 0))) (hgV : g ≠ V)
    (hb : Calls Tryz.prog 36 #[.pointer (some ⟨g, 0, none⟩)] w (r.PostV g S d w)) :
    Calls Tryz.prog 35 #[.pointer (some ⟨g, 0, none⟩), .pointer (some ⟨V, 0, none⟩)] w (r.PostP g V w) := by
  have HB := Hid.mk' hb
  have HV := Hid.mk' hV
  have HGV := Hid.mk' hgV
  clear h hV hb hgV
  go_enter Tryz.func35, Tryz.ntmps35
  go_wp2_with fail
  rcases postV_two HB.out with ⟨v, q, hrv, hc⟩ | ⟨c, q, hrv, hc⟩
  · refine hc.mono ?_
    rintro e w2 ⟨cs, rfl, hr3, ho3, hv3⟩
    subst hrv
    obtain ⟨xk, xt, pn, nn, cn, pk, nk, ck, rfl⟩ : ∃ (xk : Int) (xt : ByteArray) (pn : Option Addr) (nn cn : Nat) (pk : Option Addr) (nk ck : Nat), cs = #[.int .i64 xk, .string xt, .slice pn nn cn, .slice pk nk ck] := by
      obtain ⟨F, _, hv4⟩ := hv3
      exact hv4.form
    have hV2 := res_keep HGV.out HV.out ho3
    have HV2 := Hid.mk' hV2
    have H3 := Hid.mk' (And.intro ho3 hv3)
    obtain ⟨r0, r1, r2, r3, z0, z1, z2, z3⟩ := rz_of hV2
    clear hr3 ho3 hv3 hc hV2
    go_wp2_with fail
    go_end0
    have hp := put4_res (.int .i64 xk) (.string xt) (.slice pn nn cn) (.slice pk nk ck) HV2.out
    exact ⟨rfl, _, w2, H3.out.1, H3.out.2, hp⟩
  · refine hc.mono ?_
    rintro e w2 ⟨rfl, ho3⟩
    subst hrv
    exact ⟨rfl, rfl, ho3⟩
/-- what Parse tells -/
def Rv.PostF (r : Rv Vl) (w : World) (e : Ending) (w' : World) : Prop :=
  match r with
  | .ok v q => ∃ cs, e = .returned (.tuple #[.agg cs, .int .i64 0, .int .i64 0]) ∧ Below w.heap.size w w' ∧ ∃ F : Nat → Prop, (∀ k, F k → w.heap.size ≤ k ∧ k < w'.heap.size) ∧ VlAt F w' v cs
  | .no c q => e = .returned (.tuple #[.agg zr4, .int .i64 (c : Int), .int .i64 (q : Int)]) ∧ Below w.heap.size w w'
set_option maxRecDepth 100000 in
set_option maxHeartbeats 4000000 in
theorem parse_any (pq : Nat → Rv ByteArray) (S : ByteArray) (w : World) (ht : RwT w) (hS : S.size ≤ 65536)
    (hpq : ∀ a t b, pq a = .ok t b → a < b ∧ t.size ≤ 65536)
    (hq : ∀ g d a X, g ≠ 6 → Rr g S a d X → RwT X → Calls Tryz.prog 128 #[.pointer (some ⟨g, 0, none⟩)] X ((pq a).PostT g S d X)) :
    Calls Tryz.prog 18 #[.string S] w ((whlP S pq).PostF w) := by
  have hmf : ∀ (fn : Fn) (first cap : Array Value) (w : World), (Instr.makeFunc fn first cap).run Tryz.prog w = .ok (.func fn first cap) w := fun _ _ _ _ => rfl
  have hSI : ¬ (65536 : Int) < (S.size : Int) := by omega
  have hS1 : decide ((65536 : Int) < (S.size : Int)) = false := by simp; omega
  have hS2 : decide (65536 < S.size) = false := by simp; omega
  have HAT : Hid (∀ X, X = ((w.alloc (.cells #[.int .i64 0, .string ByteArray.empty, .slice none 0 0, .slice none 0 0] 41)).alloc (.cells #[.string S, .int .i64 0, .int .i64 0] 61)).alloc (.cells #[.int .i64 0, .string ByteArray.empty, .slice none 0 0, .slice none 0 0] 41) → Calls Tryz.prog 34 #[.func (.func 35) #[] #[.pointer (some ⟨w.heap.size + 1, 0, none⟩), .pointer (some ⟨w.heap.size + 1 + 1, 0, none⟩)]] X fun e w4 => ∃ (cs : Array Value) (c q : Nat), e = .returned (.agg #[.int .i64 (c : Int), .int .i64 (q : Int)]) ∧ w4.heap[w.heap.size]? = some (.cells zr4 41 (0, 0)) ∧ w4.heap[w.heap.size + 1 + 1]? = some (.cells cs 41 (0, 0)) ∧ (∃ (xk : Int) (xt : ByteArray) (pn : Option Addr) (nn cn : Nat) (pk : Option Addr) (nk ck : Nat), cs = #[.int .i64 xk, .string xt, .slice pn nn cn, .slice pk nk ck]) ∧ (∀ W : World, W.os = w4.os → W.tape = w4.tape → W.output = w4.output → w4.heap.size ≤ W.heap.size → (∀ k, k < w4.heap.size → k ≠ w.heap.size → W.heap[k]? = w4.heap[k]?) → (whlP S pq).PostF w (.returned (.tuple #[.agg cs, .int .i64 (c : Int), .int .i64 (q : Int)])) W)) := Hid.mk' fun X hX => by
    obtain ⟨x1, x2, x3, x4, x5⟩ := al3 w (.cells #[.int .i64 0, .string ByteArray.empty, .slice none 0 0, .slice none 0 0] 41) (.cells #[.string S, .int .i64 0, .int .i64 0] 61) (.cells #[.int .i64 0, .string ByteArray.empty, .slice none 0 0, .slice none 0 0] 41)
    rw [← hX] at x1 x2 x3 x4 x5
    clear hX
    have h8 := ht.lt
    have hg8 : w.heap.size + 1 ≠ 6 := by omega
    have hXs : X.heap.size = w.heap.size + 1 + 1 + 1 := x4
    have hw1 : ∀ w1, w1 = X.alloc (.cells #[.int .i64 0, .int .i64 0] 63) → Rr (w.heap.size + 1) S 0 0 w1 ∧ RwT w1 ∧ w1.heap[w.heap.size]? = some (.cells zr4 41 (0, 0)) ∧ w1.heap[w.heap.size + 1 + 1]? = some (.cells zr4 41 (0, 0)) ∧ w1.heap[X.heap.size]? = some (.cells #[.int .i64 0, .int .i64 0] 63 (0, 0)) ∧ w1.heap.size = X.heap.size + 1 ∧ Below w.heap.size w w1 := fun w1 h1 => by
      subst h1
      have hb := (Below.refl X.heap.size X).alloc (Nat.le_refl _) (.cells #[.int .i64 0, .int .i64 0] 63)
      exact ⟨⟨(hb.block _ (by omega)).trans x2, by omega⟩, (ht.below x5 h8).below hb (by omega), (hb.block _ (by omega)).trans x1, (hb.block _ (by omega)).trans x3, heap_alloc_new X _, World.size_alloc _ _, ⟨x5.os, x5.tape, x5.output, by rw [World.size_alloc]; omega, fun k hk => (hb.block k (by omega)).trans (x5.block k hk)⟩⟩
    have hwh : ∀ w1, w1 = X.alloc (.cells #[.int .i64 0, .int .i64 0] 63) → Calls Tryz.prog 35 #[.pointer (some ⟨w.heap.size + 1, 0, none⟩), .pointer (some ⟨w.heap.size + 1 + 1, 0, none⟩)] w1 ((whlP S pq).PostP (w.heap.size + 1) (w.heap.size + 1 + 1) w1) := fun w1 h1 => by
      obtain ⟨y1, y2, y3, y4, y5, y6, y7⟩ := hw1 w1 h1
      refine parse1_any (whlP S pq) (w.heap.size + 1) (w.heap.size + 1 + 1) S 0 0 w1 y1 y4 (by omega) ?_
      exact whole_any (valP S pq 40 0) (w.heap.size + 1) S 0 0 w1 y1 y2 hS hg8 (fun Y h3 h4 => value_any pq (w.heap.size + 1) S hS hg8 hpq (fun d a Z h5 h6 => hq (w.heap.size + 1) d a Z hg8 h5 h6) 40 0 rfl 0 Y h3 h4)
    have hfl : ∀ (w2 : World) (c q : Nat), w2.heap[X.heap.size]? = some (.cells #[.int .i64 0, .int .i64 0] 63 (0, 0)) → ∃ cur, Put4 w2 (fltW X.heap.size c q w2) X.heap.size cur 63 := fun w2 c q h2 => by
      have a1 := put1_row h2 0 (.int .i64 (c : Int))
      have a2 := put1_row a1.row 1 (.int .i64 (q : Int))
      exact ⟨_, a1.trans a2⟩
    cases hrr : whlP S pq with
    | ok v z =>
      refine (attempt_any 35 #[] #[.pointer (some ⟨w.heap.size + 1, 0, none⟩), .pointer (some ⟨w.heap.size + 1 + 1, 0, none⟩)] .ok (fun w2 => ∃ cs, w2.heap[X.heap.size]? = some (.cells #[.int .i64 0, .int .i64 0] 63 (0, 0)) ∧ w2.heap[w.heap.size]? = some (.cells zr4 41 (0, 0)) ∧ w2.heap[w.heap.size + 1 + 1]? = some (.cells cs 41 (0, 0)) ∧ Below w.heap.size w w2 ∧ ∃ F : Nat → Prop, (∀ k, F k → X.heap.size + 1 ≤ k ∧ k < w2.heap.size) ∧ VlAt F w2 v cs) X (fun _ => rfl) (fun w1 h1 => ?_)).mono ?_
      · obtain ⟨y1, y2, y3, y4, y5, y6, y7⟩ := hw1 w1 h1
        have hc := hwh w1 h1
        rw [hrr] at hc
        refine Calls.mono hc ?_
        rintro e w2 ⟨rfl, cs, w3, ho, ⟨F, hF, hv⟩, hp⟩
        have hos := ho.size
        have k1 : ∀ k, k < w1.heap.size → k ≠ w.heap.size + 1 → k ≠ w.heap.size + 1 + 1 → w2.heap[k]? = w1.heap[k]? := fun k a b c => (hp.block k c).trans (ho.block k a b)
        refine ⟨rfl, k1 _ (by omega) (by omega) (by omega), cs, (k1 _ (by omega) (by omega) (by omega)).trans y5, (k1 _ (by omega) (by omega) (by omega)).trans y3, hp.row, ⟨hp.os.trans (ho.os.trans y7.os), hp.tape.trans (ho.tape.trans y7.tape), hp.output.trans (ho.output.trans y7.output), by rw [hp.size]; have := y7.size; omega, fun k hk => (k1 k (by have := y7.size; omega) (by omega) (by omega)).trans (y7.block k hk)⟩, F, fun k hk => ?_, VlAt.keep (fun _ x => x) (fun k hk _ => hp.block k (by have := hF k hk; omega)) (by rw [hp.size]; omega) _ _ hv⟩
        have := hF k hk
        rw [hp.size]
        omega
      · rintro e w4 ⟨rfl, w2, ⟨cs, q1, q2, q3, q4, F, q5, q6⟩, rfl⟩
        obtain ⟨cur, hp⟩ := hfl w2 At.ok.code At.ok.place q1
        have q4s := q4.size
        refine ⟨cs, 0, 0, rfl, (hp.block _ (by omega)).trans q2, (hp.block _ (by omega)).trans q3, q6.form, fun W e1 e2 e3 e4 e5 => ⟨cs, rfl, ⟨e1.trans (hp.os.trans q4.os), e2.trans (hp.tape.trans q4.tape), e3.trans (hp.output.trans q4.output), by rw [hp.size] at e4; omega, fun k hk => (e5 k (by rw [hp.size]; omega) (by omega)).trans ((hp.block k (by omega)).trans (q4.block k hk))⟩, F, fun k hk => ?_, VlAt.keep (fun _ x => x) (fun k hk hl => (e5 k (by rw [hp.size]; omega) (by have := q5 k hk; omega)).trans (hp.block k (by have := q5 k hk; omega))) (by rw [hp.size] at e4; omega) _ _ q6⟩⟩
        have := q5 k hk
        rw [hp.size] at e4
        omega
    | no c z =>
      refine (attempt_any 35 #[] #[.pointer (some ⟨w.heap.size + 1, 0, none⟩), .pointer (some ⟨w.heap.size + 1 + 1, 0, none⟩)] (.no c z) (fun w2 => w2.heap[X.heap.size]? = some (.cells #[.int .i64 0, .int .i64 0] 63 (0, 0)) ∧ w2.heap[w.heap.size]? = some (.cells zr4 41 (0, 0)) ∧ w2.heap[w.heap.size + 1 + 1]? = some (.cells zr4 41 (0, 0)) ∧ Below w.heap.size w w2) X (fun _ => rfl) (fun w1 h1 => ?_)).mono ?_
      · obtain ⟨y1, y2, y3, y4, y5, y6, y7⟩ := hw1 w1 h1
        have hc := hwh w1 h1
        rw [hrr] at hc
        refine Calls.mono hc ?_
        rintro e w2 ⟨rfl, ho⟩
        have k1 : ∀ k, k < w1.heap.size → k ≠ w.heap.size + 1 → w2.heap[k]? = w1.heap[k]? := fun k a b => ho.block k a b
        exact ⟨rfl, k1 _ (by omega) (by omega), (k1 _ (by omega) (by omega)).trans y5, (k1 _ (by omega) (by omega)).trans y3, (k1 _ (by omega) (by omega)).trans y4, ⟨ho.os.trans y7.os, ho.tape.trans y7.tape, ho.output.trans y7.output, by have := ho.size; have := y7.size; omega, fun k hk => (k1 k (by have := y7.size; omega) (by omega)).trans (y7.block k hk)⟩⟩
      · rintro e w4 ⟨rfl, w2, ⟨q1, q2, q3, q4⟩, rfl⟩
        obtain ⟨cur, hp⟩ := hfl w2 (At.no c z).code (At.no c z).place q1
        have q4s := q4.size
        exact ⟨zr4, c, z, rfl, (hp.block _ (by omega)).trans q2, (hp.block _ (by omega)).trans q3, ⟨_, _, _, _, _, _, _, _, rfl⟩, fun W e1 e2 e3 e4 e5 => ⟨rfl, ⟨e1.trans (hp.os.trans q4.os), e2.trans (hp.tape.trans q4.tape), e3.trans (hp.output.trans q4.output), by rw [hp.size] at e4; omega, fun k hk => (e5 k (by rw [hp.size]; omega) (by omega)).trans ((hp.block k (by omega)).trans (q4.block k hk))⟩⟩⟩
  obtain ⟨rr, hrr⟩ : ∃ rr, whlP S pq = rr := ⟨_, rfl⟩
  rw [hrr] at HAT ⊢
  clear ht hS hpq hq hrr
  go_enter Tryz.func18, Tryz.ntmps18
  go_wp2_with fail
  refine (HAT.out _ rfl).mono ?_
  rintro e w4 ⟨cs, c, q, rfl, hR, hV, ⟨xk, xt, pn, nn, cn, pk, nk, ck, rfl⟩, hF⟩
  have HFIN := Hid.mk' hF
  have HR := Hid.mk' hR
  have HRL := Hid.mk' (Array.getElem?_eq_some_iff.1 hR).1
  have HA : Hid (∀ o : Obj, ((w4.alloc o).heap[w.heap.size]? = some (.cells zr4 41 (0, 0)) ∧ (w4.alloc o).heap[w.heap.size + 1 + 1]? = some (.cells #[.int .i64 xk, .string xt, .slice pn nn cn, .slice pk nk ck] 41 (0, 0))) ∧ (w4.alloc o).heap[w4.heap.size]? = some o ∧ Below w4.heap.size w4 (w4.alloc o)) := Hid.mk' (fun o => by
    have hb := (Below.refl w4.heap.size w4).alloc (Nat.le_refl _) o
    exact ⟨⟨(hb.block _ (Array.getElem?_eq_some_iff.1 hR).1).trans hR, (hb.block _ (Array.getElem?_eq_some_iff.1 hV).1).trans hV⟩, heap_alloc_new w4 o, hb⟩)
  clear hR hV hF HAT
  go_upto_region 6 with fail
  have HA5 := Hid.mk' (HA.out (.cells #[.int .i64 (c : Int), .int .i64 (q : Int)] 63))
  generalize w4.alloc (.cells #[.int .i64 (c : Int), .int .i64 (q : Int)] 63) = w5 at HA5 ⊢
  have hR := HA5.out.1.1
  have hV := HA5.out.1.2
  have hF := HA5.out.2.1
  obtain ⟨r0, r1, r2, r3, z0, z1, z2, z3⟩ := rz_of hR
  have c0 : w5.cell? ⟨w.heap.size + 1 + 1, 0, none⟩ = some (.int .i64 xk) := by simp [World.cell?, hV]
  have c1 : w5.cell? ⟨w.heap.size + 1 + 1, 1, none⟩ = some (.string xt) := by simp [World.cell?, hV]
  have c2 : w5.cell? ⟨w.heap.size + 1 + 1, 2, none⟩ = some (.slice pn nn cn) := by simp [World.cell?, hV]
  have c3 : w5.cell? ⟨w.heap.size + 1 + 1, 3, none⟩ = some (.slice pk nk ck) := by simp [World.cell?, hV]
  have d0 : w5.cell? ⟨w4.heap.size, 0, none⟩ = some (.int .i64 (c : Int)) := by simp [World.cell?, hF]
  have d1 : w5.cell? ⟨w4.heap.size, 1, none⟩ = some (.int .i64 (q : Int)) := by simp [World.cell?, hF]
  have hne : ¬ w4.heap.size = w.heap.size := by have := HRL.out; omega
  have hne2 : ¬ w.heap.size = w4.heap.size := by have := HRL.out; omega
  have HRW := Hid.mk' hR
  clear hR hV hF HA
  go_region
  have hp := put4_res (w := w5) (R := w.heap.size) (.int .i64 xk) (.string xt) (.slice pn nn cn) (.slice pk nk ck) HRW.out
  have hrow : (put4 w5 w.heap.size 0 (.int .i64 xk) (.string xt) (.slice pn nn cn) (.slice pk nk ck)).drew.heap[w.heap.size]? = _ := hp.row
  have hfin := HFIN.out (put4 w5 w.heap.size 0 (.int .i64 xk) (.string xt) (.slice pn nn cn) (.slice pk nk ck)).drew (hp.os.trans HA5.out.2.2.os) (hp.tape.trans HA5.out.2.2.tape) (hp.output.trans HA5.out.2.2.output) (by show w4.heap.size ≤ (put4 w5 w.heap.size 0 (.int .i64 xk) (.string xt) (.slice pn nn cn) (.slice pk nk ck)).heap.size; rw [hp.size]; exact HA5.out.2.2.size) (fun k a b => (hp.block k b).trans (HA5.out.2.2.block k a))
  show Exit.then _ _ _ _ (put4 w5 w.heap.size 0 (.int .i64 xk) (.string xt) (.slice pn nn cn) (.slice pk nk ck)).drew
  generalize (put4 w5 w.heap.size 0 (.int .i64 xk) (.string xt) (.slice pn nn cn) (.slice pk nk ck)).drew = w6 at hrow hfin ⊢
  clear r0 r1 r2 r3 z0 z1 z2 z3 c0 c1 c2 c3 d0 d1 hp
  have HROW := Hid.mk' hrow
  have HFI := Hid.mk' hfin
  clear hrow hfin
  go_wp2_with fail
  have hrow := HROW.out
  refine ⟨rfl, _, ?_, HFI.out⟩
  simp [results, Tryz.f18, go_sem, World.cell?, hrow]
end Go.Proofs.YtkplbggefiemdaaGreatDoor
