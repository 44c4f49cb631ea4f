/-
  record: a Builder's Add. Conditions: as each says.
-/
import Derived.Test.YtlplbnlfajdcbaaGreatDoorRcD
import Derived.Test.YtlplbnlfajdcbaaGreatDoorMgA
import Derived.Deep.CutBlock
namespace Rec
open Code Sums
theorem lnN_len : ∀ l : List Nat, l.length ≤ (lnN l).length
  | [] => Nat.le_refl _
  | n :: l => by
    rw [lnN, List.length_append, List.length_cons]
    have := lnN_len l
    have := uint_pos n
    omega
theorem len_le (l : List Ln) : l.length ≤ nmF l := by
  unfold nmF
  have := lnN_len (lns l)
  rw [lns_len] at this
  omega
theorem bad_le {x : Ln} (h : bad x = 0) : x.2.size ≤ 8192 ∧ nl x.2 < 0 ∧ 0 ≤ x.1 ∧ x.1 ≤ MS := by
  unfold bad at h
  split at h
  · cases h
  · split at h
    · cases h
    · omega
theorem last_le {l : List Ln} (h : ∀ x ∈ l, bad x = 0) : 0 ≤ last l ∧ last l ≤ MS := by
  unfold last
  rcases List.eq_nil_or_concat l with rfl | ⟨m, x, rfl⟩
  · decide
  · have h1 := bad_le (h x (by simp))
    rw [List.concat_eq_append, sts_append, show sts [x] = [x.1] from rfl, List.getLastD_concat]
    exact ⟨h1.2.2.1, h1.2.2.2⟩
end Rec
namespace Go.Proofs.YtlplbnlfajdcbaaGreatDoor
open Go.RowKit
set_option linter.unusedVariables false
section
variable {B g : Nat} {S E : List Int} {T : List Nat} {sv ev tv : Value} {nu mi ma : Int} {w w' : World}
theorem Bw.of (h : Bw B g S E T sv ev tv nu mi ma w) (e : w'.heap = w.heap) : Bw B g S E T sv ev tv nu mi ma w' := by
  refine ⟨h.hB, by rw [e]; exact h.row, row_kept h.hs fun k _ => by rw [e], row_kept h.he fun k _ => by rw [e], row_kept h.ht fun k _ => by rw [e], h.ap⟩
theorem getLast_at (l : List Int) (h : 0 < l.length) : l.getD (l.length - 1) 0 = l.getLastD 0 := by
  rcases List.eq_nil_or_concat l with rfl | ⟨m, x, rfl⟩
  · simp at h
  · rw [List.concat_eq_append, List.getLastD_concat]
    simp [List.getD_eq_getElem?_getD]
theorem Bw.last_any (h : Bw B g S E T sv ev tv nu mi ma w) (hn : S.length ≤ 1125899906842624) :
    Calls Tryz.prog 81 #[.pointer (some ⟨g, 0, none⟩)] w fun e w' => e = .returned (.int .i64 (S.getLastD 0)) ∧ ∃ k, w' = w.drewN k := by
  obtain ⟨a0, cp0, rfl⟩ := row_shape h.hs
  refine YtlplbnlfajdcbaaGreatDoor.last_any g S.length cp0 a0 (S.getLastD 0) w (by rw [h.cell]; rfl) hn (fun h0 => ?_) (fun h0 => ?_)
  · rw [List.length_eq_zero_iff.1 h0]
    rfl
  · obtain ⟨q, rfl, _, _, hq⟩ := row_some h.hs h0
    exact ⟨q, rfl, by rw [hq _ (by omega), getLast_at S h0]⟩
theorem Bw.len_any (h : Bw B g S E T sv ev tv nu mi ma w) :
    Calls Tryz.prog 84 #[.pointer (some ⟨g, 0, none⟩)] w fun e w' => e = .returned (.int .i64 (S.length : Int)) ∧ w' = w := by
  obtain ⟨a0, cp0, rfl⟩ := row_shape h.hs
  exact YtlplbnlfajdcbaaGreatDoor.len_any g S.length cp0 a0 w (by rw [h.cell]; rfl)
end
theorem sum_w (nu a b N : Nat) (h : N = nu + a + b) (hb : N ≤ 2097152) : IntKind.i64.wrap (IntKind.i64.wrap ((nu : Int) + (a : Int)) + (b : Int)) = (N : Int) := by
  have h1 : IntKind.i64.wrap ((nu : Int) + (a : Int)) = (nu : Int) + (a : Int) := by rw [IntKind.wrap_i64]; omega
  rw [h1, IntKind.wrap_i64]
  omega
theorem size_int (c n t : Nat) (C N T : Int) (w : World) (hC : C = (c : Int)) (hN : N = (n : Int)) (hT : T = (t : Int)) (hb : c ≤ 1125899906842624 ∧ n ≤ 1125899906842624 ∧ t ≤ 1125899906842624) :
    Calls Tryz.prog 83 #[.int .i64 C, .int .i64 N, .int .i64 T] w fun e w' => e = .returned (.int .i64 (((Code.uint c).length + n + t : Nat) : Int)) ∧ Below w.heap.size w w' := by
  subst hC hN hT
  exact size_any c n t w hb.1 hb.2.1 hb.2.2
/-- beside a Builder: the box of a line -/
structure Adx (B g bx : Nat) (x : Int) (t : ByteArray) (w0 w : World) : Prop where
  box : w.heap[bx]? = some (.cells #[.int .i64 x, .string t] 26 (0, 0))
  bel : Below B w0 w
  siz : B ≤ w.heap.size
  ne : bx ≠ g
section
variable {B g bx : Nat} {x : Int} {t : ByteArray} {w0 w w' : World}
theorem Adx.lt (h : Adx B g bx x t w0 w) : bx < w.heap.size := (Array.getElem?_eq_some_iff.1 h.box).1
theorem Adx.c0 (h : Adx B g bx x t w0 w) : w.cell? ⟨bx, 0, none⟩ = some (.int .i64 x) := by simp [World.cell?, h.box]
theorem Adx.c1 (h : Adx B g bx x t w0 w) : w.cell? ⟨bx, 1, none⟩ = some (.string t) := by simp [World.cell?, h.box]
theorem Adx.of (h : Adx B g bx x t w0 w) (e : w'.heap = w.heap) (e1 : w'.os = w.os) (e2 : w'.tape = w.tape) (e3 : w'.output = w.output) : Adx B g bx x t w0 w' :=
  ⟨by rw [e]; exact h.box, ⟨e1.trans h.bel.os, e2.trans h.bel.tape, e3.trans h.bel.output, by rw [e]; exact h.bel.size, fun k hk => by rw [e]; exact h.bel.block k hk⟩, by rw [e]; exact h.siz, h.ne⟩
theorem Adx.thru (h : Adx B g bx x t w0 w) (hb : Below w.heap.size w w') : Adx B g bx x t w0 w' :=
  ⟨(hb.block bx h.lt).trans h.box, h.bel.trans ⟨hb.os, hb.tape, hb.output, hb.size, fun k hk => hb.block k (Nat.lt_of_lt_of_le hk h.siz)⟩, Nat.le_trans h.siz hb.size, h.ne⟩
theorem Adx.set (h : Adx B g bx x t w0 w) (hB : B ≤ g) (o : Nat) (u : Value) : Adx B g bx x t w0 (w.setCell ⟨g, o, none⟩ u) :=
  ⟨(Below.heap_setCell _ _ _ _ (by exact h.ne)).trans h.box, h.bel.setCell (p := ⟨g, o, none⟩) hB u, by simpa [World.setCell] using h.siz, h.ne⟩
theorem Adx.other (h : Adx B g bx x t w0 w) (hb : Below B w0 w') (ho : ∀ k, k ≠ g → w'.heap[k]? = w.heap[k]?) (hs : w'.heap.size = w.heap.size) : Adx B g bx x t w0 w' :=
  ⟨(ho bx h.ne).trans h.box, hb, by rw [hs]; exact h.siz, h.ne⟩
theorem Adx.grown (h : Adx B g bx x t w0 w) {v : Value} {n e s : Nat} {xs : List Value} (hv : w.ownsRow B e s v n xs) (he : e ≠ 26) (hg : w.grownBy w' v.ownBlock) : Adx B g bx x t w0 w' :=
  ⟨(hg.block bx h.lt (fun e1 => own_ty hv h.box (Ne.symm he) e1.symm)).trans h.box, h.bel.grown hg h.siz (fun k hk => (hv.lt k hk).1), Nat.le_trans h.siz hg.size, h.ne⟩
end
set_option maxHeartbeats 400000 in
set_option maxRecDepth 100000 in
theorem add_bad (g : Nat) (x : Int) (t : ByteArray) (w : World) (ht : t.size ≤ 1125899906842624) (hx : Rec.bad (x, t) ≠ 0) :
    Calls Tryz.prog 50 #[.pointer (some ⟨g, 0, none⟩), .agg #[.int .i64 x, .string t]] w fun e w' => e = .returned (.int .i64 (Rec.bad (x, t) : Int)) ∧ Below w.heap.size w w' := by
  have hx' : ¬ ((Rec.bad (x, t) : Nat) : Int) = 0 := by omega
  have hbox : Below w.heap.size w (w.alloc (.cells #[.int .i64 x, .string t] 26)) := (Below.refl _ _).alloc (Nat.le_refl _) _
  go_enter Tryz.func50, Tryz.ntmps50
  go_wp2_with (go_at_call 79; refine (refuses_any x t _ ht).mono ?_; rintro e w' ⟨rfl, hb⟩)
  go_ret
  exact ⟨rfl, hbox.trans ⟨hb.os, hb.tape, hb.output, hb.size, fun k hk => hb.block k (by simp; omega)⟩⟩
set_option maxHeartbeats 400000 in
set_option maxRecDepth 100000 in
theorem add_full {B g : Nat} {S E : List Int} {T : List Nat} {sv ev tv : Value} {nu : Nat} {mi ma : Int} {w : World} (h : Bw B g S E T sv ev tv nu mi ma w) (x : Int) (t : ByteArray) (hx : Rec.bad (x, t) = 0) (h1 : S.length ≤ 1048576) (h2 : nu ≤ 1048576) (h3 : T.length ≤ 1048576) (h4 : E.length ≤ 1048576) (h5 : 0 ≤ S.getLastD 0) (h6 : S.getLastD 0 ≤ 253402300799999) (N Z : Nat) (hN : N = nu + (Code.uint (Code.zig (x - S.getLastD 0))).length + (Code.uint t.size).length) (hZ : Z = (Code.uint (S.length + 1)).length + N + (T.length + t.size)) (hbig : (131072 : Int) < (Z : Int)) :
    Calls Tryz.prog 50 #[.pointer (some ⟨g, 0, none⟩), .agg #[.int .i64 x, .string t]] w fun e w' => e = .returned (.int .i64 41) ∧ Bw B g S E T sv ev tv nu mi ma w' ∧ Below B w w' := by
  obtain ⟨a0, cp0, rfl⟩ := row_shape h.hs
  obtain ⟨a1, cp1, rfl⟩ := row_shape h.he
  obtain ⟨a2, cp2, rfl⟩ := row_shape h.ht
  obtain ⟨sv, hsv⟩ : ∃ sv, sv = Value.slice a0 S.length cp0 := ⟨_, rfl⟩
  obtain ⟨ev, hev⟩ : ∃ ev, ev = Value.slice a1 E.length cp1 := ⟨_, rfl⟩
  obtain ⟨tv, htv⟩ : ∃ tv, tv = Value.slice a2 T.length cp2 := ⟨_, rfl⟩
  rw [← hsv, ← hev, ← htv] at h ⊢
  have HSV := Hid.mk' hsv
  have HEV := Hid.mk' hev
  have HTV := Hid.mk' htv
  clear hsv hev htv
  obtain ⟨q1, q2, q3, q4⟩ := Rec.bad_le hx
  have ht0 : t.size ≤ 8192 := q1
  have hx0 : 0 ≤ x := q3
  have hx1 : x ≤ 253402300799999 := q4
  obtain ⟨y, hy⟩ : ∃ y, y = S.getLastD 0 := ⟨_, rfl⟩
  rw [← hy] at h5 h6 hN
  have l1 := Code.uint_len (Code.zig (x - y)) (Code.zig_lt _ (by omega) (by omega))
  have l2 := Code.uint_len t.size (by omega)
  have n1 := nums_size (Code.uint (Code.zig (x - y)))
  have n2 := nums_size (Code.uint t.size)
  have hNle : N ≤ 2097152 := by omega
  have HN0 := Hid.mk' hN
  clear hN
  have hN := HN0
  clear HN0
  have HZ := Hid.mk' hZ
  clear hZ
  have HB0 := Hid.mk' h
  have HX0 : Hid (Adx B g w.heap.size x t w (w.alloc (.cells #[.int .i64 x, .string t] 26))) := ⟨heap_alloc_new w _, (Below.refl _ _).alloc (Nat.le_trans h.hB (Nat.le_of_lt h.lt)) _, by have := h.hB; have := h.lt; simp; omega, by have := h.lt; omega⟩
  obtain ⟨bx, hbx⟩ : ∃ bx, bx = w.heap.size := ⟨_, rfl⟩
  have hBg := h.hB
  have hlt := h.lt
  clear h
  go_enter Tryz.func50, Tryz.ntmps50
  go_upto_region 4 with (go_at_call 79; refine (refuses_any x t _ (by omega)).mono ?_; rintro e w1 ⟨rfl, hb⟩; rw [hx])
  have HB1 : Hid (Bw B g S E T sv ev tv nu mi ma w1) := (HB0.out.below ((Below.refl _ _).alloc (Nat.le_refl _) _)).below hb
  have HX1 := Hid.mk' (HX0.out.thru hb)
  rw [← hbx] at HX1 ⊢
  have HQ : Hid (∀ W : World, Bw B g S E T sv ev tv nu mi ma W → Adx B g bx x t w W → W.cell? ⟨g, 3, none⟩ = some (.int .i64 (nu : Int)) ∧ W.cell? ⟨bx, 0, none⟩ = some (.int .i64 x) ∧ W.cell? ⟨bx, 1, none⟩ = some (.string t)) := fun W a b => ⟨by rw [a.cell]; rfl, b.c0, b.c1⟩
  have d3 := (HQ.out _ HB1.out HX1.out).1
  have b0 := (HQ.out _ HB1.out HX1.out).2.1
  have b1 := (HQ.out _ HB1.out HX1.out).2.2
  have hxy : IntKind.i64.wrap (x - y) = x - y := by rw [IntKind.wrap_i64]; omega
  have hts : IntKind.u64.wrap (t.size : Int) = (t.size : Int) := by rw [IntKind.wrap_u64]; omega
  have HXX := Hid.mk' hx
  have HHY := Hid.mk' hy
  have HSL := Hid.mk' h1
  clear hb HB0 HX0 hbx hx q1 q2 q3 q4 hlt hy
  go_cut [6] (fun s6 wx => s6 = .int .i64 (N : Int) ∧ Hid (Bw B g S E T sv ev tv nu mi ma wx) ∧ Hid (Adx B g bx x t w wx))
  case first =>
    go_region_held3 (fun w' => w'.cell? ⟨g, 3, none⟩ = some (.int .i64 (nu : Int)) ∧ w'.cell? ⟨bx, 0, none⟩ = some (.int .i64 x) ∧ w'.cell? ⟨bx, 1, none⟩ = some (.string t)) (first | go_keep | exact HQ.out _ (HK.out.of rfl) (HY.out.of rfl rfl rfl rfl) | exact HQ.out _ HK.out HY.out)
      ((first | (go_at_call 81; refine (Bw.last_any (by first | exact HK.out.of rfl | exact HB1.out.of rfl) (by have := HSL.out; omega)).mono ?_; rintro e w' ⟨rfl, kk, hw'⟩; have HK : Hid (Bw B g S E T sv ev tv nu mi ma w') := (by first | exact (HK.out.of (by rw [hw']; rfl)) | exact (HB1.out.of (by rw [hw']; rfl))); have HY : Hid (Adx B g bx x t w w') := (by first | exact (HY.out.of (by rw [hw']; rfl) (by rw [hw']; rfl) (by rw [hw']; rfl) (by rw [hw']; rfl)) | exact (HX1.out.of (by rw [hw']; rfl) (by rw [hw']; rfl) (by rw [hw']; rfl) (by rw [hw']; rfl))); rw [← HHY.out]; clear hw') | (go_at_call 80; (try rw [hxy]); refine (int_any (x - y) _ (by omega) (by omega)).mono ?_; rintro e w' ⟨rfl, hb⟩; have HK : Hid (Bw B g S E T sv ev tv nu mi ma w') := (by first | exact (HK.out.of rfl).below hb | exact (HB1.out.of rfl).below hb); have HY : Hid (Adx B g bx x t w w') := (by first | exact (HY.out.of rfl rfl rfl rfl).thru hb | exact (HX1.out.of rfl rfl rfl rfl).thru hb); clear hb) | (go_at_call 82; (try rw [hts]); refine (uint_any t.size _ (by omega)).mono ?_; rintro e w' ⟨rfl, hb⟩; have HK : Hid (Bw B g S E T sv ev tv nu mi ma w') := (by first | exact (HK.out.of rfl).below hb | exact (HB1.out.of rfl).below hb); have HY : Hid (Adx B g bx x t w w') := (by first | exact (HY.out.of rfl rfl rfl rfl).thru hb | exact (HX1.out.of rfl rfl rfl rfl).thru hb); clear hb)))
    all_goals (go_wp2_with fail; go_meet)
    exact ⟨val_int (sum_w nu _ _ N hN.out hNle), HK, HY⟩
  case rest =>
    obtain ⟨rfl, HB2, HX2⟩ := hcut
    rename World => w2
    clear HB1 HX1 d3 b0 b1
    have HQ2 : Hid (∀ W : World, Bw B g S E T sv ev tv nu mi ma W → Adx B g bx x t w W → W.cell? ⟨g, 2, none⟩ = some (.slice a2 T.length cp2) ∧ W.cell? ⟨bx, 1, none⟩ = some (.string t)) := fun W a b => ⟨by rw [a.cell, ← HTV.out]; rfl, b.c1⟩
    have d2 := (HQ2.out _ HB2.out HX2.out).1
    have b1 := (HQ2.out _ HB2.out HX2.out).2
    have hw1 : IntKind.i64.wrap ((S.length : Int) + 1) = ((S.length + 1 : Nat) : Int) := by rw [IntKind.wrap_i64]; omega
    have hw2 : IntKind.i64.wrap ((T.length : Int) + (t.size : Int)) = ((T.length + t.size : Nat) : Int) := by rw [IntKind.wrap_i64]; omega
    go_upto_region 5 with fail
    go_region_held3 (fun w' => w'.cell? ⟨g, 2, none⟩ = some (.slice a2 T.length cp2) ∧ w'.cell? ⟨bx, 1, none⟩ = some (.string t)) (first | go_keep | exact HQ2.out _ (HK.out.of rfl) (HY.out.of rfl rfl rfl rfl) | exact HQ2.out _ HK.out HY.out)
      ((first | (go_at_call 84; refine (Bw.len_any (by first | exact HK.out.of rfl | exact HB2.out.of rfl)).mono ?_; rintro e w' ⟨rfl, hw'⟩; have HK : Hid (Bw B g S E T sv ev tv nu mi ma w') := (by first | exact (HK.out.of (by rw [hw']; rfl)) | exact (HB2.out.of (by rw [hw']; rfl))); have HY : Hid (Adx B g bx x t w w') := (by first | exact (HY.out.of (by rw [hw']; rfl) (by rw [hw']; rfl) (by rw [hw']; rfl) (by rw [hw']; rfl)) | exact (HX2.out.of (by rw [hw']; rfl) (by rw [hw']; rfl) (by rw [hw']; rfl) (by rw [hw']; rfl))); clear hw') | (go_at_call 83; refine (size_int (S.length + 1) N (T.length + t.size) _ _ _ _ ?hca ?hcb ?hcc ?hcd).mono ?_; (case hca => (first | omega | (rw [IntKind.wrap_i64]; omega))); (case hcb => rfl); (case hcc => (first | omega | (rw [IntKind.wrap_i64]; omega))); (case hcd => omega); rintro e w' ⟨rfl, hb⟩; rw [← HZ.out]; have HK : Hid (Bw B g S E T sv ev tv nu mi ma w') := (by first | exact (HK.out.of rfl).below hb | exact (HB2.out.of rfl).below hb); have HY : Hid (Adx B g bx x t w w') := (by first | exact (HY.out.of rfl rfl rfl rfl).thru hb | exact (HX2.out.of rfl rfl rfl rfl).thru hb); clear hb)))
    all_goals (go_wp2_with fail; go_ret; exact ⟨rfl, HK.out, HY.out.bel⟩)
end Go.Proofs.YtlplbnlfajdcbaaGreatDoor
