/-
  Lz4Bytes answers true: any bytes give a text within its bounds, or an error and a place. Conditions: the text is within reach.
-/
import Derived.Test.YtchjmhgalbkjkaaShn
import Derived.Test.YtchjmhgalbkjkaaPrtN
import Derived.Test.YtchjmhgalbkjkaaBytA
import Derived.Test.YtchjmhgalbkjkaaBytB
import Derived.Test.YtchjmhgalbkjkaaPick4
import Derived.Test.YtchjmhgalbkjkaaQk
import Derived.BigFrameIn
import Derived.Shelf.RegionOpen
namespace Go.Proofs.Ytchjmhgalbkjkaa
open Go.RowKit Go.Shelf
set_option linter.unusedVariables false
set_option linter.unusedSimpArgs false
attribute [local go_sem] Oper.semAt_some
theorem str_ne (t : ByteArray) (h : t.size ≠ 0) (w : World) : (binOp .neq 9 (.string t) (.string ⟨#[]⟩)).run Try.prog w = .ok (.bool true) w := by
  have hne : ¬ t.toList = (⟨#[]⟩ : ByteArray).toList := by
    intro e
    rw [ByteArray.toList_eq, ByteArray.toList_eq] at e
    have : t = ⟨#[]⟩ := ByteArray.ext (Array.toList_inj.1 e)
    rw [this] at h
    exact h rfl
  have e0 : (⟨#[]⟩ : ByteArray).toList = [] := by rw [ByteArray.toList_eq]
  rw [e0] at hne
  simp [go_sem]
  exact hne
theorem eq_bool (a b : Bool) (w : World) : (binOp .eql 4 (.bool a) (.bool b)).run Try.prog w = .ok (.bool (a == b)) w := by cases a <;> cases b <;> kernel_rfl
theorem skip_call {F : Fence} {n : Nat} {P : Program} {ops : Array Oper} {Q : Exit → Act → World → Prop} {a : Act} {w : World} {rest : List Oper} {o : Oper} (hw : Region.wanted o (yielded ops a.tmps) = false) (ha : o.about P w a.eval = none) (hd : a.put o.dst undef = a) (h : wpListIn F n P ops Q rest a w) : wpListIn F n P ops Q (o :: rest) a w := wpListIn_skip hw ha (by rw [hd]; exact h)
theorem nil_func (fn : Fn) (first cap : Array Value) (w : World) : (binOp .eql 36 (.func fn first cap) .nilFunc).run Try.prog w = .ok (.bool false) w := by kernel_rfl
theorem grown_set (W : World) (k : Nat) (u : Value) : W.grownBy (W.setCell ⟨k, 0, none⟩ u) (some k) :=
  ⟨rfl, rfl, rfl, by simp [World.setCell], fun i _ hne => by
    simp only [World.setCell, Array.getElem?_modify]
    rw [if_neg (fun e => hne (by rw [e]))]⟩
theorem kept_set {W : World} {k : Nat} {t : TypeId} {v : Value} (B : Nat) (h : Boxed W k t v) (ht : t ≠ 66) (u : Value) : KeptW B WrP W (W.setCell ⟨k, 0, none⟩ u) :=
  ⟨by simp [World.setCell], fun i o _ hi ho => by
    rw [(grown_set W k u).block i (Array.getElem?_eq_some_iff.1 hi).1 (fun e => ?_)]
    · exact hi
    · cases e
      have h3 : W.heap[k]? = some (.cells #[v] t (0, 0)) := h
      rw [h3] at hi
      cases hi
      rcases ho with ho | ⟨cs, ho⟩
      · cases ho
      · cases ho
        exact ht rfl⟩
theorem kp_set {W : World} {k : Nat} {t : TypeId} {v : Value} (h : Boxed W k t v) (ht : t ≠ 66 ∧ t ≠ 69) (u : Value) : KpP W (W.setCell ⟨k, 0, none⟩ u) :=
  ⟨by simp [World.setCell], fun i o hi ho => by
    rw [(grown_set W k u).block i (Array.getElem?_eq_some_iff.1 hi).1 (fun e => ?_)]
    · exact hi
    · cases e
      have h3 : W.heap[k]? = some (.cells #[v] t (0, 0)) := h
      rw [h3] at hi
      cases hi
      rcases ho with ⟨cs, ho⟩ | ⟨cs, ho⟩
      · cases ho
        exact ht.1 rfl
      · cases ho
        exact ht.2 rfl⟩
theorem kept_new (B : Nat) (W : World) (o : Obj) : KeptW B WrP W (W.alloc o) := ⟨by simp, fun i x _ h _ => (Below.heap_alloc _ _ _ (Array.getElem?_eq_some_iff.1 h).1).trans h⟩
theorem kp_new (W : World) (o : Obj) : KpP W (W.alloc o) := ⟨by simp, fun i x h _ => (Below.heap_alloc _ _ _ (Array.getElem?_eq_some_iff.1 h).1).trans h⟩
theorem KpP.refl (W : World) : KpP W W := ⟨Nat.le_refl _, fun _ _ h _ => h⟩
abbrev Turn (B : Nat) (W : World) (row : Option Nat) : Prop := ∀ r, row = some r → B ≤ r ∧ ∃ o : Obj, W.heap[r]? = some o ∧ (o.isCells = false ∨ WrP o)
theorem no_turn {W : World} {row : Option Nat} {B k : Nat} {cs : Array Value} {t : TypeId} {fz : Nat × Nat} (h : W.heap[k]? = some (.cells cs t fz)) (hr : Turn B W row) (ht : t ≠ 66) : some k ≠ row := by
  intro e
  obtain ⟨_, o, h1, h2⟩ := hr _ e.symm
  rw [h] at h1
  cases h1
  rcases h2 with h2 | ⟨cs, h2⟩
  · cases h2
  · cases h2
    exact ht rfl
theorem cells_ab {W W' : World} {row : Option Nat} {B k : Nat} {cs : Array Value} {t : TypeId} {fz : Nat × Nat} (h : W.heap[k]? = some (.cells cs t fz)) (hg : W.grownBy W' row) (hr : Turn B W row) (ht : t ≠ 66) : W'.heap[k]? = some (.cells cs t fz) :=
  (hg.block k (Array.getElem?_eq_some_iff.1 h).1 (no_turn h hr ht)).trans h
theorem box_ab {W W' : World} {row : Option Nat} {B B' : Nat} {t : TypeId} {v : Value} (h : Boxed W B' t v) (hg : W.grownBy W' row) (hr : Turn B W row) (ht : t ≠ 66) : Boxed W' B' t v := cells_ab h hg hr ht
/-- a sequence, as it lies -/
def Sb (W : World) (X : Nat) (x : Pt) : Prop := W.heap[X]? = some (.cells #[.string x.2.1, .int .i64 (x.2.2.1 : Int), .int .i64 (x.2.2.2 : Int)] 39 (0, 0))
theorem Sb.cells {W : World} {X : Nat} {x : Pt} (h : Sb W X x) : W.cell? ⟨X, 0, none⟩ = some (.string x.2.1) ∧ W.cell? ⟨X, 1, none⟩ = some (.int .i64 (x.2.2.1 : Int)) ∧ W.cell? ⟨X, 2, none⟩ = some (.int .i64 (x.2.2.2 : Int)) := by
  unfold Sb at h
  simp [World.cell?, h]
/-- what stays through the loop -/
structure Fz (s : ByteArray) (b c : Nat) (w : World) (pre : List Pt) (W : World) : Prop where
  txt : Boxed W b 9 (.string s)
  res : Boxed W (b + 1) 4 (.bool false)
  tot : Boxed W c 3 (.int .i64 (totP pre : Int))
  nd : Boxed W (c + 1) 3 (.int .i64 (endP pre : Int))
  las : Boxed W (c + 2) 4 (.bool (lasP pre))
  bel : Below b w W
theorem Fz.ab {s : ByteArray} {b c : Nat} {w W W' : World} {pre : List Pt} {row : Option Nat} {B : Nat} (hB : b ≤ B) (hbw : b ≤ w.heap.size) (h : Fz s b c w pre W) (hg : W.grownBy W' row) (hr : ∀ r, row = some r → B ≤ r ∧ ∃ o : Obj, W.heap[r]? = some o ∧ (o.isCells = false ∨ WrP o)) : Fz s b c w pre W' := by
  refine ⟨box_ab h.txt hg hr (by decide), box_ab h.res hg hr (by decide), box_ab h.tot hg hr (by decide), box_ab h.nd hg hr (by decide), box_ab h.las hg hr (by decide), ?_⟩
  exact h.bel.trans ⟨hg.os, hg.tape, hg.output, hg.size, fun k hk => by
      by_cases e : some k = row
      · obtain ⟨h1, _⟩ := hr k e.symm
        omega
      · exact hg.block k (Nat.lt_of_lt_of_le hk (Nat.le_trans hbw h.bel.size)) e⟩
theorem Fz.new {s : ByteArray} {b c : Nat} {w W : World} {pre : List Pt} (hbw : b ≤ w.heap.size) (h : Fz s b c w pre W) (o : Obj) : Fz s b c w pre (W.alloc o) :=
  h.ab (B := b) (Nat.le_refl _) hbw (World.grownBy_alloc W _ none) (fun r e => by cases e)
theorem kept_bel {W W' : World} (B : Nat) (h : Below W.heap.size W W') : KeptW B WrP W W' := ⟨h.size, fun k o _ hk _ => (h.block k (Array.getElem?_eq_some_iff.1 hk).1).trans hk⟩
theorem kp_bel {W W' : World} (h : Below W.heap.size W W') : KpP W W' := ⟨h.size, fun k o hk _ => (h.block k (Array.getElem?_eq_some_iff.1 hk).1).trans hk⟩
theorem Sb.other {W : World} {X k : Nat} {x : Pt} (h : Sb W X x) (hne : X ≠ k) (u : Value) : Sb (W.setCell ⟨k, 0, none⟩ u) X x :=
  ((grown_set W k u).block X (Array.getElem?_eq_some_iff.1 h).1 (fun e => by cases e; exact hne rfl)).trans h
theorem Sb.ne {W : World} {X k : Nat} {x : Pt} {t : TypeId} {v : Value} (h : Sb W X x) (hk : Boxed W k t v) (ht : t ≠ 39) : X ≠ k := by
  intro e
  subst e
  have h3 : W.heap[X]? = some (.cells #[v] t (0, 0)) := hk
  unfold Sb at h
  rw [h3] at h
  cases h
theorem bel_box {W W' : World} {k : Nat} {t : TypeId} {v : Value} (hb : Below W.heap.size W W') (h : Boxed W k t v) : Boxed W' k t v := (hb.block k h.lt).trans h
theorem body_end {s : ByteArray} {b c : Nat} {w W w3 : World} {pre pre2 : List Pt} {n e : Int} {bb : Bool} (hbc : b + 2 ≤ c) (h : Fz s b c w pre W) (hn : n = (totP pre2 : Int)) (he : e = (endP pre2 : Int)) (hl : bb = lasP pre2)
    (hb3 : Below ((W.setCell ⟨c, 0, none⟩ (.int .i64 n)).setCell ⟨c + 2, 0, none⟩ (.bool bb)).heap.size ((W.setCell ⟨c, 0, none⟩ (.int .i64 n)).setCell ⟨c + 2, 0, none⟩ (.bool bb)) w3) (B : Nat) :
    (w3.cell? ⟨c + 1, 0, none⟩ = some (.int .i64 (endP pre : Int)) ∧ w3.frozen? ⟨c + 1, 0, none⟩ = false) ∧ ((w3.setCell ⟨c + 1, 0, none⟩ (.int .i64 e)).cell? ⟨c + 1, 0, none⟩ = some (.int .i64 e) ∧ (w3.setCell ⟨c + 1, 0, none⟩ (.int .i64 e)).cell? ⟨b, 0, none⟩ = some (.string s)) ∧
      KeptW B WrP W (w3.setCell ⟨c + 1, 0, none⟩ (.int .i64 e)) ∧ KpP W (w3.setCell ⟨c + 1, 0, none⟩ (.int .i64 e)) ∧ Fz s b c w pre2 (w3.setCell ⟨c + 1, 0, none⟩ (.int .i64 e)) := by
  subst hn he hl
  have t1 := (h.tot.set (.int .i64 (totP pre2 : Int)))
  have l1 : Boxed (W.setCell ⟨c, 0, none⟩ (.int .i64 (totP pre2 : Int))) (c + 2) 4 (.bool (lasP pre)) := h.las.other (by omega) _
  have t2 := bel_box hb3 (t1.other (by omega) (.bool (lasP pre2)))
  have l2 := bel_box hb3 (l1.set (.bool (lasP pre2)))
  have n2 := bel_box hb3 ((h.nd.other (by omega) (.int .i64 (totP pre2 : Int))).other (by omega) (.bool (lasP pre2)))
  have x2 := bel_box hb3 ((h.txt.other (by omega) (.int .i64 (totP pre2 : Int))).other (by omega) (.bool (lasP pre2)))
  have r2 := bel_box hb3 ((h.res.other (by omega) (.int .i64 (totP pre2 : Int))).other (by omega) (.bool (lasP pre2)))
  refine ⟨⟨n2.cell, n2.frozen⟩, ⟨(n2.set _).cell, (x2.other (by omega) _).cell⟩, ?_, ?_, ⟨x2.other (by omega) _, r2.other (by omega) _, t2.other (by omega) _, n2.set _, l2.other (by omega) _, ?_⟩⟩
  · exact (((kept_set B h.tot (by decide) _).trans (kept_set B l1 (by decide) _)).trans (kept_bel B hb3)).trans (kept_set B n2 (by decide) _)
  · exact (((kp_set h.tot (by decide) _).t (kp_set l1 (by decide) _)).t (kp_bel hb3)).t (kp_set n2 (by decide) _)
  · have b1 : Below b w ((W.setCell ⟨c, 0, none⟩ (.int .i64 (totP pre2 : Int))).setCell ⟨c + 2, 0, none⟩ (.bool (lasP pre2))) := (h.bel.setCell (p := ⟨c, 0, none⟩) (by show b ≤ c; omega) _).setCell (p := ⟨c + 2, 0, none⟩) (by show b ≤ c + 2; omega) _
    have hz := t1.lt
    have hlt : b ≤ ((W.setCell ⟨c, 0, none⟩ (.int .i64 (totP pre2 : Int))).setCell ⟨c + 2, 0, none⟩ (.bool (lasP pre2))).heap.size := by
      have := (t1.other (show c ≠ c + 2 by omega) (.bool (lasP pre2))).lt
      omega
    exact (b1.trans (hb3.mono hlt)).setCell (p := ⟨c + 1, 0, none⟩) (by show b ≤ c + 1; omega) _
set_option maxRecDepth 100000 in
set_option maxHeartbeats 2000000 in
theorem lz4Bytes_any (s : ByteArray) (most more : Int) (w : World) (hs : s.size ≤ 140737488351232) (h0 : -9223372036854775808 ≤ most) (h1 : most ≤ 9223372036854775807) (g0 : -9223372036854775808 ≤ more) (g1 : more ≤ 9223372036854775807) :
    Calls Try.prog 6 #[.string s, .int .i64 most, .int .i64 more] w fun e w' => e = .returned (.bool true) ∧ Below w.heap.size w w' := by
  refine (callsIn_wide (n := 6)).1 ?_
  obtain ⟨b, hb⟩ : ∃ b, w.heap.size = b := ⟨_, rfl⟩
  have hnf := nil_func
  have HSH := Hid.mk' shown_any
  have HPK := Hid.mk' (fun W => pick_any most 100000 W (by omega) (by omega) h0 h1)
  have HEX := Hid.mk' (fun (m : Int) (W : World) (hm : m ≤ 35184372088832) => expand_all s m W (by omega) (by omega) (.inl hm))
  refine callsIn_of_wp_marks Try.func6 rfl trivial ?_ rfl
  simp only [Try.ntmps6, List.size_toArray, List.length_cons, List.length_nil, Nat.reduceAdd, Nat.reduceSub, Array.replicate_succ, Array.replicate_zero, List.push_toArray, List.append_toArray, List.nil_append, List.cons_append]
  gi_wp2_with fail
  obtain ⟨W0, hW0⟩ : ∃ W0, (w.alloc (.cells #[.string s] 9)).alloc (.cells #[.bool false] 4) = W0 := ⟨_, rfl⟩
  have hz0 : W0.heap.size = b + 2 := by rw [← hW0, ← hb]; simp
  have hx0 : Boxed W0 b 9 (.string s) := by rw [← hW0, ← hb]; exact (Boxed.new w _ _).alloc _
  have hr0 : Boxed W0 (b + 1) 4 (.bool false) := by
    have := Boxed.new (w.alloc (.cells #[.string s] 9)) 4 (.bool false)
    rw [hW0] at this
    simpa [hb] using this
  have hB0 : Below b w W0 := by rw [← hW0]; exact ((Below.refl b w).alloc (by omega) _).alloc (by simp; omega) _
  rw [hW0]
  clear hW0
  refine ⟨trivial, ?_⟩
  refine (callsIn_wide.2 (HSH.out _)).mono ?_
  rintro e w1 ⟨rfl, hb1⟩
  have hx1 : Boxed w1 b 9 (.string s) := (hb1.block b (by omega)).trans hx0
  have hr1 : Boxed w1 (b + 1) 4 (.bool false) := (hb1.block (b + 1) (by omega)).trans hr0
  have hB1 : Below b w w1 := hB0.trans (hb1.mono (by omega))
  have hz1 : b + 2 ≤ w1.heap.size := by have := hb1.size; omega
  clear hx0 hr0 hB0 hb1 hz0
  have cx := hx1.cell
  have HX1 := Hid.mk' hx1
  have HR1 := Hid.mk' hr1
  have HB1 := Hid.mk' hB1
  clear hx1 hr1 hB1
  gi_wp2_with fail
  refine ⟨trivial, ?_⟩
  refine (callsIn_wide.2 (HPK.out _)).mono ?_
  rintro e w1 ⟨⟨m, hm, rfl⟩, rfl⟩
  obtain ⟨T, e1, p1, hex, hby⟩ := exp_by s m (by unfold bigM; omega)
  have hple := hby.le
  have HBY := Hid.mk' hby
  have HE1 := Hid.mk' (HEX.out (m : Int) w1 (by omega))
  rw [hex] at HE1
  clear hby hex
  gi_wp2_with fail
  refine ⟨trivial, ?_⟩
  refine (callsIn_wide.2 HE1.out).mono ?_
  rintro e w2 ⟨rfl, hb2⟩
  have hx2 : Boxed w2 b 9 (.string s) := (hb2.block b (by omega)).trans HX1.out
  have hr2 : Boxed w2 (b + 1) 4 (.bool false) := (hb2.block (b + 1) (by omega)).trans HR1.out
  have hB2 : Below b w w2 := HB1.out.trans (hb2.mono (by omega))
  obtain ⟨c, hc⟩ : ∃ c, w2.heap.size = c := ⟨_, rfl⟩
  have hz2 : b + 2 ≤ c := by have := hb2.size; omega
  have HX2 := Hid.mk' hx2
  have HR2 := Hid.mk' hr2
  have HB2 := Hid.mk' hB2
  clear cx HX1 HR1 HB1 HE1
  have cx := hx2.cell
  clear hx2 hr2 hB2 hb2
  have cx3 := (((HX2.out.alloc (.cells #[.int .i64 0] 3)).alloc (.cells #[.int .i64 0] 3)).alloc (.cells #[.bool false] 4)).cell
  have hp0 : ¬ (p1 : Int) < 0 := by omega
  have hps : ¬ (s.size : Int) < (p1 : Int) := by omega
  iterate 300 (first | go_values | gi_big_skip | (refine skip_call (Eq.refl false) (Eq.refl none) (by kernel_rfl) ?_) | gi_guarded | gi_step | gi_upon | go_simp | skip)
  refine ⟨trivial, ?_⟩
  refine (callsIn_wide.2 (parts_any s _)).mono ?_
  rintro e w' ⟨rfl, rfl⟩
  iterate 300 (first | go_values | gi_big_skip | (refine skip_call (Eq.refl false) (Eq.refl none) (by kernel_rfl) ?_) | gi_guarded | gi_step | gi_upon | go_simp | skip)
  obtain ⟨W4, hW4⟩ : ∃ W4, ((((w2.alloc (.cells #[.int .i64 0] 3)).alloc (.cells #[.int .i64 0] 3)).alloc (.cells #[.bool false] 4)).alloc (.cells #[.string s] 9)) = W4 := ⟨_, rfl⟩
  have hz4 : W4.heap.size = c + 4 := by rw [← hW4, ← hc]; simp
  have hF4 : Fz s b c w [] W4 := by
    refine ⟨?_, ?_, ?_, ?_, ?_, ?_⟩
    · rw [← hW4]; exact (((HX2.out.alloc _).alloc _).alloc _).alloc _
    · rw [← hW4]; exact (((HR2.out.alloc _).alloc _).alloc _).alloc _
    · rw [← hW4, ← hc]; exact (((Boxed.new w2 _ _).alloc _).alloc _).alloc _
    · have := ((Boxed.new (w2.alloc (.cells #[.int .i64 0] 3)) 3 (.int .i64 0)).alloc (.cells #[.bool false] 4)).alloc (.cells #[.string s] 9)
      rw [hW4] at this
      show Boxed W4 (c + 1) 3 (.int .i64 0)
      simpa [hc] using this
    · have := (Boxed.new ((w2.alloc (.cells #[.int .i64 0] 3)).alloc (.cells #[.int .i64 0] 3)) 4 (.bool false)).alloc (.cells #[.string s] 9)
      rw [hW4] at this
      show Boxed W4 (c + 2) 4 (.bool false)
      simpa [hc] using this
    · rw [← hW4]
      exact (((HB2.out.alloc (by omega) _).alloc (by simp; omega) _).alloc (by simp; omega) _).alloc (by simp; omega) _
  have hp4 : Boxed W4 (c + 3) 9 (.string s) := by
    have := Boxed.new (((w2.alloc (.cells #[.int .i64 0] 3)).alloc (.cells #[.int .i64 0] 3)).alloc (.cells #[.bool false] 4)) 9 (.string s)
    rw [hW4] at this
    simpa [hc] using this
  rw [hW4]
  clear hW4 cx cx3 HX2 HR2 HB2
  rename_i K hK
  have HK := Hid.mk' hK
  clear hK
  refine wpIn_rangeN rfl (by omega) (gf := 31) (lb := #[.pointer (some ⟨c + 3, 0, none⟩)]) rfl trivial (enters_of Try.func31 (by kernel_rfl) rfl)
    (parts_seqN 5 (c + 3) s (by omega) W4 (by omega) hp4.cell) (fun _ h => h.cells) KpP.t (fun W k o o' _ h h1 => KpP.put W k o o' h h1) (Below.refl _ _) (fun _ => rfl)
    (fun pre W => Fz s b c w pre W) (fun cd pre W => False)
    (fun pre X Y row h hg hr => h.ab (B := W4.heap.size) (by omega) (by omega) hg hr)
    (fun cd pre X Y row h hg hr => h)
    hF4 (fun x a' W => ∃ X, a' = { tmps := #[.string s, .int .i64 most, .int .i64 more, .pointer (some ⟨b, 0, none⟩), undef, undef, .pointer (some ⟨b + 1, 0, none⟩), .bool true, .int .i64 (m : Int), .string T, .int .i64 (e1 : Int), .int .i64 (p1 : Int), .pointer (some ⟨c, 0, none⟩), .pointer (some ⟨c + 1, 0, none⟩), .pointer (some ⟨c + 1 + 1, 0, none⟩), .func (.func 31) #[] #[.pointer (some ⟨c + 1 + 1 + 1, 0, none⟩)], .int .i64 (x.1 : Int), .pointer (some ⟨X, 0, none⟩), undef, undef, undef, undef, undef, undef, .bool true, .int .i64 most, .int .i64 (m : Int), .tuple #[.string T, .int .i64 (e1 : Int), .int .i64 (p1 : Int)], .string s, .int .i64 (m : Int), .tuple #[.string T, .int .i64 (e1 : Int), .int .i64 (p1 : Int)], .string T, .int .i64 (e1 : Int), .int .i64 (p1 : Int), .bool true, .bool false, .bool false, .int .i64 (p1 : Int), .bool false, .bool false, .bool false, .int .i64 (p1 : Int), .string s, .int .i64 (s.size : Int), .bool false, .bool false, .string s, .func (.func 31) #[] #[.pointer (some ⟨c + 1 + 1 + 1, 0, none⟩)], .func (.func 31) #[] #[.pointer (some ⟨c + 1 + 1 + 1, 0, none⟩)], .bool false, .func (.func 31) #[] #[.pointer (some ⟨c + 1 + 1 + 1, 0, none⟩)], .int .i64 (x.1 : Int), .agg #[.string x.2.1, .int .i64 (x.2.2.1 : Int), .int .i64 (x.2.2.2 : Int)], undef, undef, undef, undef, undef, undef, undef, undef, undef, undef, undef, undef, undef, undef, undef, undef, undef, undef, undef, undef, undef, undef, undef, undef, undef, undef, undef, undef, undef, undef, undef, undef, undef, undef, undef, undef, undef, undef, undef, undef, undef, undef, undef, undef, undef, undef, undef, undef, undef, undef, undef, undef, undef, undef, undef, undef, undef, undef, undef, undef, undef, undef, undef, undef, undef, undef, undef, undef, undef, undef, undef, undef, undef, undef, undef, undef, undef, undef, undef, undef, undef, undef, undef, undef, undef, undef, undef, undef, undef, undef, undef, undef, undef, undef, undef, undef, undef, undef, undef, undef, undef, undef, undef, undef, undef, undef, undef, undef, undef, undef, undef, undef, undef, undef, undef, undef, undef, undef, undef, undef, undef, undef, undef, undef, undef, undef, undef, undef, undef, undef, undef, undef, undef, undef, undef, undef, undef, undef, undef, undef, undef, undef, undef, undef, undef, undef, undef, undef, undef, undef, undef, undef, undef, undef, undef, undef, undef, undef, undef, undef, undef, undef, undef, undef, undef, undef, undef, undef, undef, undef, undef, undef, undef, undef, undef, undef, undef, undef, undef, undef, undef, undef, undef, undef, undef, undef, undef, undef, undef, undef, undef, undef, undef, undef], defers := [] } ∧ Sb W X x) (fun x a' _ X Y row h hg hr => by obtain ⟨Z, rfl, hZ⟩ := h; exact ⟨Z, rfl, cells_ab hZ hg hr (by decide)⟩) ?assign ?body ?done ?stop
  case assign =>
    intro l pre x W K hi hK
    simp only [encQ]
    iterate 300 (first | go_values | gi_big_skip | (refine skip_call (Eq.refl false) (Eq.refl none) (by kernel_rfl) ?_) | gi_guarded | gi_step | gi_upon | go_simp | skip)
    exact hK _ _ (kept_new _ _ _) (kp_new _ _) (hi.new (by omega) _) ⟨_, rfl, World.alloc_heap_new W _⟩
  case stop =>
    rintro D cd pre W hD hpre hx
    exact hx.elim
  case body =>
    rintro l pre x a' W hl ⟨rl, hrl⟩ hfx ⟨X, rfl, hsb⟩ hpre
    obtain ⟨q1, q2, q3, q4, q5⟩ := pt_step s pre x hpre
    have hF := Hid.mk' hfx
    have HT := Hid.mk' (totP_snoc pre x)
    have HE := Hid.mk' (endP_snoc pre x)
    have HL := Hid.mk' (lasP_snoc pre x)
    obtain ⟨xa, xt, xo, xl⟩ := x
    have hszt : xt.size ≤ s.size := by unfold Lz.sz at q3; simp only at q3; omega
    have HSZ := Hid.mk' (fun W => size_any xt xo xl W (by omega) (by simp only at q5; omega) (by simp only at q4; omega))
    have HSB := Hid.mk' hsb
    have nX0 : X ≠ c := hsb.ne hfx.tot (by decide)
    have nX1 : X ≠ c + 1 := hsb.ne hfx.nd (by decide)
    have nX2 : X ≠ c + 2 := hsb.ne hfx.las (by decide)
    have hBt := hfx.tot
    have hBn := hfx.nd
    have hBl := hfx.las
    have hBx := hfx.txt
    rw [← q1] at hBn
    rw [q2] at hBl
    simp only at q3 q4 q5 HT HE HL hBn
    generalize totP pre = tt at *
    generalize Lz.sz xt.size xl = sz at *
    have HEE : Hid (endP pre = xa) := q1.symm
    clear q1 q2
    obtain ⟨x1, x2, x3⟩ := hsb.cells
    simp only at x1 x2 x3
    have cn := hBn.cell
    have ct := hBt.cell
    have ft := hBt.frozen
    have cl := hBl.cell
    have HBT := Hid.mk' hBt
    have HBN := Hid.mk' hBn
    have HBL := Hid.mk' hBl
    have HBX := Hid.mk' hBx
    have HNX := Hid.mk' (And.intro nX0 (And.intro nX1 nX2))
    have hee : ((xa : Int) != (xa : Int)) = false := by simp
    have sA : ∀ u, Sb (W.setCell ⟨c, 0, none⟩ u) X (xa, xt, xo, xl) := fun u => hsb.other nX0 u
    have sB : ∀ u v, Sb ((W.setCell ⟨c, 0, none⟩ u).setCell ⟨c + 2, 0, none⟩ v) X (xa, xt, xo, xl) := fun u v => (sA u).other nX2 v
    have y2 : ∀ u, (W.setCell ⟨c, 0, none⟩ u).cell? ⟨X, 2, none⟩ = some (.int .i64 (xl : Int)) := fun u => (sA u).cells.2.2
    have yl : ∀ u, (W.setCell ⟨c, 0, none⟩ u).cell? ⟨c + 2, 0, none⟩ = some (.bool false) := fun u => (hBl.other (by omega) u).cell
    have yf : ∀ u, (W.setCell ⟨c, 0, none⟩ u).frozen? ⟨c + 2, 0, none⟩ = false := fun u => (hBl.other (by omega) u).frozen
    have z0 : ∀ u v, ((W.setCell ⟨c, 0, none⟩ u).setCell ⟨c + 2, 0, none⟩ v).cell? ⟨X, 0, none⟩ = some (.string xt) := fun u v => (sB u v).cells.1
    have z1 : ∀ u v, ((W.setCell ⟨c, 0, none⟩ u).setCell ⟨c + 2, 0, none⟩ v).cell? ⟨X, 1, none⟩ = some (.int .i64 (xo : Int)) := fun u v => (sB u v).cells.2.1
    have z2 : ∀ u v, ((W.setCell ⟨c, 0, none⟩ u).setCell ⟨c + 2, 0, none⟩ v).cell? ⟨X, 2, none⟩ = some (.int .i64 (xl : Int)) := fun u v => (sB u v).cells.2.2
    clear sA sB
    clear hsb hfx nX0 nX1 nX2 hBt hBn hBl hBx hrl hpre
    rcases q4 with ⟨hl0, ho0⟩ | ⟨ha, hb1, hc1, hd1⟩
    · have hl : ((xl : Int) != 0) = false := by simp; omega
      have hl2 : ((xl : Int) == 0) = true := by simp; omega
      have ho : ((xo : Int) != 0) = false := by simp; omega
      have HL0 := Hid.mk' hl0
      clear hl0 ho0
      iterate 300 (first | go_values | gi_big_skip | (refine skip_call (Eq.refl false) (Eq.refl none) (by kernel_rfl) ?_) | gi_guarded | gi_step | gi_upon | go_simp | skip)
      refine ⟨trivial, ?_⟩
      refine CallsIn.mono (callsIn_wide.2 (HSZ.out _)) ?_
      rintro e w3 ⟨rfl, hb3⟩
      have hend := body_end (pre2 := pre ++ [(xa, xt, xo, xl)]) (e := (xa : Int) + (sz : Int)) (by omega) hF.out (by rw [HT.out]; omega) (by rw [HE.out]; omega) (by rw [HL.out, HL0.out]; rfl) hb3 (c + 4)
      rw [HEE.out] at hend
      obtain ⟨⟨a1, a2⟩, ⟨a3, a4⟩, hres⟩ := hend
      have HRES := Hid.mk' hres
      have hle : ¬ (s.size : Int) < (xa : Int) + (sz : Int) := by omega
      clear hres hb3
      iterate 300 (first | go_values | gi_big_skip | (refine skip_call (Eq.refl false) (Eq.refl none) (by kernel_rfl) ?_) | gi_guarded | gi_step | gi_upon | go_simp | skip)
      exact HRES.out
    · have hl : ((xl : Int) != 0) = true := by simp; omega
      have hl2 : ((xl : Int) == 0) = false := by simp; omega
      have ho1 : ¬ (xo : Int) < 1 := by omega
      have ho2 : ¬ (65535 : Int) < (xo : Int) := by omega
      have ho3 : ¬ (tt : Int) + (xt.size : Int) < (xo : Int) := by omega
      have hl4 : ¬ (xl : Int) < 4 := by omega
      have HL0 : Hid (xl ≠ 0) := by intro e; omega
      iterate 300 (first | go_values | gi_big_skip | (refine skip_call (Eq.refl false) (Eq.refl none) (by kernel_rfl) ?_) | gi_guarded | gi_step | gi_upon | go_simp | skip)
      refine ⟨trivial, ?_⟩
      refine CallsIn.mono (callsIn_wide.2 (HSZ.out _)) ?_
      rintro e w3 ⟨rfl, hb3⟩
      have hend := body_end (pre2 := pre ++ [(xa, xt, xo, xl)]) (e := (xa : Int) + (sz : Int)) (by omega) hF.out (by rw [HT.out]; omega) (by rw [HE.out]; omega) (by rw [HL.out]; simp; exact HL0.out) hb3 (c + 4)
      rw [HEE.out] at hend
      obtain ⟨⟨a1, a2⟩, ⟨a3, a4⟩, hres⟩ := hend
      have HRES := Hid.mk' hres
      have hle : ¬ (s.size : Int) < (xa : Int) + (sz : Int) := by omega
      clear hres hb3
      iterate 300 (first | go_values | gi_big_skip | (refine skip_call (Eq.refl false) (Eq.refl none) (by kernel_rfl) ?_) | gi_guarded | gi_step | gi_upon | go_simp | skip)
      exact HRES.out
  case done =>
    rintro D xs W hD rfl hfx hdf
    refine HK.out _ _ ?_
    have hF := Hid.mk' hfx
    have ct := hfx.tot.cell
    have cn := hfx.nd.cell
    have cl := hfx.las.cell
    have cx := hfx.txt.cell
    have cr := hfx.res.cell
    have fr := hfx.res.frozen
    have hDl := (Array.getElem?_eq_some_iff.1 hdf).1
    have HEND : Hid (∀ V, Below W.heap.size W V → (V.setCell ⟨b + 1, 0, none⟩ (.bool true)).heap[D]? = some (.deferred (some [])) ∧ Boxed ((V.setCell ⟨b + 1, 0, none⟩ (.bool true)).putObj D (.deferred none)) (b + 1) 4 (.bool true) ∧ Below b w ((V.setCell ⟨b + 1, 0, none⟩ (.bool true)).putObj D (.deferred none))) := by
      intro V hV
      have e1 := (KeepsOthers.setCell V ⟨b + 1, 0, none⟩ (.bool true)).same D _ ((hV.block D hDl).trans hdf) rfl
      have hr1 := (bel_box hV hfx.res).set (.bool true)
      have hbl := (hfx.bel.trans (hV.mono (by have := hfx.res.lt; omega))).setCell (p := ⟨b + 1, 0, none⟩) (by show b ≤ b + 1; omega) (.bool true)
      exact ⟨e1, (World.putObj_heap_other (by omega)).trans hr1, ⟨hbl.os, hbl.tape, hbl.output, by simpa using hbl.size, fun k hk => (World.putObj_heap_other (by omega)).trans (hbl.block k hk)⟩⟩
    have HE := Hid.mk' (HEND.out W (Below.refl _ _))
    clear hdf
    have HBYD := Hid.mk' HBY.out.by_
    generalize hEE : endP (ptL s) = ee at *
    have HEE := Hid.mk' hEE
    clear hEE
    generalize hTT : totP (ptL s) = tt at *
    have HTT := Hid.mk' hTT
    clear hTT
    rcases HBYD.out with h | ⟨rfl, rfl, rfl, hlas⟩ | ⟨rfl, rfl, k1, k2, hlas⟩ | ⟨rfl, rfl, k1, k2, k3⟩
    · obtain ⟨rfl, rfl, hT, hle, hlas, hend, hmore⟩ := h
      rw [hlas] at cl
      have HPM := Hid.mk' (fun W => pick_any more 100000 W (by omega) (by omega) g0 g1)
      have HE3 : Hid (∀ r : Nat, (r : Int) < 100000 → ∀ W, Calls Try.prog 16 #[.string s, .int .i64 ((m : Int) + (r : Int))] W fun e w' => e = .returned (tup T 0 0) ∧ Below W.heap.size W w') := fun r hr W => by
        have h5 := HEX.out ((m + r : Nat) : Int) W (by omega)
        rw [hmore (m + r) (by omega) (by unfold bigM; omega)] at h5
        rw [Int.natCast_add] at h5
        exact h5
      have hTI : (T.size : Int) ≤ (m : Int) := by omega
      clear hfx hmore
      iterate 300 (first | go_values | gi_big_skip | (refine skip_call (Eq.refl false) (Eq.refl none) (by kernel_rfl) ?_) | gi_guarded | gi_step | gi_upon | go_simp | skip)
      rename_i K1 hK1 K2 hK2
      have HK2 := Hid.mk' hK2
      clear hK2
      obtain ⟨r, hr⟩ : ∃ r, pickN more 100000 = r := ⟨_, rfl⟩
      have hrl : (r : Int) < 100000 := by rw [← hr]; exact pickN_lt more 100000 (by omega)
      have HPD := Hid.mk' (fun W => pick_det more 100000 W (by omega) (by omega) g0 g1)
      rw [hr] at HPD
      have hwr : IntKind.i64.wrap ((m : Int) + (r : Int)) = (m : Int) + (r : Int) := by rw [IntKind.wrap_i64]; omega
      refine region_kept (by kernel_rfl) (fun k => (#[.string s, .int .i64 (m : Int), .int .i64 more, .int .i64 (r : Int), .int .i64 ((m : Int) + (r : Int)), tup T 0 0, tup T 0 0, .string T, .int .i64 0, .int .i64 0, .string T, .int .i64 0, .int .i64 0] : Array Value).getD k undef) (fun f => { tmps := #[.string s, .int .i64 most, .int .i64 more, .pointer (some ⟨b, 0, none⟩), undef, undef, .pointer (some ⟨b + 1, 0, none⟩), .bool true, .int .i64 (m : Int), .string T, .int .i64 0, .int .i64 0, .pointer (some ⟨c, 0, none⟩), .pointer (some ⟨c + 1, 0, none⟩), .pointer (some ⟨c + 1 + 1, 0, none⟩), .func (.func 31) #[] #[.pointer (some ⟨c + 1 + 1 + 1, 0, none⟩)], undef, undef, f 10, f 11, f 12, undef, undef, undef, .bool true, .int .i64 most, .int .i64 (m : Int), tup T 0 0, .string s, .int .i64 (m : Int), tup T 0 0, .string T, .int .i64 0, .int .i64 0, .bool true, .bool false, .bool false, .int .i64 0, .bool false, .bool false, .bool false, .int .i64 0, .string s, .int .i64 (s.size : Int), .bool false, .bool false, .string s, .func (.func 31) #[] #[.pointer (some ⟨c + 1 + 1 + 1, 0, none⟩)], .func (.func 31) #[] #[.pointer (some ⟨c + 1 + 1 + 1, 0, none⟩)], .bool false, .func (.func 31) #[] #[.pointer (some ⟨c + 1 + 1 + 1, 0, none⟩)], undef, undef, undef, undef, undef, undef, undef, undef, undef, undef, undef, undef, undef, undef, undef, undef, undef, undef, undef, undef, undef, undef, undef, undef, undef, undef, undef, undef, undef, undef, undef, undef, undef, undef, undef, undef, undef, undef, undef, undef, undef, undef, undef, undef, undef, undef, undef, undef, undef, undef, undef, undef, undef, undef, undef, undef, undef, undef, undef, undef, undef, undef, undef, undef, undef, undef, undef, .int .i64 0, .bool true, .bool true, f 6, f 0, f 1, f 2, f 3, f 4, f 5, f 7, f 8, f 9, undef, undef, undef, undef, undef, undef, undef, undef, undef, undef, undef, undef, undef, undef, undef, undef, undef, undef, undef, undef, undef, undef, undef, undef, undef, undef, undef, undef, undef, undef, undef, undef, undef, undef, undef, undef, undef, undef, undef, undef, undef, undef, undef, undef, undef, undef, undef, undef, undef, undef, undef, undef, undef, undef, undef, undef, undef, undef, undef, undef, undef, undef, undef, undef, undef, undef, undef, undef, undef, undef, undef, undef, undef, undef, undef, undef, undef, undef, undef, undef, undef, undef, undef, undef, undef, undef, undef, undef, undef, undef, undef, undef, undef, undef, undef, undef, undef, undef, undef, undef, undef, undef, undef, undef, undef, undef, undef, undef, undef, undef, undef, undef, undef, undef, undef, undef], defers := [{ target := .collected D, args := #[] }] }) (fun _ => undef) W (fun X => Below W.heap.size W X) ((Below.refl _ _).drewN' 1) (deps_of' (by kernel_rfl)) ?_ ?_ ?_
      · intro f h hfg
        simp only [hfg 0 (by decide), hfg 1 (by decide), hfg 2 (by decide), hfg 3 (by decide), hfg 4 (by decide), hfg 5 (by decide), hfg 6 (by decide), hfg 7 (by decide), hfg 8 (by decide), hfg 9 (by decide), hfg 10 (by decide), hfg 11 (by decide), hfg 12 (by decide)]
      · intro X hX i hi o ho f hdeps K hK
        have c0 := (bel_box hX hF.out.txt).cell
        have hKX := hK X hX
        rcases (show i = 0 ∨ i = 1 ∨ i = 2 ∨ i = 3 ∨ i = 4 ∨ i = 5 ∨ i = 6 ∨ i = 7 ∨ i = 8 ∨ i = 9 ∨ i = 10 ∨ i = 11 ∨ i = 12 by have : i < 13 := hi; omega) with rfl | rfl | rfl | rfl | rfl | rfl | rfl | rfl | rfl | rfl | rfl | rfl | rfl
        case inr.inr.inr.inl =>
          simp at ho; subst ho; simp [Region.binds] at hdeps
          simp [wpOpIn, Region.wanted, yielded, Oper.wpIn, Oper.semAt_some, execOp, Oper.uponIn, go_sem, hdeps]
          refine ⟨trivial, ?_⟩
          refine CallsIn.mono (callsIn_wide.2 (HPD.out X)) ?_
          rintro e Y ⟨rfl, rfl⟩
          first | exact hKX | (simp [upd, hdeps] at hKX; exact hKX)
        case inr.inr.inr.inr.inr.inl =>
          simp at ho; subst ho; simp [Region.binds] at hdeps
          simp [wpOpIn, Region.wanted, yielded, Oper.wpIn, Oper.semAt_some, execOp, Oper.uponIn, go_sem, hdeps]
          refine ⟨trivial, ?_⟩
          refine CallsIn.mono (callsIn_wide.2 (HE3.out r hrl X)) ?_
          rintro e Y ⟨rfl, hb⟩
          have hKY := hK Y (hX.trans (hb.mono hX.size))
          first | exact hKY | (simp [upd, hdeps] at hKY; exact hKY)
        all_goals (simp at ho; subst ho; simp [Region.binds] at hdeps; simp [wpOpIn, Region.wanted, yielded, Oper.wpIn, Oper.semAt_some, execOp, Oper.uponIn, go_sem, hdeps, c0, hwr, tup]; first | exact hKX | (simp [upd, hdeps] at hKX; exact hKX))
      · intro X hX
        have HE5 := Hid.mk' (HEND.out X hX)
        clear ct cn cl cx cr fr
        have ct := (bel_box hX hF.out.tot).cell
        have cn := (bel_box hX hF.out.nd).cell
        have cl := (bel_box hX hF.out.las).cell
        have cx := (bel_box hX hF.out.txt).cell
        have cr := (bel_box hX hF.out.res).cell
        have fr := (bel_box hX hF.out.res).frozen
        clear hX HE
        rw [HTT.out, ← hT] at ct
        rw [HEE.out, hend] at cn
        rw [hlas] at cl
        have hss : ((s.size : Int) == (s.size : Int)) = true := by simp
        have hTT : ((T.size : Int) == (T.size : Int)) = true := by simp
        refine HK2.out _ _ ?_
        iterate 300 (first | go_values | gi_big_skip | (refine skip_call (Eq.refl false) (Eq.refl none) (by kernel_rfl) ?_) | gi_guarded | gi_step | gi_upon | go_simp | skip)
        refine ⟨by simp, .inl ⟨_, _, rfl, run_takeDeferred HE5.out.1, ?_⟩⟩
        have hcb := HE5.out.2.1.cell
        refine ⟨.bool true, ?_, rfl, ?_⟩
        · simp [results, Try.f6, go_sem, hcb]
        · exact HE5.out.2.2
    · rw [hlas] at cl
      clear hfx
      iterate 300 (first | go_values | gi_big_skip | (refine skip_call (Eq.refl false) (Eq.refl none) (by kernel_rfl) ?_) | gi_guarded | gi_step | gi_upon | go_simp | skip)
      refine ⟨by simp, .inl ⟨_, _, rfl, run_takeDeferred HE.out.1, ?_⟩⟩
      have hcb := HE.out.2.1.cell
      refine ⟨.bool true, ?_, rfl, ?_⟩
      · simp [results, Try.f6, go_sem, hcb]
      · exact HE.out.2.2
    · rw [hlas] at cl
      clear hfx
      have k2I : (p1 : Int) + 2 ≤ (s.size : Int) := by omega
      have k1I : (ee : Int) < (p1 : Int) := by omega
      iterate 300 (first | go_values | gi_big_skip | (refine skip_call (Eq.refl false) (Eq.refl none) (by kernel_rfl) ?_) | gi_guarded | gi_step | gi_upon | go_simp | skip)
      refine ⟨by simp, .inl ⟨_, _, rfl, run_takeDeferred HE.out.1, ?_⟩⟩
      have hcb := HE.out.2.1.cell
      refine ⟨.bool true, ?_, rfl, ?_⟩
      · simp [results, Try.f6, go_sem, hcb]
      · exact HE.out.2.2
    · by_cases hbig : 1073741824 < tt
      · have hbI : (1073741824 : Int) < (tt : Int) := by omega
        have k1I : (p1 : Int) < (s.size : Int) := by omega
        have HK3 := Hid.mk' k3
        clear hfx k3 k2
        iterate 300 (first | go_values | gi_big_skip | (refine skip_call (Eq.refl false) (Eq.refl none) (by kernel_rfl) ?_) | gi_guarded | gi_step | gi_upon | go_simp | skip)
        refine ⟨by simp, .inl ⟨_, _, rfl, run_takeDeferred HE.out.1, ?_⟩⟩
        have hcb := HE.out.2.1.cell
        refine ⟨.bool true, ?_, rfl, ?_⟩
        · simp [results, Try.f6, go_sem, hcb]
        · exact HE.out.2.2
      · have hbI : ¬ (1073741824 : Int) < (tt : Int) := by omega
        have k1I : (p1 : Int) < (s.size : Int) := by omega
        obtain ⟨T2, e2, p2, hex, hiff, hsz⟩ := k3 (by unfold bigM; omega)
        have HE2 := Hid.mk' (HEX.out (tt : Int) W (by omega))
        rw [hex] at HE2
        have HQ := Hid.mk' (And.intro k2 (And.intro hiff hsz))
        clear k3 k2 hex hiff hsz hfx
        iterate 300 (first | go_values | gi_big_skip | (refine skip_call (Eq.refl false) (Eq.refl none) (by kernel_rfl) ?_) | gi_guarded | gi_step | gi_upon | go_simp | skip)
        refine ⟨trivial, ?_⟩
        refine (callsIn_wide.2 HE2.out).mono ?_
        rintro e w5 ⟨rfl, hb5⟩
        have HE5 := Hid.mk' (HEND.out w5 hb5)
        clear ct cn cl cx cr fr
        have ct := (bel_box hb5 hF.out.tot).cell
        have cl := (bel_box hb5 hF.out.las).cell
        have cx := (bel_box hb5 hF.out.txt).cell
        have cr := (bel_box hb5 hF.out.res).cell
        have fr := (bel_box hb5 hF.out.res).frozen
        clear hb5 HE
        obtain ⟨k2, hiff, hsz⟩ := HQ.out
        rw [HTT.out] at ct
        cases hlas : lasP (ptL s) with
        | true =>
          rw [hlas] at cl
          have he2 : e2 = 0 := hiff.2 hlas
          have he3 : ((e2 : Int) == 0) = true := by simp; omega
          have he4 : ((e2 : Int) != 0) = false := by simp; omega
          have hne2 : ¬ T2.toList = [] := by
            intro e
            have h1 := hsz hlas
            have h2 := k2 hlas
            rw [ByteArray.toList_eq] at e
            have : T2.size = 0 := by
              have h3 : T2.data.toList.length = 0 := by rw [e]; rfl
              simpa using h3
            omega
          have hie : T2.toList.isEmpty = false := by cases h9 : T2.toList with | nil => exact absurd h9 hne2 | cons a l => rfl
          have hmt : (m : Int) < (tt : Int) := by have := k2 hlas; omega
          have hne := str_ne T2 (by rw [hsz hlas]; omega)
          have heb := eq_bool true true
          clear k2 hiff hsz hlas he2
          iterate 300 (first | go_values | gi_big_skip | (refine skip_call (Eq.refl false) (Eq.refl none) (by kernel_rfl) ?_) | gi_guarded | gi_step | gi_upon | go_simp | skip)
          refine ⟨by simp, .inl ⟨_, _, rfl, run_takeDeferred HE5.out.1, ?_⟩⟩
          have hcb := HE5.out.2.1.cell
          refine ⟨.bool true, ?_, rfl, ?_⟩
          · simp [results, Try.f6, go_sem, hcb]
          · exact HE5.out.2.2
        | false =>
          rw [hlas] at cl
          have he2 : ¬ e2 = 0 := fun e => by rw [hiff.1 e] at hlas; cases hlas
          have he3 : ((e2 : Int) == 0) = false := by simp; omega
          have he4 : ((e2 : Int) != 0) = true := by simp; omega
          have heb := eq_bool false false
          clear k2 hiff hsz hlas he2
          iterate 300 (first | go_values | gi_big_skip | (refine skip_call (Eq.refl false) (Eq.refl none) (by kernel_rfl) ?_) | gi_guarded | gi_step | gi_upon | go_simp | skip)
          refine ⟨by simp, .inl ⟨_, _, rfl, run_takeDeferred HE5.out.1, ?_⟩⟩
          have hcb := HE5.out.2.1.cell
          refine ⟨.bool true, ?_, rfl, ?_⟩
          · simp [results, Try.f6, go_sem, hcb]
          · exact HE5.out.2.2
end Go.Proofs.Ytchjmhgalbkjkaa
