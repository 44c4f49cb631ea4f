/-
  Lz4Parts answers true: every Parts, left early, again, within itself. Conditions: the text is of at most 1048576 bytes.
-/
import Derived.Test.YtkndpfpdanoalaaRefPt
import Derived.Test.YtkndpfpdanoalaaPick4
import Derived.Test.YtkndpfpdanoalaaQt
namespace Go.Proofs.Ytkndpfpdanoalaa
open Go.RowKit Go.Shelf
set_option linter.unusedVariables false
set_option linter.unusedSimpArgs false
attribute [local go_sem] Oper.semAt_some
theorem nil_func (fn : Fn) (first cap : Array Value) (w : World) : (binOp .eql 39 (.func fn first cap) .nilFunc).run Try.prog w = .ok (.bool false) w := by kernel_rfl
abbrev fnP (c : Nat) : Value := .func (.func 27) #[] #[.pointer (some ⟨c + 2, 0, none⟩)]
theorem store_last {P : Program} (X : World) (x v : Value) (t : TypeId) (n : Nat) (hn : n = X.heap.size) (hv : v.oneCell' = true) : (store ⟨n, 0, none⟩ v).run P (X.alloc (.cells #[x] t)) = .ok () (X.alloc (.cells #[v] t)) := by
  subst hn
  have h := Boxed.new X t x
  rw [run_store P _ _ v _ hv, h.cell, h.frozen]
  show Result.ok () _ = _
  rw [World.setCell_alloc_at _ _ _ _ _ rfl]
  rfl
theorem walk_few (bs : List Nat) (hb : ∀ z ∈ bs, z < 256) (ahead most : Nat) : ∀ (f i said : Nat), (Lz.walk bs ahead most f i said).1.length ≤ f
  | 0, _, _ => Nat.zero_le _
  | f + 1, i, said => by
    unfold Lz.walk
    split
    · exact Nat.zero_le _
    · split
      · simp
      · have := walk_few bs hb ahead most f (Lz.next bs i said ahead most).nxt (said + (Lz.next bs i said ahead most).many + (Lz.next bs i said ahead most).len)
        simp
        omega
theorem ptL_few (s : ByteArray) : (ptL s).length ≤ s.size + 1 := by
  unfold ptL
  rw [List.length_map]
  exact walk_few _ (Sums.bl_byt s) _ _ _ _ _
theorem grown_set (W : World) (k : Nat) (u : Value) : W.grownBy (W.setCell ⟨k, 0, none⟩ u) (some k) :=
  ⟨rfl, rfl, rfl, by simp [World.setCell], fun i _ hne => by
    simp only [World.setCell, Array.getElem?_modify]
    rw [if_neg (fun e => hne (by rw [e]))]⟩
theorem kept_set {W : World} {k : Nat} {t : TypeId} {v : Value} (B : Nat) (h : Boxed W k t v) (ht : t ≠ 54) (u : Value) : KeptW B WrP W (W.setCell ⟨k, 0, none⟩ u) :=
  ⟨by simp [World.setCell], fun i o _ hi ho => by
    rw [(grown_set W k u).block i (Array.getElem?_eq_some_iff.1 hi).1 (fun e => ?_)]
    · exact hi
    · cases e
      have h3 : W.heap[k]? = some (.cells #[v] t (0, 0)) := h
      rw [h3] at hi
      cases hi
      rcases ho with ho | ⟨cs, ho⟩
      · cases ho
      · cases ho
        exact ht rfl⟩
theorem kp_set {W : World} {k : Nat} {t : TypeId} {v : Value} (h : Boxed W k t v) (ht : t ≠ 54 ∧ t ≠ 65) (u : Value) : KpP W (W.setCell ⟨k, 0, none⟩ u) :=
  ⟨by simp [World.setCell], fun i o hi ho => by
    rw [(grown_set W k u).block i (Array.getElem?_eq_some_iff.1 hi).1 (fun e => ?_)]
    · exact hi
    · cases e
      have h3 : W.heap[k]? = some (.cells #[v] t (0, 0)) := h
      rw [h3] at hi
      cases hi
      rcases ho with ⟨cs, ho⟩ | ⟨cs, ho⟩
      · cases ho
        exact ht.1 rfl
      · cases ho
        exact ht.2 rfl⟩
theorem kept_new (B : Nat) (W : World) (o : Obj) : KeptW B WrP W (W.alloc o) := ⟨by simp, fun i x _ h _ => (Below.heap_alloc _ _ _ (Array.getElem?_eq_some_iff.1 h).1).trans h⟩
theorem kp_new (W : World) (o : Obj) : KpP W (W.alloc o) := ⟨by simp, fun i x h _ => (Below.heap_alloc _ _ _ (Array.getElem?_eq_some_iff.1 h).1).trans h⟩
theorem KpP.refl (W : World) : KpP W W := ⟨Nat.le_refl _, fun _ _ h _ => h⟩
abbrev Turn (B : Nat) (W : World) (row : Option Nat) : Prop := ∀ r, row = some r → B ≤ r ∧ ∃ o : Obj, W.heap[r]? = some o ∧ (o.isCells = false ∨ WrP o)
theorem no_turn {W : World} {row : Option Nat} {B k : Nat} {cs : Array Value} {t : TypeId} {fz : Nat × Nat} (h : W.heap[k]? = some (.cells cs t fz)) (hr : Turn B W row) (ht : t ≠ 54) : some k ≠ row := by
  intro e
  obtain ⟨_, o, h1, h2⟩ := hr _ e.symm
  rw [h] at h1
  cases h1
  rcases h2 with h2 | ⟨cs, h2⟩
  · cases h2
  · cases h2
    exact ht rfl
theorem cells_ab {W W' : World} {row : Option Nat} {B k : Nat} {cs : Array Value} {t : TypeId} {fz : Nat × Nat} (h : W.heap[k]? = some (.cells cs t fz)) (hg : W.grownBy W' row) (hr : Turn B W row) (ht : t ≠ 54) : W'.heap[k]? = some (.cells cs t fz) :=
  (hg.block k (Array.getElem?_eq_some_iff.1 h).1 (no_turn h hr ht)).trans h
theorem box_ab {W W' : World} {row : Option Nat} {B B' : Nat} {t : TypeId} {v : Value} (h : Boxed W B' t v) (hg : W.grownBy W' row) (hr : Turn B W row) (ht : t ≠ 54) : Boxed W' B' t v := cells_ab h hg hr ht
theorem row_ab {W W' : World} {row : Option Nat} {B base n size : Nat} {e : TypeId} {v : Value} {xs : List Value} (h : W.ownsRow base e size v n xs) (hg : W.grownBy W' row) (hr : Turn B W row) (ht : e ≠ 54) : W'.ownsRow base e size v n xs := by
  refine h.kept hg ?_
  cases hv : v.ownBlock with
  | none => exact .inl rfl
  | some k =>
    obtain ⟨cs, fz, h1⟩ := row_type h k hv
    exact .inr (no_turn h1 hr ht)
theorem kept_ab {B B' : Nat} {W X Y : World} {row : Option Nat} (h : KeptW B WrP W X) (hg : X.grownBy Y row) (hr : Turn B' X row) (hB : W.heap.size ≤ B') : KeptW B WrP W Y :=
  ⟨Nat.le_trans h.size hg.size, fun k o hk hw ho => by
    have h1 := h.same k o hk hw ho
    have hlt := (Array.getElem?_eq_some_iff.1 hw).1
    rw [hg.block k (Array.getElem?_eq_some_iff.1 h1).1 (fun e => by have := (hr k e.symm).1; omega)]
    exact h1⟩
theorem kp_ab {B' : Nat} {W X Y : World} {row : Option Nat} (h : KpP W X) (hg : X.grownBy Y row) (hr : Turn B' X row) (hB : W.heap.size ≤ B') : KpP W Y :=
  ⟨Nat.le_trans h.size hg.size, fun k o hw ho => by
    have h1 := h.same k o hw ho
    have hlt := (Array.getElem?_eq_some_iff.1 hw).1
    rw [hg.block k (Array.getElem?_eq_some_iff.1 h1).1 (fun e => by have := (hr k e.symm).1; omega)]
    exact h1⟩
/-- what stays through all loops -/
structure Fy (s : ByteArray) (b c : Nat) (pv ov : Value) (L : List Pt) (stop : Nat) (w W : World) : Prop where
  res : Boxed W b 4 (.bool false)
  pls : Boxed W c 33 pv
  want : Boxed W (c + 1) 32 ov
  txt : Boxed W (c + 2) 9 (.string s)
  all : Boxed W (c + 3) 39 (fnP c)
  stp : Boxed W (c + 4) 3 (.int .i64 (stop : Int))
  rowp : W.ownsRow b 3 1 pv L.length (plv L)
  rowo : W.ownsRow b 42 3 ov L.length (pqv L)
  low : ∀ k, pv.ownBlock = some k → k < c
  bel : Below b w W
theorem Fy.ab {s : ByteArray} {b c : Nat} {pv ov : Value} {L : List Pt} {stop : Nat} {w W W' : World} {row : Option Nat} {B : Nat} (hB : b ≤ B) (hbw : b ≤ w.heap.size) (h : Fy s b c pv ov L stop w W) (hg : W.grownBy W' row) (hr : Turn B W row) : Fy s b c pv ov L stop w W' := by
  refine ⟨box_ab h.res hg hr (by decide), box_ab h.pls hg hr (by decide), box_ab h.want hg hr (by decide), box_ab h.txt hg hr (by decide), box_ab h.all hg hr (by decide), box_ab h.stp hg hr (by decide), row_ab h.rowp hg hr (by decide), row_ab h.rowo hg hr (by decide), h.low, ?_⟩
  exact h.bel.trans ⟨hg.os, hg.tape, hg.output, hg.size, fun k hk => by
      by_cases e : some k = row
      · obtain ⟨h1, _⟩ := hr k e.symm
        omega
      · exact hg.block k (Nat.lt_of_lt_of_le hk (Nat.le_trans hbw h.bel.size)) e⟩
theorem Fy.setk {s : ByteArray} {b c : Nat} {pv ov : Value} {L : List Pt} {stop : Nat} {w W : World} {k0 u : Value} {K : Nat} (h : Fy s b c pv ov L stop w W) (hk : Boxed W K 3 k0) (hK : c + 5 ≤ K) (hbc : b < c) : Fy s b c pv ov L stop w (W.setCell ⟨K, 0, none⟩ u) := by
  refine ⟨h.res.other (by omega) _, h.pls.other (by omega) _, h.want.other (by omega) _, h.txt.other (by omega) _, h.all.other (by omega) _, h.stp.other (by omega) _, h.rowp.kept (grown_set W K u) ?_, h.rowo.kept (grown_set W K u) ?_, h.low, h.bel.setCell (p := ⟨K, 0, none⟩) (by show b ≤ K; omega) _⟩
  · cases hv : pv.ownBlock with
    | none => exact .inl rfl
    | some k =>
      have := h.low k hv
      exact .inr (by simp; omega)
  · cases hv : ov.ownBlock with
    | none => exact .inl rfl
    | some k =>
      obtain ⟨cs, fz, h1⟩ := row_type h.rowo k hv
      refine .inr (fun e => ?_)
      cases e
      have h3 : W.heap[K]? = some (.cells #[k0] 3 (0, 0)) := hk
      rw [h3] at h1
      cases h1
theorem Fy.new {s : ByteArray} {b c : Nat} {pv ov : Value} {L : List Pt} {stop : Nat} {w W : World} (hbw : b ≤ w.heap.size) (h : Fy s b c pv ov L stop w W) (o : Obj) : Fy s b c pv ov L stop w (W.alloc o) :=
  h.ab (B := b) (Nat.le_refl _) hbw (World.grownBy_alloc W _ none) (fun r e => by cases e)
/-- a sequence, as it lies -/
def Sb (W : World) (X : Nat) (x : Pt) : Prop := W.heap[X]? = some (.cells #[.string x.2.1, .int .i64 (x.2.2.1 : Int), .int .i64 (x.2.2.2 : Int)] 42 (0, 0))
theorem Sb.cells {W : World} {X : Nat} {x : Pt} (h : Sb W X x) : W.cell? ⟨X, 0, none⟩ = some (.string x.2.1) ∧ W.cell? ⟨X, 1, none⟩ = some (.int .i64 (x.2.2.1 : Int)) ∧ W.cell? ⟨X, 2, none⟩ = some (.int .i64 (x.2.2.2 : Int)) := by
  unfold Sb at h
  simp [World.cell?, h]
theorem pre_next {α : Type} {pre L : List α} {x y : α} (h : pre <+: L) (hy : L[pre.length]? = some y) : (x = y → pre ++ [x] <+: L) ∧ (x ≠ y → ¬ pre ++ [x] <+: L) := by
  obtain ⟨t, rfl⟩ := h
  rw [List.getElem?_append_right (Nat.le_refl _), Nat.sub_self] at hy
  cases t with
  | nil => simp at hy
  | cons z t =>
    simp at hy
    subst hy
    refine ⟨fun e => by subst e; exact ⟨t, by simp⟩, fun e => ?_⟩
    rintro ⟨u, hu⟩
    rw [List.append_assoc] at hu
    have := List.append_cancel_left hu
    simp at this
    exact e this.1
theorem texts_ne {a b : ByteArray} (h : ¬ a = b) : ¬ a.toList = b.toList := by
  intro e
  rw [ByteArray.toList_eq, ByteArray.toList_eq] at e
  exact h (ByteArray.ext (Array.toList_inj.1 e))
theorem seq_same (t : ByteArray) (o l : Nat) (w : World) : (binOp .neq 42 (.agg #[.string t, .int .i64 (o : Int), .int .i64 (l : Int)]) (.agg #[.string t, .int .i64 (o : Int), .int .i64 (l : Int)])).run Try.prog w = .ok (.bool false) w := by
  simp [go_sem]
theorem seq_diff (t t' : ByteArray) (o o' l l' : Nat) (h : ¬ (t = t' ∧ o = o' ∧ l = l')) (w : World) : (binOp .neq 42 (.agg #[.string t, .int .i64 (o : Int), .int .i64 (l : Int)]) (.agg #[.string t', .int .i64 (o' : Int), .int .i64 (l' : Int)])).run Try.prog w = .ok (.bool true) w := by
  simp [go_sem]
  intro a1 a2 a3
  refine h ⟨?_, by omega, by omega⟩
  by_cases h1 : t = t'
  · exact h1
  · exact absurd a1 (texts_ne h1)
theorem row_cells {W : World} {b : Nat} {g gp cap cp : Nat} {L : List Pt} (hp : W.ownsRow b 3 1 (.slice (some ⟨gp, 0, none⟩) L.length cp) L.length (plv L)) (ho : W.ownsRow b 42 3 (.slice (some ⟨g, 0, none⟩) L.length cap) L.length (pqv L)) (q : Nat) (y : Pt) (hy : L[q]? = some y) :
    W.cell? ⟨gp, q, none⟩ = some (.int .i64 (y.1 : Int)) ∧ W.cell? ⟨g, q * 3, none⟩ = some (.string y.2.1) ∧ W.cell? ⟨g, q * 3 + 1, none⟩ = some (.int .i64 (y.2.2.1 : Int)) ∧ W.cell? ⟨g, q * 3 + 2, none⟩ = some (.int .i64 (y.2.2.2 : Int)) := by
  have hq : q < L.length := (List.getElem?_eq_some_iff.1 hy).1
  obtain ⟨a1, a2, a3⟩ := pqv_at L q y hy
  rw [Nat.mul_comm q 3]
  exact ⟨(hp.cellAt q (by omega)).trans (plv_at L q y hy), (ho.cellAt _ (by omega)).trans a1, (ho.cellAt _ (by omega)).trans a2, (ho.cellAt _ (by omega)).trans a3⟩
theorem row_some {W : World} {b n size cap : Nat} {e : TypeId} {v : Option Addr} {xs : List Value} (h : W.ownsRow b e size (.slice v n cap) n xs) (h0 : 0 < n) : ∃ g, v = some ⟨g, 0, none⟩ := by
  rcases h.2 with ⟨h1, h2⟩ | ⟨g, cap', cur, h1, _⟩
  · omega
  · simp only [Value.slice.injEq] at h1
    exact ⟨g, h1.1⟩
theorem own_lower {W : World} {b b' n size : Nat} {e : TypeId} {v : Value} {xs : List Value} (hb : b ≤ b') (h : W.ownsRow b' e size v n xs) : W.ownsRow b e size v n xs := by
  refine ⟨h.1, ?_⟩
  rcases h.2 with h1 | ⟨g, cap, cur, h1, h2, h3⟩
  · exact .inl h1
  · exact .inr ⟨g, cap, cur, h1, Nat.le_trans hb h2, h3⟩
theorem Fy.drew {s : ByteArray} {b c : Nat} {pv ov : Value} {L : List Pt} {stop : Nat} {w W : World} (h : Fy s b c pv ov L stop w W) : Fy s b c pv ov L stop w W.drew := ⟨h.res, h.pls, h.want, h.txt, h.all, h.stp, h.rowp, h.rowo, h.low, h.bel.drew⟩
theorem kept_drew {B : Nat} {W X : World} (h : KeptW B WrP W X) : KeptW B WrP W X.drew := ⟨h.size, h.same⟩
theorem kp_drew {W X : World} (h : KpP W X) : KpP W X.drew := ⟨h.size, h.same⟩
theorem size_alloc_drew (W : World) (o : Obj) : (W.alloc o).drew.heap.size = W.heap.size + 1 := by
  show (W.alloc o).heap.size = _
  simp
theorem ptL_two : (ptL ⟨#[16, 97, 1, 0, 0]⟩).length = 2 := by decide +kernel
set_option maxRecDepth 100000 in
set_option maxHeartbeats 4000000 in
theorem lz4Parts_any (s : ByteArray) (leave : Int) (w : World) (hs : s.size ≤ 1048576) (hl0 : -9223372036854775808 ≤ leave) (hl1 : leave ≤ 9223372036854775807) :
    Calls Try.prog 7 #[.string s, .int .i64 leave] w fun e w' => e = .returned (.bool true) ∧ Below w.heap.size w w' := by
  refine (callsIn_wide (n := 6)).1 ?_
  obtain ⟨b, hb⟩ : ∃ b, w.heap.size = b := ⟨_, rfl⟩
  have hnf := nil_func
  have HRF := Hid.mk' (fun w => refParts_any s w (by omega))
  obtain ⟨LL, hLL⟩ : ∃ LL, ptL s = LL := ⟨_, rfl⟩
  rw [hLL] at HRF
  have hLn : LL.length ≤ 1048577 := by rw [← hLL]; exact Nat.le_trans (ptL_few s) (by omega)
  refine callsIn_of_wp_marks Try.func7 rfl trivial ?_ rfl
  simp only [Try.ntmps7, List.size_toArray, List.length_cons, List.length_nil, Nat.reduceAdd, Nat.reduceSub, Array.replicate_succ, Array.replicate_zero, List.push_toArray, List.append_toArray, List.nil_append, List.cons_append]
  gi_wp2_with (first | (refine ⟨trivial, ?_⟩; gi_at_call 19; refine (callsIn_wide.2 (HRF.out _)).mono ?_; rintro e w1 ⟨pv, ov, rfl, hrowp, hrowo, hbel1⟩; obtain ⟨pb, pc, rfl⟩ := row_shape' hrowp; obtain ⟨vb, vc, rfl⟩ := row_shape' hrowo; have hst := store_last (P := Try.prog) (((w1.alloc (.cells #[.slice pb LL.length pc] 33)).alloc (.cells #[.slice vb LL.length vc] 32)).alloc (.cells #[.string s] 9)) .nilFunc (fnP w1.heap.size) 39 (w1.heap.size + 1 + 1 + 1) (by simp) rfl; have HROW := Hid.mk' (And.intro hrowp hrowo); have HB1 := Hid.mk' hbel1; clear hrowp hrowo hbel1) | (refine ⟨trivial, ?_⟩; gi_at_call 17; refine (callsIn_wide.2 (parts_any s _)).mono ?_; rintro e w' ⟨rfl, rfl⟩) | (refine ⟨trivial, ?_⟩; gi_at_call 15; refine (callsIn_wide.2 (pick_any leave _ _ (by omega) (by omega) hl0 hl1)).mono ?_; rintro e w5 ⟨⟨stop, hstop, rfl⟩, rfl⟩) | fail)
  obtain ⟨c, hc⟩ : ∃ c, w1.heap.size = c := ⟨_, rfl⟩
  rw [hc]
  obtain ⟨W0, hW0⟩ : ∃ W0, ((((((w1.alloc (.cells #[.slice pb LL.length pc] 33)).alloc (.cells #[.slice vb LL.length vc] 32)).alloc (.cells #[.string s] 9)).alloc (.cells #[fnP c] 39)).alloc (.cells #[.int .i64 (stop : Int)] 3)).alloc (.cells #[.int .i64 0] 3)) = W0 := ⟨_, rfl⟩
  have hz : W0.heap.size = c + 6 := by rw [← hW0, ← hc]; simp
  have hbc : b < c := by have := HB1.out.size; simp at this; omega
  have hbx : Boxed w1 b 4 (.bool false) := by
    have := HB1.out.block b (by simp; omega)
    unfold Boxed
    rw [this, ← hb]
    exact World.alloc_heap_new w _
  have hB1 : Below b w w1 := by
    have h1 := HB1.out
    exact ((Below.refl b w).alloc (by omega) _).trans ⟨h1.os, h1.tape, h1.output, h1.size, fun k hk => h1.block k (by simp; omega)⟩
  have hB0 : Below b w W0 := by
    rw [← hW0]
    exact ((((((hB1.alloc (by omega) _).alloc (by simp; omega) _).alloc (by simp; omega) _).alloc (by simp; omega) _).alloc (by simp; omega) _).alloc (by simp; omega) _)
  have hF0 : Fy s b c (.slice pb LL.length pc) (.slice vb LL.length vc) LL stop w W0 := by
    have hlow := HROW.out
    refine ⟨?_, ?_, ?_, ?_, ?_, ?_, ?_, ?_, ?_, hB0⟩
    · rw [← hW0]
      exact (((((hbx.alloc _).alloc _).alloc _).alloc _).alloc _).alloc _
    · rw [← hW0, ← hc]
      exact (((((Boxed.new w1 _ _).alloc _).alloc _).alloc _).alloc _).alloc _
    · have := ((((Boxed.new (w1.alloc (.cells #[.slice pb LL.length pc] 33)) 32 (.slice vb LL.length vc)).alloc (.cells #[.string s] 9)).alloc (.cells #[fnP c] 39)).alloc (.cells #[.int .i64 (stop : Int)] 3)).alloc (.cells #[.int .i64 0] 3)
      rw [hW0] at this
      simpa [hc] using this
    · have := (((Boxed.new ((w1.alloc (.cells #[.slice pb LL.length pc] 33)).alloc (.cells #[.slice vb LL.length vc] 32)) 9 (.string s)).alloc (.cells #[fnP c] 39)).alloc (.cells #[.int .i64 (stop : Int)] 3)).alloc (.cells #[.int .i64 0] 3)
      rw [hW0] at this
      simpa [hc] using this
    · have := ((Boxed.new (((w1.alloc (.cells #[.slice pb LL.length pc] 33)).alloc (.cells #[.slice vb LL.length vc] 32)).alloc (.cells #[.string s] 9)) 39 (fnP c)).alloc (.cells #[.int .i64 (stop : Int)] 3)).alloc (.cells #[.int .i64 0] 3)
      rw [hW0] at this
      simpa [hc] using this
    · have := (Boxed.new ((((w1.alloc (.cells #[.slice pb LL.length pc] 33)).alloc (.cells #[.slice vb LL.length vc] 32)).alloc (.cells #[.string s] 9)).alloc (.cells #[fnP c] 39)) 3 (.int .i64 (stop : Int))).alloc (.cells #[.int .i64 0] 3)
      rw [hW0] at this
      simpa [hc] using this
    · rw [← hW0]
      exact own_lower (by simp; omega) ((((((hlow.1.alloc _).alloc _).alloc _).alloc _).alloc _).alloc _)
    · rw [← hW0]
      exact own_lower (by simp; omega) ((((((hlow.2.alloc _).alloc _).alloc _).alloc _).alloc _).alloc _)
    · intro k hk
      have := (hlow.1.lt k hk).2
      omega
  have hk0 : Boxed W0 (c + 5) 3 (.int .i64 0) := by
    have := Boxed.new (((((w1.alloc (.cells #[.slice pb LL.length pc] 33)).alloc (.cells #[.slice vb LL.length vc] 32)).alloc (.cells #[.string s] 9)).alloc (.cells #[fnP c] 39)).alloc (.cells #[.int .i64 (stop : Int)] 3)) 3 (.int .i64 0)
    rw [hW0] at this
    simpa [hc] using this
  rw [hW0]
  have hstp : stop ≤ LL.length := by omega
  clear hW0 HB1 HROW hst HRF hbx hB1
  rename_i K hK
  have HKR := Hid.mk' hK
  clear hK
  have rest : ∀ (D : Nat) (W : World), c + 6 ≤ D → Fy s b c (.slice pb LL.length pc) (.slice vb LL.length vc) LL stop w W → Boxed W (c + 5) 3 (.int .i64 (stop : Int)) → W.heap[D]? = some (.deferred (some [])) → K { tmps := #[.string s, .int .i64 leave, undef, undef, .pointer (some ⟨b, 0, none⟩), .pointer (some ⟨c, 0, none⟩), .pointer (some ⟨c + 1, 0, none⟩), .pointer (some ⟨c + 1 + 1 + 1, 0, none⟩), .pointer (some ⟨c + 1 + 1 + 1 + 1, 0, none⟩), .pointer (some ⟨c + 1 + 1 + 1 + 1 + 1, 0, none⟩), undef, undef, undef, undef, undef, undef, undef, undef, undef, .tuple #[.slice pb LL.length pc, .slice vb LL.length vc], .string s, .tuple #[.slice pb LL.length pc, .slice vb LL.length vc], .slice pb LL.length pc, .slice vb LL.length vc, .string s, .func (.func 27) #[] #[.pointer (some ⟨c + 1 + 1, 0, none⟩)], fnP c, .bool false, .int .i64 leave, .slice vb LL.length vc, .int .i64 (LL.length : Int), .int .i64 ((LL.length : Int) + 1), .int .i64 (stop : Int), fnP c, undef, undef, undef, undef, undef, undef, undef, undef, undef, undef, undef, undef, undef, undef, undef, undef, undef, undef, undef, undef, undef, undef, undef, undef, undef, undef, undef, undef, undef, undef, undef, undef, undef, undef, undef, undef, undef, undef, undef, undef, undef, undef, undef, undef, undef, undef, undef, undef, undef, undef, undef, undef, undef, undef, undef, undef, undef, undef, undef, undef, undef, undef, undef, undef, undef, undef, undef, undef, undef, undef, undef, undef, undef, undef, undef, undef, undef, undef, undef, undef, undef, undef, undef, undef, undef, undef, undef, undef, undef, undef, undef, undef, undef, undef, undef, undef, undef, undef, undef, undef, undef, undef, undef], defers := [{ target := .collected D, args := #[] }] } W := by
    intro D W hD hfx hk hdef
    refine HKR.out _ _ ?_
    have ck := hk.cell
    have fk := hk.frozen
    have cs := hfx.stp.cell
    have ca := hfx.all.cell
    have hca : ∀ u, (W.setCell ⟨c + 5, 0, none⟩ u).cell? ⟨c + 3, 0, none⟩ = some (fnP c) := fun u => (hfx.all.other (by omega) u).cell
    have hkz := hk.set (.int .i64 0)
    have hf2 := hfx.setk (u := .int .i64 0) hk (by omega) hbc
    have hd2 := (KeepsOthers.setCell W ⟨c + 5, 0, none⟩ (.int .i64 0)).same D _ hdef rfl
    have hDlt := (Array.getElem?_eq_some_iff.1 hd2).1
    have HW2 := Hid.mk' (And.intro hf2 (And.intro hkz hd2))
    clear hfx hk hkz hf2 hd2 hdef
    gi_wp2
    clear ck fk cs ca hca
    obtain ⟨W2, hW2⟩ : ∃ W2, W.setCell ⟨c + 1 + 1 + 1 + 1 + 1, 0, none⟩ (.int .i64 0) = W2 := ⟨_, rfl⟩
    obtain ⟨hf2, hk2, hd2⟩ := HW2.out
    rw [show c + 5 = c + 1 + 1 + 1 + 1 + 1 by rfl, hW2] at hf2 hk2 hd2 hDlt
    rw [hW2]
    clear HW2 hW2
    have hz2 : c + 6 ≤ W2.heap.size := hk2.lt
    rename_i K2 hK2
    have HK2 := Hid.mk' hK2
    clear hK2
    refine wpIn_rangeW rfl (by omega) (gf := 27) (lb := #[.pointer (some ⟨c + 2, 0, none⟩)]) rfl trivial (enters_of Try.func27 (by kernel_rfl) rfl)
      (parts_seqW 5 (c + 2) s (by omega) W2 (by omega) hf2.txt.cell) (fun _ h => h.cells) KpP.t (fun W k o o' _ h h1 => KpP.put W k o o' h h1) (Below.refl _ _) (fun _ => rfl)
      (fun pre W => Fy s b c (.slice pb LL.length pc) (.slice vb LL.length vc) LL stop w W ∧ Boxed W (c + 5) 3 (.int .i64 (pre.length : Int)) ∧ pre <+: ptL s ∧ W.heap[D]? = some (.deferred (some [])))
      (fun cd pre W => cd = .ret ∧ ¬ pre <+: ptL s)
      (fun pre X Y row h hg hr => ⟨h.1.ab (B := W2.heap.size) (by omega) (by omega) hg hr, box_ab h.2.1 hg hr (by decide), h.2.2.1, (hg.block D (Array.getElem?_eq_some_iff.1 h.2.2.2).1 (fun e => by have := (hr D e.symm).1; omega)).trans h.2.2.2⟩)
      (fun cd pre X Y row h hg hr => h)
      ⟨hf2, hk2, List.nil_prefix, hd2⟩ (fun x a' W => ∃ X, a' = { tmps := #[.string s, .int .i64 leave, undef, undef, .pointer (some ⟨b, 0, none⟩), .pointer (some ⟨c, 0, none⟩), .pointer (some ⟨c + 1, 0, none⟩), .pointer (some ⟨c + 1 + 1 + 1, 0, none⟩), .pointer (some ⟨c + 1 + 1 + 1 + 1, 0, none⟩), .pointer (some ⟨c + 1 + 1 + 1 + 1 + 1, 0, none⟩), undef, undef, .int .i64 (x.1 : Int), .pointer (some ⟨X, 0, none⟩), undef, undef, undef, undef, undef, .tuple #[.slice pb LL.length pc, .slice vb LL.length vc], .string s, .tuple #[.slice pb LL.length pc, .slice vb LL.length vc], .slice pb LL.length pc, .slice vb LL.length vc, .string s, .func (.func 27) #[] #[.pointer (some ⟨c + 1 + 1, 0, none⟩)], fnP c, .bool false, .int .i64 leave, .slice vb LL.length vc, .int .i64 (LL.length : Int), .int .i64 ((LL.length : Int) + 1), .int .i64 (stop : Int), fnP c, undef, undef, undef, undef, undef, undef, undef, undef, undef, undef, undef, undef, undef, undef, undef, undef, undef, undef, undef, undef, undef, undef, undef, undef, undef, undef, undef, .int .i64 (stop : Int), .int .i64 (stop : Int), .bool false, fnP c, .int .i64 (x.1 : Int), .agg #[.string x.2.1, .int .i64 (x.2.2.1 : Int), .int .i64 (x.2.2.2 : Int)], undef, undef, undef, undef, undef, undef, undef, undef, undef, undef, undef, undef, undef, undef, undef, undef, undef, undef, undef, undef, undef, undef, undef, undef, undef, undef, undef, undef, undef, undef, undef, undef, undef, undef, undef, undef, undef, undef, undef, undef, undef, undef, undef, undef, undef, undef, undef, undef, undef, undef, undef, undef, undef, undef, undef, undef, undef, undef, undef, undef, undef, undef, undef, undef, undef, undef, undef, undef, undef, undef], defers := [] } ∧ Sb W X x) (fun x a' _ X Y row h hg hr => by obtain ⟨Z, rfl, hZ⟩ := h; exact ⟨Z, rfl, cells_ab hZ hg hr (by decide)⟩) ?assign2 ?body2 ?done2 ?stop2
    case assign2 =>
      intro l pre x W K hi hK
      simp only [encQ]
      gi_wp2
      exact hK _ _ (kept_new _ _ _) (kp_new _ _) ⟨hi.1.new (by omega) _, hi.2.1.alloc _, hi.2.2.1, (Below.heap_alloc _ _ _ (Array.getElem?_eq_some_iff.1 hi.2.2.2).1).trans hi.2.2.2⟩ ⟨_, rfl, World.alloc_heap_new W _⟩
    case body2 =>
      rintro l pre x a' W hl ⟨rl, hrl⟩ ⟨hfx, hk, hpre, hdf⟩ ⟨X, rfl, hsb⟩ hlen
      rw [hLL] at hlen
      obtain ⟨y, hy⟩ : ∃ y, LL[pre.length]? = some y := ⟨_, List.getElem?_eq_getElem hlen⟩
      have hnl := pre_next (x := x) hpre (by rw [hLL]; exact hy)
      obtain ⟨q, hq⟩ : ∃ q, pre.length = q := ⟨_, rfl⟩
      rw [hq] at hk hlen hy
      obtain ⟨xa, xt, xo, xl⟩ := x
      simp only at ⊢
      obtain ⟨x1, x2, x3⟩ := hsb.cells
      have ck := hk.cell
      have fk := hk.frozen
      have cs := hfx.stp.cell
      have cp := hfx.pls.cell
      have cw := hfx.want.cell
      have HQ := Hid.mk' hq
      have HFX := Hid.mk' hfx
      have HK := Hid.mk' hk
      have HDF := Hid.mk' hdf
      have HRL := Hid.mk' hrl
      have HSB := Hid.mk' hsb
      have cr := hfx.res.cell
      have fr := hfx.res.frozen
      have ca := hfx.all.cell
      have hqlI : ¬ (LL.length : Int) ≤ (q : Int) := by omega
      obtain ⟨gp, rfl⟩ := row_some hfx.rowp (by omega)
      obtain ⟨g, rfl⟩ := row_some hfx.rowo (by omega)
      obtain ⟨k0, k1, k2, k3⟩ := row_cells hfx.rowp hfx.rowo q y hy
      obtain ⟨ya, yt, yo, yl⟩ := y
      simp only at k0 k1 k2 k3 x1 x2 x3 hnl
      have HNL := Hid.mk' hnl
      have hqN : q < LL.length := hlen
      have hqn : ¬ LL.length ≤ q := by omega
      have hcw : W.drew.cell? ⟨c + 1, 0, none⟩ = some (.slice (some ⟨g, 0, none⟩) LL.length vc) := cw
      clear hfx hk hnl hq hy hlen hdf hrl hsb
      by_cases hA : ya = xa
      · subst hA
        have hAI : ((ya : Int) != (ya : Int)) = false := by simp
        by_cases hTx : yt = xt ∧ yo = xo ∧ yl = xl
        · obtain ⟨rfl, rfl, rfl⟩ := hTx
          have hsm := seq_same yt yo yl
          gi_wp2
          refine region_quiet (by kernel_rfl) (fun k => (#[.int .i64 (q : Int), .slice (some ⟨g, 0, none⟩) LL.length vc, .int .i64 (LL.length : Int), .bool false, .bool false, .slice (some ⟨gp, 0, none⟩) LL.length pc, .int .i64 (q : Int), .pointer (some ⟨gp, q, none⟩), .int .i64 (ya : Int), .int .i64 (ya : Int), .bool false, .bool false, .bool false, .slice (some ⟨g, 0, none⟩) LL.length vc, .int .i64 (q : Int), .pointer (some ⟨g, q * 3, none⟩), .agg #[.string yt, .int .i64 (yo : Int), .int .i64 (yl : Int)], .agg #[.string yt, .int .i64 (yo : Int), .int .i64 (yl : Int)], .bool false, .bool false] : Array Value).getD k undef) (fun f => { tmps := #[.string s, .int .i64 leave, undef, undef, .pointer (some ⟨b, 0, none⟩), .pointer (some ⟨c, 0, none⟩), .pointer (some ⟨c + 1, 0, none⟩), .pointer (some ⟨c + 1 + 1 + 1, 0, none⟩), .pointer (some ⟨c + 1 + 1 + 1 + 1, 0, none⟩), .pointer (some ⟨c + 1 + 1 + 1 + 1 + 1, 0, none⟩), undef, undef, .int .i64 (ya : Int), .pointer (some ⟨X, 0, none⟩), undef, undef, undef, undef, undef, .tuple #[.slice (some ⟨gp, 0, none⟩) LL.length pc, .slice (some ⟨g, 0, none⟩) LL.length vc], .string s, .tuple #[.slice (some ⟨gp, 0, none⟩) LL.length pc, .slice (some ⟨g, 0, none⟩) LL.length vc], .slice (some ⟨gp, 0, none⟩) LL.length pc, .slice (some ⟨g, 0, none⟩) LL.length vc, .string s, .func (.func 27) #[] #[.pointer (some ⟨c + 1 + 1, 0, none⟩)], fnP c, .bool false, .int .i64 leave, .slice (some ⟨g, 0, none⟩) LL.length vc, .int .i64 (LL.length : Int), .int .i64 ((LL.length : Int) + 1), .int .i64 (stop : Int), fnP c, undef, undef, undef, undef, undef, undef, undef, undef, undef, undef, undef, undef, undef, undef, undef, undef, undef, undef, undef, undef, undef, undef, undef, undef, undef, undef, undef, .int .i64 (stop : Int), .int .i64 (stop : Int), .bool false, fnP c, .int .i64 (ya : Int), .agg #[.string yt, .int .i64 (yo : Int), .int .i64 (yl : Int)], f 0, f 1, f 2, f 3, f 4, f 5, f 6, f 7, f 8, f 9, f 10, f 11, f 12, f 13, f 14, f 15, f 16, f 17, f 18, f 19, undef, undef, undef, undef, undef, undef, undef, undef, undef, undef, undef, undef, undef, undef, undef, undef, undef, undef, undef, undef, undef, undef, undef, undef, undef, undef, undef, undef, undef, undef, undef, undef, undef, undef, undef, undef, undef, undef, undef, undef, undef, undef, undef, undef, undef, undef, undef, undef, undef, undef], defers := [] }) (fun _ => undef) W (deps_of (by kernel_rfl)) ?_ ?_ ?_
          · intro f h hfg
            simp only [hfg 0 (by decide), hfg 1 (by decide), hfg 2 (by decide), hfg 3 (by decide), hfg 4 (by decide), hfg 5 (by decide), hfg 6 (by decide), hfg 7 (by decide), hfg 8 (by decide), hfg 9 (by decide), hfg 10 (by decide), hfg 11 (by decide), hfg 12 (by decide), hfg 13 (by decide), hfg 14 (by decide), hfg 15 (by decide), hfg 16 (by decide), hfg 17 (by decide), hfg 18 (by decide), hfg 19 (by decide)]
          · intro i hi o ho f hdeps K hK
            rcases (show i = 0 ∨ i = 1 ∨ i = 2 ∨ i = 3 ∨ i = 4 ∨ i = 5 ∨ i = 6 ∨ i = 7 ∨ i = 8 ∨ i = 9 ∨ i = 10 ∨ i = 11 ∨ i = 12 ∨ i = 13 ∨ i = 14 ∨ i = 15 ∨ i = 16 ∨ i = 17 ∨ i = 18 ∨ i = 19 by have : i < 20 := hi; omega) with rfl | rfl | rfl | rfl | rfl | rfl | rfl | rfl | rfl | rfl | rfl | rfl | rfl | rfl | rfl | rfl | rfl | rfl | rfl | rfl
            all_goals (simp at ho; subst ho; simp [Region.binds] at hdeps; simp [wpOpIn, Region.wanted, yielded, Oper.wpIn, Oper.semAt_some, execOp, Oper.uponIn, go_sem, hdeps, ck, cw, cp, k0, k1, k2, k3, x1, x2, x3, hqN, hqlI, hqn, hsm]; first | exact hK | (simp [upd, hdeps] at hK; exact hK))
          · by_cases hsq : q = stop
            · have hsqI : ((q : Int) == (stop : Int)) = true := by simp; omega
              have HSQ := Hid.mk' hsq
              clear hsq
              have hca2 : ∀ o, (W.alloc o).cell? ⟨c + 3, 0, none⟩ = some (fnP c) := fun o => (HFX.out.all.alloc o).cell
              gi_wp2
              clear ck fk cs cw cr fr ca hca2 hcw k0 k1 k2 k3 cp x1 x2 x3
              obtain ⟨W3, hW3⟩ : ∃ W3, (W.alloc (.cells #[.int .i64 0] 3)).drew = W3 := ⟨_, rfl⟩
              have hf3 : Fy s b c (.slice (some ⟨gp, 0, none⟩) LL.length pc) (.slice (some ⟨g, 0, none⟩) LL.length vc) LL stop w W3 := by
                rw [← hW3]
                exact (HFX.out.new (by omega) _).drew
              have hk3 : Boxed W3 (c + 5) 3 (.int .i64 (q : Int)) := by rw [← hW3]; exact HK.out.alloc _
              have hi3 : Boxed W3 W.heap.size 3 (.int .i64 0) := by rw [← hW3]; exact Boxed.new W _ _
              have hd3 : W3.heap[D]? = some (.deferred (some [])) := by
                rw [← hW3]
                exact (Below.heap_alloc W _ _ (Array.getElem?_eq_some_iff.1 HDF.out).1).trans HDF.out
              have hl3 : W3.heap[l]? = some (.loop rl) := by
                rw [← hW3]
                exact (Below.heap_alloc W _ _ (Array.getElem?_eq_some_iff.1 HRL.out).1).trans HRL.out
              have hz3 : W3.heap.size = W.heap.size + 1 := by rw [← hW3]; exact size_alloc_drew W _
              have hkk3 : KeptW W2.heap.size WrP W W3 := by
                rw [← hW3]
                exact kept_drew (kept_new _ _ _)
              have hkl := HK.out.lt
              have hDW : D < W.heap.size := (Array.getElem?_eq_some_iff.1 HDF.out).1
              have hkp3 : KpP W W3 := by
                rw [← hW3]
                exact kp_drew (kp_new _ _)
              rw [hW3]
              clear hW3
              refine wpIn_rangeW_in (l₀ := l) (r₀ := rl) rfl hl3 (by omega) (gf := 27) (lb := #[.pointer (some ⟨c + 2, 0, none⟩)]) rfl trivial (enters_of Try.func27 (by kernel_rfl) rfl)
                (show SeqW (Fence.wide.inRound l) 3 Try.prog 27 #[.pointer (some ⟨c + 2, 0, none⟩)] encQ WrP KpP (fun ys => ys = ptL s) (fun pre => pre <+: ptL s) (ptL s).length W3 from parts_seqW 3 (c + 2) s (by omega) W3 (by omega) hf3.txt.cell) (fun _ h => h.cells) KpP.t (fun W k o o' _ h h1 => KpP.put W k o o' h h1) (Below.refl _ _) (fun _ => rfl)
                (fun qre X => Fy s b c (.slice (some ⟨gp, 0, none⟩) LL.length pc) (.slice (some ⟨g, 0, none⟩) LL.length vc) LL stop w X ∧ Boxed X (c + 5) 3 (.int .i64 (q : Int)) ∧ Boxed X W.heap.size 3 (.int .i64 (qre.length : Int)) ∧ qre <+: ptL s ∧ X.heap[D]? = some (.deferred (some [])) ∧ KeptW W2.heap.size WrP W X ∧ KpP W X)
                (fun cd qre X => cd = .ret ∧ ¬ qre <+: ptL s)
                (fun qre X Y row h hg hr => ⟨h.1.ab (B := W3.heap.size) (by omega) (by omega) hg hr, box_ab h.2.1 hg hr (by decide), box_ab h.2.2.1 hg hr (by decide), h.2.2.2.1, (hg.block D (Array.getElem?_eq_some_iff.1 h.2.2.2.2.1).1 (fun e => by have := (hr D e.symm).1; omega)).trans h.2.2.2.2.1, kept_ab h.2.2.2.2.2.1 hg hr (by omega), kp_ab h.2.2.2.2.2.2 hg hr (by omega)⟩)
                (fun cd qre X Y row h hg hr => h)
                ⟨hf3, hk3, hi3, List.nil_prefix, hd3, hkk3, hkp3⟩ (fun x a' V => ∃ Y, a' = { tmps := #[.string s, .int .i64 leave, undef, undef, .pointer (some ⟨b, 0, none⟩), .pointer (some ⟨c, 0, none⟩), .pointer (some ⟨c + 1, 0, none⟩), .pointer (some ⟨c + 1 + 1 + 1, 0, none⟩), .pointer (some ⟨c + 1 + 1 + 1 + 1, 0, none⟩), .pointer (some ⟨c + 1 + 1 + 1 + 1 + 1, 0, none⟩), undef, undef, .int .i64 (ya : Int), .pointer (some ⟨X, 0, none⟩), .pointer (some ⟨W.heap.size, 0, none⟩), .int .i64 (x.1 : Int), .pointer (some ⟨Y, 0, none⟩), undef, undef, .tuple #[.slice (some ⟨gp, 0, none⟩) LL.length pc, .slice (some ⟨g, 0, none⟩) LL.length vc], .string s, .tuple #[.slice (some ⟨gp, 0, none⟩) LL.length pc, .slice (some ⟨g, 0, none⟩) LL.length vc], .slice (some ⟨gp, 0, none⟩) LL.length pc, .slice (some ⟨g, 0, none⟩) LL.length vc, .string s, .func (.func 27) #[] #[.pointer (some ⟨c + 1 + 1, 0, none⟩)], fnP c, .bool false, .int .i64 leave, .slice (some ⟨g, 0, none⟩) LL.length vc, .int .i64 (LL.length : Int), .int .i64 ((LL.length : Int) + 1), .int .i64 (stop : Int), fnP c, undef, undef, undef, undef, undef, undef, undef, undef, undef, undef, undef, undef, undef, undef, undef, undef, undef, undef, undef, undef, undef, undef, undef, undef, undef, undef, undef, .int .i64 (stop : Int), .int .i64 (stop : Int), .bool false, fnP c, .int .i64 (ya : Int), .agg #[.string yt, .int .i64 (yo : Int), .int .i64 (yl : Int)], .int .i64 (q : Int), .slice (some ⟨g, 0, none⟩) LL.length vc, .int .i64 (LL.length : Int), .bool false, .bool false, .slice (some ⟨gp, 0, none⟩) LL.length pc, .int .i64 (q : Int), .pointer (some ⟨gp, q, none⟩), .int .i64 (ya : Int), .int .i64 (ya : Int), .bool false, .bool false, .bool false, .slice (some ⟨g, 0, none⟩) LL.length vc, .int .i64 (q : Int), .pointer (some ⟨g, q * 3, none⟩), .agg #[.string yt, .int .i64 (yo : Int), .int .i64 (yl : Int)], .agg #[.string yt, .int .i64 (yo : Int), .int .i64 (yl : Int)], .bool false, .bool false, .int .i64 (q : Int), .int .i64 (stop : Int), .bool true, fnP c, .int .i64 (x.1 : Int), .agg #[.string x.2.1, .int .i64 (x.2.2.1 : Int), .int .i64 (x.2.2.2 : Int)], undef, undef, undef, undef, undef, undef, undef, undef, undef, undef, undef, undef, undef, undef, undef, undef, undef, undef, undef, undef, undef, undef, undef, undef, undef, undef, undef, undef, undef, undef, undef, undef, undef, undef, undef, undef, undef, undef, undef, undef, undef, undef, undef, undef], defers := [] } ∧ Sb V Y x) (fun x a' _ X Y row h hg hr => by obtain ⟨Z, rfl, hZ⟩ := h; exact ⟨Z, rfl, cells_ab hZ hg hr (by decide)⟩) ?assign3 ?body3 ?done3 ?stop3
              case assign3 =>
                intro l2 qre x V K hi hK
                simp only [encQ]
                gi_wp2
                exact hK _ _ (kept_new _ _ _) (kp_new _ _) ⟨hi.1.new (by omega) _, hi.2.1.alloc _, hi.2.2.1.alloc _, hi.2.2.2.1, (Below.heap_alloc _ _ _ (Array.getElem?_eq_some_iff.1 hi.2.2.2.2.1).1).trans hi.2.2.2.2.1, hi.2.2.2.2.2.1.trans (kept_new _ _ _), hi.2.2.2.2.2.2.t (kp_new _ _)⟩ ⟨_, rfl, World.alloc_heap_new V _⟩
              case stop3 =>
                rintro cd qre V hpre ⟨rfl, hn⟩
                exact absurd hpre hn
              case body3 =>
                rintro l2 qre x a' V hl2 _ ⟨hfx, hk, hib, hpre, hdf, hkk, hkp⟩ ⟨Y, rfl, hsb⟩ hlen
                rw [hLL] at hlen
                obtain ⟨z, hy⟩ : ∃ y, LL[qre.length]? = some y := ⟨_, List.getElem?_eq_getElem hlen⟩
                have hnl := pre_next (x := x) hpre (by rw [hLL]; exact hy)
                obtain ⟨p, hp⟩ : ∃ p, qre.length = p := ⟨_, rfl⟩
                rw [hp] at hib hlen hy
                obtain ⟨ua, ut, uo, ul⟩ := x
                simp only at ⊢
                obtain ⟨x1, x2, x3⟩ := hsb.cells
                have ck := hib.cell
                have fk := hib.frozen
                have cp := hfx.pls.cell
                have cw := hfx.want.cell
                have cr := hfx.res.cell
                have fr := hfx.res.frozen
                have HP := Hid.mk' hp
                have HFY := Hid.mk' hfx
                have HKY := Hid.mk' hk
                have HIB := Hid.mk' hib
                have HDY := Hid.mk' hdf
                have HKP := Hid.mk' (And.intro hkk hkp)
                obtain ⟨k0, k1, k2, k3⟩ := row_cells hfx.rowp hfx.rowo p z hy
                obtain ⟨za, zt, zo, zl⟩ := z
                simp only at k0 k1 k2 k3 x1 x2 x3 hnl
                have HNM := Hid.mk' hnl
                clear hqN hqn hqlI
                have hqN : p < LL.length := hlen
                have hqn : ¬ LL.length ≤ p := by omega
                have hqlI : ¬ (LL.length : Int) ≤ (p : Int) := by omega
                clear hfx hk hib hpre hdf hkk hkp hnl hp hy hlen hsb hsm
                by_cases hA2 : za = ua
                · subst hA2
                  have hAI2 : ((za : Int) != (za : Int)) = false := by simp
                  by_cases hT2 : zt = ut ∧ zo = uo ∧ zl = ul
                  · obtain ⟨rfl, rfl, rfl⟩ := hT2
                    have hsm := seq_same zt zo zl
                    gi_wp2
                    refine region_quiet (by kernel_rfl) (fun k => (#[.int .i64 (p : Int), .slice (some ⟨g, 0, none⟩) LL.length vc, .int .i64 (LL.length : Int), .bool false, .bool false, .slice (some ⟨gp, 0, none⟩) LL.length pc, .int .i64 (p : Int), .pointer (some ⟨gp, p, none⟩), .int .i64 (za : Int), .int .i64 (za : Int), .bool false, .bool false, .bool false, .slice (some ⟨g, 0, none⟩) LL.length vc, .int .i64 (p : Int), .pointer (some ⟨g, p * 3, none⟩), .agg #[.string zt, .int .i64 (zo : Int), .int .i64 (zl : Int)], .agg #[.string zt, .int .i64 (zo : Int), .int .i64 (zl : Int)], .bool false, .bool false] : Array Value).getD k undef) (fun f => { tmps := #[.string s, .int .i64 leave, undef, undef, .pointer (some ⟨b, 0, none⟩), .pointer (some ⟨c, 0, none⟩), .pointer (some ⟨c + 1, 0, none⟩), .pointer (some ⟨c + 1 + 1 + 1, 0, none⟩), .pointer (some ⟨c + 1 + 1 + 1 + 1, 0, none⟩), .pointer (some ⟨c + 1 + 1 + 1 + 1 + 1, 0, none⟩), undef, undef, .int .i64 (ya : Int), .pointer (some ⟨X, 0, none⟩), .pointer (some ⟨W.heap.size, 0, none⟩), .int .i64 (za : Int), .pointer (some ⟨Y, 0, none⟩), undef, undef, .tuple #[.slice (some ⟨gp, 0, none⟩) LL.length pc, .slice (some ⟨g, 0, none⟩) LL.length vc], .string s, .tuple #[.slice (some ⟨gp, 0, none⟩) LL.length pc, .slice (some ⟨g, 0, none⟩) LL.length vc], .slice (some ⟨gp, 0, none⟩) LL.length pc, .slice (some ⟨g, 0, none⟩) LL.length vc, .string s, .func (.func 27) #[] #[.pointer (some ⟨c + 1 + 1, 0, none⟩)], fnP c, .bool false, .int .i64 leave, .slice (some ⟨g, 0, none⟩) LL.length vc, .int .i64 (LL.length : Int), .int .i64 ((LL.length : Int) + 1), .int .i64 (stop : Int), fnP c, undef, undef, undef, undef, undef, undef, undef, undef, undef, undef, undef, undef, undef, undef, undef, undef, undef, undef, undef, undef, undef, undef, undef, undef, undef, undef, undef, .int .i64 (stop : Int), .int .i64 (stop : Int), .bool false, fnP c, .int .i64 (ya : Int), .agg #[.string yt, .int .i64 (yo : Int), .int .i64 (yl : Int)], .int .i64 (q : Int), .slice (some ⟨g, 0, none⟩) LL.length vc, .int .i64 (LL.length : Int), .bool false, .bool false, .slice (some ⟨gp, 0, none⟩) LL.length pc, .int .i64 (q : Int), .pointer (some ⟨gp, q, none⟩), .int .i64 (ya : Int), .int .i64 (ya : Int), .bool false, .bool false, .bool false, .slice (some ⟨g, 0, none⟩) LL.length vc, .int .i64 (q : Int), .pointer (some ⟨g, q * 3, none⟩), .agg #[.string yt, .int .i64 (yo : Int), .int .i64 (yl : Int)], .agg #[.string yt, .int .i64 (yo : Int), .int .i64 (yl : Int)], .bool false, .bool false, .int .i64 (q : Int), .int .i64 (stop : Int), .bool true, fnP c, .int .i64 (za : Int), .agg #[.string zt, .int .i64 (zo : Int), .int .i64 (zl : Int)], f 0, f 1, f 2, f 3, f 4, f 5, f 6, f 7, f 8, f 9, f 10, f 11, f 12, f 13, f 14, f 15, f 16, f 17, f 18, f 19, undef, undef, undef, undef, undef, undef, undef, undef, undef, undef, undef, undef, undef, undef, undef, undef, undef, undef, undef, undef, undef, undef, undef, undef], defers := [] }) (fun _ => undef) V (deps_of (by kernel_rfl)) ?_ ?_ ?_
                    · intro f h hfg
                      simp only [hfg 0 (by decide), hfg 1 (by decide), hfg 2 (by decide), hfg 3 (by decide), hfg 4 (by decide), hfg 5 (by decide), hfg 6 (by decide), hfg 7 (by decide), hfg 8 (by decide), hfg 9 (by decide), hfg 10 (by decide), hfg 11 (by decide), hfg 12 (by decide), hfg 13 (by decide), hfg 14 (by decide), hfg 15 (by decide), hfg 16 (by decide), hfg 17 (by decide), hfg 18 (by decide), hfg 19 (by decide)]
                    · intro i hi o ho f hdeps K hK
                      rcases (show i = 0 ∨ i = 1 ∨ i = 2 ∨ i = 3 ∨ i = 4 ∨ i = 5 ∨ i = 6 ∨ i = 7 ∨ i = 8 ∨ i = 9 ∨ i = 10 ∨ i = 11 ∨ i = 12 ∨ i = 13 ∨ i = 14 ∨ i = 15 ∨ i = 16 ∨ i = 17 ∨ i = 18 ∨ i = 19 by have : i < 20 := hi; omega) with rfl | rfl | rfl | rfl | rfl | rfl | rfl | rfl | rfl | rfl | rfl | rfl | rfl | rfl | rfl | rfl | rfl | rfl | rfl | rfl
                      all_goals (simp at ho; subst ho; simp [Region.binds] at hdeps; simp [wpOpIn, Region.wanted, yielded, Oper.wpIn, Oper.semAt_some, execOp, Oper.uponIn, go_sem, hdeps, ck, cw, cp, k0, k1, k2, k3, x1, x2, x3, hqN, hqlI, hqn, hsm]; first | exact hK | (simp [upd, hdeps] at hK; exact hK))
                    · gi_wp2
                      exact ⟨kept_drew (kept_set _ HIB.out (by decide) _), kp_drew (kp_set HIB.out (by decide) _), (HFY.out.setk HIB.out (by omega) hbc).drew, HKY.out.other (by omega) _, by have := HIB.out.set (.int .i64 ((p : Int) + 1)); rw [List.length_append, HP.out]; exact this, HNM.out.1 trivial, (KeepsOthers.setCell V _ _).same D _ HDY.out rfl, HKP.out.1.trans (kept_drew (kept_set _ HIB.out (by decide) _)), HKP.out.2.t (kp_drew (kp_set HIB.out (by decide) _))⟩
                  · have hsd := seq_diff _ _ _ _ _ _ hT2
                    have HTX := Hid.mk' hT2
                    clear hT2
                    gi_wp2
                    refine region_quiet (by kernel_rfl) (fun k => (#[.int .i64 (p : Int), .slice (some ⟨g, 0, none⟩) LL.length vc, .int .i64 (LL.length : Int), .bool false, .bool false, .slice (some ⟨gp, 0, none⟩) LL.length pc, .int .i64 (p : Int), .pointer (some ⟨gp, p, none⟩), .int .i64 (za : Int), .int .i64 (za : Int), .bool false, .bool false, .bool false, .slice (some ⟨g, 0, none⟩) LL.length vc, .int .i64 (p : Int), .pointer (some ⟨g, p * 3, none⟩), .agg #[.string zt, .int .i64 (zo : Int), .int .i64 (zl : Int)], .agg #[.string ut, .int .i64 (uo : Int), .int .i64 (ul : Int)], .bool true, .bool true] : Array Value).getD k undef) (fun f => { tmps := #[.string s, .int .i64 leave, undef, undef, .pointer (some ⟨b, 0, none⟩), .pointer (some ⟨c, 0, none⟩), .pointer (some ⟨c + 1, 0, none⟩), .pointer (some ⟨c + 1 + 1 + 1, 0, none⟩), .pointer (some ⟨c + 1 + 1 + 1 + 1, 0, none⟩), .pointer (some ⟨c + 1 + 1 + 1 + 1 + 1, 0, none⟩), undef, undef, .int .i64 (ya : Int), .pointer (some ⟨X, 0, none⟩), .pointer (some ⟨W.heap.size, 0, none⟩), .int .i64 (za : Int), .pointer (some ⟨Y, 0, none⟩), undef, undef, .tuple #[.slice (some ⟨gp, 0, none⟩) LL.length pc, .slice (some ⟨g, 0, none⟩) LL.length vc], .string s, .tuple #[.slice (some ⟨gp, 0, none⟩) LL.length pc, .slice (some ⟨g, 0, none⟩) LL.length vc], .slice (some ⟨gp, 0, none⟩) LL.length pc, .slice (some ⟨g, 0, none⟩) LL.length vc, .string s, .func (.func 27) #[] #[.pointer (some ⟨c + 1 + 1, 0, none⟩)], fnP c, .bool false, .int .i64 leave, .slice (some ⟨g, 0, none⟩) LL.length vc, .int .i64 (LL.length : Int), .int .i64 ((LL.length : Int) + 1), .int .i64 (stop : Int), fnP c, undef, undef, undef, undef, undef, undef, undef, undef, undef, undef, undef, undef, undef, undef, undef, undef, undef, undef, undef, undef, undef, undef, undef, undef, undef, undef, undef, .int .i64 (stop : Int), .int .i64 (stop : Int), .bool false, fnP c, .int .i64 (ya : Int), .agg #[.string yt, .int .i64 (yo : Int), .int .i64 (yl : Int)], .int .i64 (q : Int), .slice (some ⟨g, 0, none⟩) LL.length vc, .int .i64 (LL.length : Int), .bool false, .bool false, .slice (some ⟨gp, 0, none⟩) LL.length pc, .int .i64 (q : Int), .pointer (some ⟨gp, q, none⟩), .int .i64 (ya : Int), .int .i64 (ya : Int), .bool false, .bool false, .bool false, .slice (some ⟨g, 0, none⟩) LL.length vc, .int .i64 (q : Int), .pointer (some ⟨g, q * 3, none⟩), .agg #[.string yt, .int .i64 (yo : Int), .int .i64 (yl : Int)], .agg #[.string yt, .int .i64 (yo : Int), .int .i64 (yl : Int)], .bool false, .bool false, .int .i64 (q : Int), .int .i64 (stop : Int), .bool true, fnP c, .int .i64 (za : Int), .agg #[.string ut, .int .i64 (uo : Int), .int .i64 (ul : Int)], f 0, f 1, f 2, f 3, f 4, f 5, f 6, f 7, f 8, f 9, f 10, f 11, f 12, f 13, f 14, f 15, f 16, f 17, f 18, f 19, undef, undef, undef, undef, undef, undef, undef, undef, undef, undef, undef, undef, undef, undef, undef, undef, undef, undef, undef, undef, undef, undef, undef, undef], defers := [] }) (fun _ => undef) V (deps_of (by kernel_rfl)) ?_ ?_ ?_
                    · intro f h hfg
                      simp only [hfg 0 (by decide), hfg 1 (by decide), hfg 2 (by decide), hfg 3 (by decide), hfg 4 (by decide), hfg 5 (by decide), hfg 6 (by decide), hfg 7 (by decide), hfg 8 (by decide), hfg 9 (by decide), hfg 10 (by decide), hfg 11 (by decide), hfg 12 (by decide), hfg 13 (by decide), hfg 14 (by decide), hfg 15 (by decide), hfg 16 (by decide), hfg 17 (by decide), hfg 18 (by decide), hfg 19 (by decide)]
                    · intro i hi o ho f hdeps K hK
                      rcases (show i = 0 ∨ i = 1 ∨ i = 2 ∨ i = 3 ∨ i = 4 ∨ i = 5 ∨ i = 6 ∨ i = 7 ∨ i = 8 ∨ i = 9 ∨ i = 10 ∨ i = 11 ∨ i = 12 ∨ i = 13 ∨ i = 14 ∨ i = 15 ∨ i = 16 ∨ i = 17 ∨ i = 18 ∨ i = 19 by have : i < 20 := hi; omega) with rfl | rfl | rfl | rfl | rfl | rfl | rfl | rfl | rfl | rfl | rfl | rfl | rfl | rfl | rfl | rfl | rfl | rfl | rfl | rfl
                      all_goals (simp at ho; subst ho; simp [Region.binds] at hdeps; simp [wpOpIn, Region.wanted, yielded, Oper.wpIn, Oper.semAt_some, execOp, Oper.uponIn, go_sem, hdeps, ck, cw, cp, k0, k1, k2, k3, x1, x2, x3, hqN, hqlI, hqn, hsd]; first | exact hK | (simp [upd, hdeps] at hK; exact hK))
                    · gi_wp2
                      exact ⟨kept_drew (kept_set _ HFY.out.res (by decide) _), rfl, HNM.out.2 (fun e => HTX.out (by cases e; exact ⟨rfl, rfl, rfl⟩))⟩
                · have hAI2 : ((za : Int) != (ua : Int)) = true := by simp; omega
                  have hAN2 : ¬ (za : Int) = (ua : Int) := by omega
                  have HA2 := Hid.mk' hA2
                  clear hA2
                  gi_wp2
                  refine region_quiet (by kernel_rfl) (fun k => (#[.int .i64 (p : Int), .slice (some ⟨g, 0, none⟩) LL.length vc, .int .i64 (LL.length : Int), .bool false, .bool false, .slice (some ⟨gp, 0, none⟩) LL.length pc, .int .i64 (p : Int), .pointer (some ⟨gp, p, none⟩), .int .i64 (za : Int), .int .i64 (ua : Int), .bool true, .bool true, .bool true, undef, undef, undef, undef, undef, undef, .bool true] : Array Value).getD k undef) (fun f => { tmps := #[.string s, .int .i64 leave, undef, undef, .pointer (some ⟨b, 0, none⟩), .pointer (some ⟨c, 0, none⟩), .pointer (some ⟨c + 1, 0, none⟩), .pointer (some ⟨c + 1 + 1 + 1, 0, none⟩), .pointer (some ⟨c + 1 + 1 + 1 + 1, 0, none⟩), .pointer (some ⟨c + 1 + 1 + 1 + 1 + 1, 0, none⟩), undef, undef, .int .i64 (ya : Int), .pointer (some ⟨X, 0, none⟩), .pointer (some ⟨W.heap.size, 0, none⟩), .int .i64 (ua : Int), .pointer (some ⟨Y, 0, none⟩), undef, undef, .tuple #[.slice (some ⟨gp, 0, none⟩) LL.length pc, .slice (some ⟨g, 0, none⟩) LL.length vc], .string s, .tuple #[.slice (some ⟨gp, 0, none⟩) LL.length pc, .slice (some ⟨g, 0, none⟩) LL.length vc], .slice (some ⟨gp, 0, none⟩) LL.length pc, .slice (some ⟨g, 0, none⟩) LL.length vc, .string s, .func (.func 27) #[] #[.pointer (some ⟨c + 1 + 1, 0, none⟩)], fnP c, .bool false, .int .i64 leave, .slice (some ⟨g, 0, none⟩) LL.length vc, .int .i64 (LL.length : Int), .int .i64 ((LL.length : Int) + 1), .int .i64 (stop : Int), fnP c, undef, undef, undef, undef, undef, undef, undef, undef, undef, undef, undef, undef, undef, undef, undef, undef, undef, undef, undef, undef, undef, undef, undef, undef, undef, undef, undef, .int .i64 (stop : Int), .int .i64 (stop : Int), .bool false, fnP c, .int .i64 (ya : Int), .agg #[.string yt, .int .i64 (yo : Int), .int .i64 (yl : Int)], .int .i64 (q : Int), .slice (some ⟨g, 0, none⟩) LL.length vc, .int .i64 (LL.length : Int), .bool false, .bool false, .slice (some ⟨gp, 0, none⟩) LL.length pc, .int .i64 (q : Int), .pointer (some ⟨gp, q, none⟩), .int .i64 (ya : Int), .int .i64 (ya : Int), .bool false, .bool false, .bool false, .slice (some ⟨g, 0, none⟩) LL.length vc, .int .i64 (q : Int), .pointer (some ⟨g, q * 3, none⟩), .agg #[.string yt, .int .i64 (yo : Int), .int .i64 (yl : Int)], .agg #[.string yt, .int .i64 (yo : Int), .int .i64 (yl : Int)], .bool false, .bool false, .int .i64 (q : Int), .int .i64 (stop : Int), .bool true, fnP c, .int .i64 (ua : Int), .agg #[.string ut, .int .i64 (uo : Int), .int .i64 (ul : Int)], f 0, f 1, f 2, f 3, f 4, f 5, f 6, f 7, f 8, f 9, f 10, f 11, f 12, f 13, f 14, f 15, f 16, f 17, f 18, f 19, undef, undef, undef, undef, undef, undef, undef, undef, undef, undef, undef, undef, undef, undef, undef, undef, undef, undef, undef, undef, undef, undef, undef, undef], defers := [] }) (fun _ => undef) V (deps_of (by kernel_rfl)) ?_ ?_ ?_
                  · intro f h hfg
                    simp only [hfg 0 (by decide), hfg 1 (by decide), hfg 2 (by decide), hfg 3 (by decide), hfg 4 (by decide), hfg 5 (by decide), hfg 6 (by decide), hfg 7 (by decide), hfg 8 (by decide), hfg 9 (by decide), hfg 10 (by decide), hfg 11 (by decide), hfg 12 (by decide), hfg 13 (by decide), hfg 14 (by decide), hfg 15 (by decide), hfg 16 (by decide), hfg 17 (by decide), hfg 18 (by decide), hfg 19 (by decide)]
                  · intro i hi o ho f hdeps K hK
                    rcases (show i = 0 ∨ i = 1 ∨ i = 2 ∨ i = 3 ∨ i = 4 ∨ i = 5 ∨ i = 6 ∨ i = 7 ∨ i = 8 ∨ i = 9 ∨ i = 10 ∨ i = 11 ∨ i = 12 ∨ i = 13 ∨ i = 14 ∨ i = 15 ∨ i = 16 ∨ i = 17 ∨ i = 18 ∨ i = 19 by have : i < 20 := hi; omega) with rfl | rfl | rfl | rfl | rfl | rfl | rfl | rfl | rfl | rfl | rfl | rfl | rfl | rfl | rfl | rfl | rfl | rfl | rfl | rfl
                    all_goals (simp at ho; subst ho; simp [Region.binds] at hdeps; simp [wpOpIn, Region.wanted, yielded, Oper.wpIn, Oper.semAt_some, execOp, Oper.uponIn, go_sem, hdeps, ck, cw, cp, k0, k1, k2, k3, x1, x2, x3, hqN, hqlI, hqn, hAI2, hAN2]; first | exact hK | (simp [upd, hdeps] at hK; exact hK))
                  · gi_wp2
                    exact ⟨kept_drew (kept_set _ HFY.out.res (by decide) _), rfl, HNM.out.2 (fun e => HA2.out (by cases e; rfl))⟩
              case done3 =>
                rintro xs V rfl ⟨hfx, hk, hib, _, hdf, hkk, hkp⟩
                rw [hLL] at hib
                have ck := hib.cell
                have cw := hfx.want.cell
                have ck2 := hk.cell
                have fk2 := hk.frozen
                have HFY := Hid.mk' hfx
                have HKY := Hid.mk' hk
                have HDY := Hid.mk' hdf
                have HKP := Hid.mk' (And.intro hkk hkp)
                clear hfx hk hib hdf hkk hkp
                have hnn : ((LL.length : Int) != (LL.length : Int)) = false := by simp
                gi_wp2
                exact ⟨HKP.out.1.trans (kept_set _ HKY.out (by decide) _), HKP.out.2.t (kp_set HKY.out (by decide) _), HFY.out.setk HKY.out (by omega) hbc, by have := HKY.out.set (.int .i64 ((q : Int) + 1)); rw [List.length_append, HQ.out]; exact this, HNL.out.1 trivial, (KeepsOthers.setCell V _ _).same D _ HDY.out rfl⟩
            · have hsqI : ((q : Int) == (stop : Int)) = false := by simp; omega
              gi_wp2
              exact ⟨kept_drew (kept_set _ HK.out (by decide) _), kp_drew (kp_set HK.out (by decide) _), (HFX.out.setk HK.out (by omega) hbc).drew, by have := HK.out.set (.int .i64 ((q : Int) + 1)); rw [List.length_append, HQ.out]; exact this, HNL.out.1 trivial, (KeepsOthers.setCell W _ _).same D _ HDF.out rfl⟩
        · have hsd := seq_diff _ _ _ _ _ _ hTx
          have HTX := Hid.mk' hTx
          clear hTx
          gi_wp2
          refine region_quiet (by kernel_rfl) (fun k => (#[.int .i64 (q : Int), .slice (some ⟨g, 0, none⟩) LL.length vc, .int .i64 (LL.length : Int), .bool false, .bool false, .slice (some ⟨gp, 0, none⟩) LL.length pc, .int .i64 (q : Int), .pointer (some ⟨gp, q, none⟩), .int .i64 (ya : Int), .int .i64 (ya : Int), .bool false, .bool false, .bool false, .slice (some ⟨g, 0, none⟩) LL.length vc, .int .i64 (q : Int), .pointer (some ⟨g, q * 3, none⟩), .agg #[.string yt, .int .i64 (yo : Int), .int .i64 (yl : Int)], .agg #[.string xt, .int .i64 (xo : Int), .int .i64 (xl : Int)], .bool true, .bool true] : Array Value).getD k undef) (fun f => { tmps := #[.string s, .int .i64 leave, undef, undef, .pointer (some ⟨b, 0, none⟩), .pointer (some ⟨c, 0, none⟩), .pointer (some ⟨c + 1, 0, none⟩), .pointer (some ⟨c + 1 + 1 + 1, 0, none⟩), .pointer (some ⟨c + 1 + 1 + 1 + 1, 0, none⟩), .pointer (some ⟨c + 1 + 1 + 1 + 1 + 1, 0, none⟩), undef, undef, .int .i64 (ya : Int), .pointer (some ⟨X, 0, none⟩), undef, undef, undef, undef, undef, .tuple #[.slice (some ⟨gp, 0, none⟩) LL.length pc, .slice (some ⟨g, 0, none⟩) LL.length vc], .string s, .tuple #[.slice (some ⟨gp, 0, none⟩) LL.length pc, .slice (some ⟨g, 0, none⟩) LL.length vc], .slice (some ⟨gp, 0, none⟩) LL.length pc, .slice (some ⟨g, 0, none⟩) LL.length vc, .string s, .func (.func 27) #[] #[.pointer (some ⟨c + 1 + 1, 0, none⟩)], fnP c, .bool false, .int .i64 leave, .slice (some ⟨g, 0, none⟩) LL.length vc, .int .i64 (LL.length : Int), .int .i64 ((LL.length : Int) + 1), .int .i64 (stop : Int), fnP c, undef, undef, undef, undef, undef, undef, undef, undef, undef, undef, undef, undef, undef, undef, undef, undef, undef, undef, undef, undef, undef, undef, undef, undef, undef, undef, undef, .int .i64 (stop : Int), .int .i64 (stop : Int), .bool false, fnP c, .int .i64 (ya : Int), .agg #[.string xt, .int .i64 (xo : Int), .int .i64 (xl : Int)], f 0, f 1, f 2, f 3, f 4, f 5, f 6, f 7, f 8, f 9, f 10, f 11, f 12, f 13, f 14, f 15, f 16, f 17, f 18, f 19, undef, undef, undef, undef, undef, undef, undef, undef, undef, undef, undef, undef, undef, undef, undef, undef, undef, undef, undef, undef, undef, undef, undef, undef, undef, undef, undef, undef, undef, undef, undef, undef, undef, undef, undef, undef, undef, undef, undef, undef, undef, undef, undef, undef, undef, undef, undef, undef, undef, undef], defers := [] }) (fun _ => undef) W (deps_of (by kernel_rfl)) ?_ ?_ ?_
          · intro f h hfg
            simp only [hfg 0 (by decide), hfg 1 (by decide), hfg 2 (by decide), hfg 3 (by decide), hfg 4 (by decide), hfg 5 (by decide), hfg 6 (by decide), hfg 7 (by decide), hfg 8 (by decide), hfg 9 (by decide), hfg 10 (by decide), hfg 11 (by decide), hfg 12 (by decide), hfg 13 (by decide), hfg 14 (by decide), hfg 15 (by decide), hfg 16 (by decide), hfg 17 (by decide), hfg 18 (by decide), hfg 19 (by decide)]
          · intro i hi o ho f hdeps K hK
            rcases (show i = 0 ∨ i = 1 ∨ i = 2 ∨ i = 3 ∨ i = 4 ∨ i = 5 ∨ i = 6 ∨ i = 7 ∨ i = 8 ∨ i = 9 ∨ i = 10 ∨ i = 11 ∨ i = 12 ∨ i = 13 ∨ i = 14 ∨ i = 15 ∨ i = 16 ∨ i = 17 ∨ i = 18 ∨ i = 19 by have : i < 20 := hi; omega) with rfl | rfl | rfl | rfl | rfl | rfl | rfl | rfl | rfl | rfl | rfl | rfl | rfl | rfl | rfl | rfl | rfl | rfl | rfl | rfl
            all_goals (simp at ho; subst ho; simp [Region.binds] at hdeps; simp [wpOpIn, Region.wanted, yielded, Oper.wpIn, Oper.semAt_some, execOp, Oper.uponIn, go_sem, hdeps, ck, cw, cp, k0, k1, k2, k3, x1, x2, x3, hqN, hqlI, hqn, hsd]; first | exact hK | (simp [upd, hdeps] at hK; exact hK))
          · gi_wp2
            exact ⟨kept_drew (kept_set _ HFX.out.res (by decide) _), rfl, HNL.out.2 (fun e => HTX.out (by cases e; exact ⟨rfl, rfl, rfl⟩))⟩
      · have hAI : ((ya : Int) != (xa : Int)) = true := by simp; omega
        have hAN : ¬ (ya : Int) = (xa : Int) := by omega
        have HA := Hid.mk' hA
        clear hA
        gi_wp2
        refine region_quiet (by kernel_rfl) (fun k => (#[.int .i64 (q : Int), .slice (some ⟨g, 0, none⟩) LL.length vc, .int .i64 (LL.length : Int), .bool false, .bool false, .slice (some ⟨gp, 0, none⟩) LL.length pc, .int .i64 (q : Int), .pointer (some ⟨gp, q, none⟩), .int .i64 (ya : Int), .int .i64 (xa : Int), .bool true, .bool true, .bool true, undef, undef, undef, undef, undef, undef, .bool true] : Array Value).getD k undef) (fun f => { tmps := #[.string s, .int .i64 leave, undef, undef, .pointer (some ⟨b, 0, none⟩), .pointer (some ⟨c, 0, none⟩), .pointer (some ⟨c + 1, 0, none⟩), .pointer (some ⟨c + 1 + 1 + 1, 0, none⟩), .pointer (some ⟨c + 1 + 1 + 1 + 1, 0, none⟩), .pointer (some ⟨c + 1 + 1 + 1 + 1 + 1, 0, none⟩), undef, undef, .int .i64 (xa : Int), .pointer (some ⟨X, 0, none⟩), undef, undef, undef, undef, undef, .tuple #[.slice (some ⟨gp, 0, none⟩) LL.length pc, .slice (some ⟨g, 0, none⟩) LL.length vc], .string s, .tuple #[.slice (some ⟨gp, 0, none⟩) LL.length pc, .slice (some ⟨g, 0, none⟩) LL.length vc], .slice (some ⟨gp, 0, none⟩) LL.length pc, .slice (some ⟨g, 0, none⟩) LL.length vc, .string s, .func (.func 27) #[] #[.pointer (some ⟨c + 1 + 1, 0, none⟩)], fnP c, .bool false, .int .i64 leave, .slice (some ⟨g, 0, none⟩) LL.length vc, .int .i64 (LL.length : Int), .int .i64 ((LL.length : Int) + 1), .int .i64 (stop : Int), fnP c, undef, undef, undef, undef, undef, undef, undef, undef, undef, undef, undef, undef, undef, undef, undef, undef, undef, undef, undef, undef, undef, undef, undef, undef, undef, undef, undef, .int .i64 (stop : Int), .int .i64 (stop : Int), .bool false, fnP c, .int .i64 (xa : Int), .agg #[.string xt, .int .i64 (xo : Int), .int .i64 (xl : Int)], f 0, f 1, f 2, f 3, f 4, f 5, f 6, f 7, f 8, f 9, f 10, f 11, f 12, f 13, f 14, f 15, f 16, f 17, f 18, f 19, undef, undef, undef, undef, undef, undef, undef, undef, undef, undef, undef, undef, undef, undef, undef, undef, undef, undef, undef, undef, undef, undef, undef, undef, undef, undef, undef, undef, undef, undef, undef, undef, undef, undef, undef, undef, undef, undef, undef, undef, undef, undef, undef, undef, undef, undef, undef, undef, undef, undef], defers := [] }) (fun _ => undef) W (deps_of (by kernel_rfl)) ?_ ?_ ?_
        · intro f h hfg
          simp only [hfg 0 (by decide), hfg 1 (by decide), hfg 2 (by decide), hfg 3 (by decide), hfg 4 (by decide), hfg 5 (by decide), hfg 6 (by decide), hfg 7 (by decide), hfg 8 (by decide), hfg 9 (by decide), hfg 10 (by decide), hfg 11 (by decide), hfg 12 (by decide), hfg 13 (by decide), hfg 14 (by decide), hfg 15 (by decide), hfg 16 (by decide), hfg 17 (by decide), hfg 18 (by decide), hfg 19 (by decide)]
        · intro i hi o ho f hdeps K hK
          rcases (show i = 0 ∨ i = 1 ∨ i = 2 ∨ i = 3 ∨ i = 4 ∨ i = 5 ∨ i = 6 ∨ i = 7 ∨ i = 8 ∨ i = 9 ∨ i = 10 ∨ i = 11 ∨ i = 12 ∨ i = 13 ∨ i = 14 ∨ i = 15 ∨ i = 16 ∨ i = 17 ∨ i = 18 ∨ i = 19 by have : i < 20 := hi; omega) with rfl | rfl | rfl | rfl | rfl | rfl | rfl | rfl | rfl | rfl | rfl | rfl | rfl | rfl | rfl | rfl | rfl | rfl | rfl | rfl
          all_goals (simp at ho; subst ho; simp [Region.binds] at hdeps; simp [wpOpIn, Region.wanted, yielded, Oper.wpIn, Oper.semAt_some, execOp, Oper.uponIn, go_sem, hdeps, ck, cw, cp, k0, k1, k2, k3, x1, x2, x3, hqN, hqlI, hqn, hAI, hAN]; first | exact hK | (simp [upd, hdeps] at hK; exact hK))
        · gi_wp2
          exact ⟨kept_drew (kept_set _ HFX.out.res (by decide) _), rfl, HNL.out.2 (fun e => HA.out (by cases e; rfl))⟩
    case stop2 =>
      rintro D2 cd pre W hD hpre ⟨rfl, hn⟩ hdef
      exact absurd hpre hn
    case done2 =>
      rintro D2 xs W hD rfl ⟨hfx, hk, _, hdf⟩ hdef
      refine HK2.out _ _ ?_
      rw [hLL] at hk
      have hnf2 := nil_func
      have HFX := Hid.mk' hfx
      have HK := Hid.mk' hk
      have HDD := Hid.mk' (And.intro hdf hdef)
      clear hfx hk hdf hdef
      gi_wp2_with (first | (refine ⟨trivial, ?_⟩; gi_at_call 17; refine (callsIn_wide.2 (parts_any ⟨#[16, 97, 1, 0, 0]⟩ _)).mono ?_; rintro e w' ⟨rfl, rfl⟩) | fail)
      obtain ⟨W4, hW4⟩ : ∃ W4, (W.alloc (.cells #[.int .i64 0] 3)).alloc (.cells #[.string ⟨#[16, 97, 1, 0, 0]⟩] 9) = W4 := ⟨_, rfl⟩
      have hf4 : Fy s b c (.slice pb LL.length pc) (.slice vb LL.length vc) LL stop w W4 := by
        rw [← hW4]
        exact (HFX.out.new (by omega) _).new (by omega) _
      have hk4 : Boxed W4 (c + 5) 3 (.int .i64 (LL.length : Int)) := by rw [← hW4]; exact (HK.out.alloc _).alloc _
      have hh4 : Boxed W4 W.heap.size 3 (.int .i64 0) := by rw [← hW4]; exact (Boxed.new W _ _).alloc _
      have ht4 : Boxed W4 (W.heap.size + 1) 9 (.string ⟨#[16, 97, 1, 0, 0]⟩) := by
        have := Boxed.new (W.alloc (.cells #[.int .i64 0] 3)) 9 (.string ⟨#[16, 97, 1, 0, 0]⟩)
        rw [hW4] at this
        simpa using this
      have hDW : D < W.heap.size := (Array.getElem?_eq_some_iff.1 HDD.out.1).1
      have hDW2 : D2 < W.heap.size := (Array.getElem?_eq_some_iff.1 HDD.out.2).1
      have hd4 : W4.heap[D]? = some (.deferred (some [])) := by
        rw [← hW4, Below.heap_alloc _ _ _ (by simp; omega), Below.heap_alloc _ _ _ hDW]
        exact HDD.out.1
      have he4 : W4.heap[D2]? = some (.deferred (some [])) := by
        rw [← hW4, Below.heap_alloc _ _ _ (by simp; omega), Below.heap_alloc _ _ _ hDW2]
        exact HDD.out.2
      have hz4 : W4.heap.size = W.heap.size + 2 := by rw [← hW4]; simp
      have hkl := HK.out.lt
      rw [hW4]
      clear hW4
      rename_i K4 hK4
      have HK4 := Hid.mk' hK4
      clear hK4
      refine wpIn_rangeW rfl (by omega) (gf := 27) (lb := #[.pointer (some ⟨W.heap.size + 1, 0, none⟩)]) rfl trivial (enters_of Try.func27 (by kernel_rfl) rfl)
        (parts_seqW 5 (W.heap.size + 1) ⟨#[16, 97, 1, 0, 0]⟩ (by decide) W4 (by omega) ht4.cell) (fun _ h => h.cells) KpP.t (fun W k o o' _ h h1 => KpP.put W k o o' h h1) (Below.refl _ _) (fun _ => rfl)
        (fun pre X => Fy s b c (.slice pb LL.length pc) (.slice vb LL.length vc) LL stop w X ∧ Boxed X (c + 5) 3 (.int .i64 (LL.length : Int)) ∧ Boxed X W.heap.size 3 (.int .i64 (pre.length : Int)) ∧ X.heap[D]? = some (.deferred (some [])) ∧ X.heap[D2]? = some (.deferred (some [])))
        (fun cd pre X => False)
        (fun pre X Y row h hg hr => ⟨h.1.ab (B := W4.heap.size) (by omega) (by omega) hg hr, box_ab h.2.1 hg hr (by decide), box_ab h.2.2.1 hg hr (by decide), (hg.block D (Array.getElem?_eq_some_iff.1 h.2.2.2.1).1 (fun e => by have := (hr D e.symm).1; omega)).trans h.2.2.2.1, (hg.block D2 (Array.getElem?_eq_some_iff.1 h.2.2.2.2).1 (fun e => by have := (hr D2 e.symm).1; omega)).trans h.2.2.2.2⟩)
        (fun cd pre X Y row h hg hr => h)
        ⟨hf4, hk4, hh4, hd4, he4⟩ (fun x a' X => a' = { tmps := #[.string s, .int .i64 leave, undef, undef, .pointer (some ⟨b, 0, none⟩), .pointer (some ⟨c, 0, none⟩), .pointer (some ⟨c + 1, 0, none⟩), .pointer (some ⟨c + 1 + 1 + 1, 0, none⟩), .pointer (some ⟨c + 1 + 1 + 1 + 1, 0, none⟩), .pointer (some ⟨c + 1 + 1 + 1 + 1 + 1, 0, none⟩), undef, undef, undef, undef, undef, undef, undef, .pointer (some ⟨W.heap.size, 0, none⟩), .func (.func 27) #[] #[.pointer (some ⟨W.heap.size + 1, 0, none⟩)], .tuple #[.slice pb LL.length pc, .slice vb LL.length vc], .string s, .tuple #[.slice pb LL.length pc, .slice vb LL.length vc], .slice pb LL.length pc, .slice vb LL.length vc, .string s, .func (.func 27) #[] #[.pointer (some ⟨c + 1 + 1, 0, none⟩)], fnP c, .bool false, .int .i64 leave, .slice vb LL.length vc, .int .i64 (LL.length : Int), .int .i64 ((LL.length : Int) + 1), .int .i64 (stop : Int), fnP c, undef, undef, undef, undef, undef, undef, undef, undef, undef, undef, undef, undef, undef, undef, undef, undef, undef, undef, undef, undef, undef, undef, undef, undef, undef, undef, undef, .int .i64 (stop : Int), .int .i64 (stop : Int), .bool false, fnP c, undef, undef, undef, undef, undef, undef, undef, undef, undef, undef, undef, undef, undef, undef, undef, undef, undef, undef, undef, undef, undef, undef, undef, undef, undef, undef, undef, undef, undef, undef, undef, undef, undef, undef, undef, undef, undef, undef, undef, undef, undef, undef, undef, undef, undef, undef, undef, undef, undef, undef, undef, undef, undef, undef, undef, undef, .func (.func 27) #[] #[.pointer (some ⟨W.heap.size + 1, 0, none⟩)], .func (.func 27) #[] #[.pointer (some ⟨W.heap.size + 1, 0, none⟩)], .bool false, .func (.func 27) #[] #[.pointer (some ⟨W.heap.size + 1, 0, none⟩)], .int .i64 (x.1 : Int), .agg #[.string x.2.1, .int .i64 (x.2.2.1 : Int), .int .i64 (x.2.2.2 : Int)], undef, undef, undef, undef, undef, undef, undef, undef, undef, undef], defers := [] }) (fun x a' _ X Y row h hg hr => h) ?assign4 ?body4 ?done4 ?stop4
      case assign4 =>
        intro l pre x X K hi hK
        simp only [encQ]
        gi_wp2
        exact hK _ _ (KeptW.refl _ _ _) (KpP.refl _) hi rfl
      case stop4 =>
        rintro D3 cd pre X hD3 hpre h hdef
        exact h.elim
      case body4 =>
        rintro l pre x a' X hl _ ⟨hfx, hk, hh, hdf, hde⟩ rfl hlen
        obtain ⟨xa, xt, xo, xl⟩ := x
        simp only at ⊢
        rw [show (ptL ⟨#[16, 97, 1, 0, 0]⟩).length = 2 from ptL_two] at hlen
        obtain ⟨p, hp⟩ : ∃ p, pre.length = p := ⟨_, rfl⟩
        rw [hp] at hh hlen
        have ck := hh.cell
        have fk := hh.frozen
        have HFY := Hid.mk' hfx
        have HKY := Hid.mk' hk
        have HHY := Hid.mk' hh
        have HDY := Hid.mk' (And.intro hdf hde)
        have HP := Hid.mk' hp
        clear hfx hk hh hdf hde hp
        gi_wp2
        exact ⟨kept_set _ HHY.out (by decide) _, kp_set HHY.out (by decide) _, HFY.out.setk HHY.out (by omega) hbc, HKY.out.other (by omega) _, by have := HHY.out.set (.int .i64 ((p : Int) + 1)); rw [List.length_append, HP.out]; exact this, (KeepsOthers.setCell X _ _).same D _ HDY.out.1 rfl, (KeepsOthers.setCell X _ _).same D2 _ HDY.out.2 rfl⟩
      case done4 =>
        rintro D3 xs X hD3 rfl ⟨hfx, hk, hh, hdf, hde⟩ hdg
        refine HK4.out _ _ ?_
        rw [show (ptL ⟨#[16, 97, 1, 0, 0]⟩).length = 2 from ptL_two] at hh
        have ck := hk.cell
        have ch := hh.cell
        have cw := hfx.want.cell
        have cr := hfx.res.cell
        have fr := hfx.res.frozen
        have hr1 := hfx.res.set (.bool true)
        have e1 := (KeepsOthers.setCell X ⟨b, 0, none⟩ (.bool true)).same D3 _ hdg rfl
        have e2 := (KeepsOthers.setCell X ⟨b, 0, none⟩ (.bool true)).same D2 _ hde rfl
        have e3 := (KeepsOthers.setCell X ⟨b, 0, none⟩ (.bool true)).same D _ hdf rfl
        have hbl := hfx.bel.setCell (p := ⟨b, 0, none⟩) (Nat.le_refl _) (.bool true)
        have HE := Hid.mk' (And.intro e1 (And.intro e2 (And.intro e3 (And.intro hr1 hbl))))
        clear hfx hk hh hdf hde hdg e1 e2 e3 hr1 hbl
        gi_wp2
        obtain ⟨X1, hX1⟩ : ∃ X1, X.setCell ⟨b, 0, none⟩ (.bool true) = X1 := ⟨_, rfl⟩
        have HE1 := HE.out
        rw [hX1] at HE1 ⊢
        obtain ⟨e1, e2, e3, hr1, hbl⟩ := HE1
        have f2 : (X1.putObj D3 (.deferred none)).heap[D2]? = some (.deferred (some [])) := (World.putObj_heap_other (by omega)).trans e2
        have f3 : ((X1.putObj D3 (.deferred none)).putObj D2 (.deferred none)).heap[D]? = some (.deferred (some [])) := (World.putObj_heap_other (by omega)).trans ((World.putObj_heap_other (by omega)).trans e3)
        have hbox : Boxed (((X1.putObj D3 (.deferred none)).putObj D2 (.deferred none)).putObj D (.deferred none)) b 4 (.bool true) := (World.putObj_heap_other (by omega)).trans ((World.putObj_heap_other (by omega)).trans ((World.putObj_heap_other (by omega)).trans hr1))
        have hcb := hbox.cell
        refine ⟨by simp, .inl ⟨_, _, rfl, run_takeDeferred e1, ?_⟩⟩
        refine ⟨by simp, .inl ⟨_, _, rfl, run_takeDeferred f2, ?_⟩⟩
        refine ⟨by simp, .inl ⟨_, _, rfl, run_takeDeferred f3, ?_⟩⟩
        refine ⟨.bool true, ?_, rfl, ?_⟩
        · simp [results, Try.f7, go_sem, hcb]
        · rw [hb]
          exact ⟨hbl.os, hbl.tape, hbl.output, by simpa using hbl.size, fun k hk => (World.putObj_heap_other (by omega)).trans ((World.putObj_heap_other (by omega)).trans ((World.putObj_heap_other (by omega)).trans (hbl.block k hk)))⟩

  have HREST := Hid.mk' rest
  clear rest
  refine wpIn_rangeW rfl (by omega) (gf := 27) (lb := #[.pointer (some ⟨c + 2, 0, none⟩)]) rfl trivial (enters_of Try.func27 (by kernel_rfl) rfl)
    (parts_seqW 5 (c + 2) s (by omega) W0 (by omega) hF0.txt.cell) (fun _ h => h.cells) KpP.t (fun W k o o' _ h h1 => KpP.put W k o o' h h1) (Below.refl _ _) (fun _ => rfl)
    (fun pre W => Fy s b c (.slice pb LL.length pc) (.slice vb LL.length vc) LL stop w W ∧ Boxed W (c + 5) 3 (.int .i64 (pre.length : Int)) ∧ pre <+: ptL s ∧ pre.length ≤ stop)
    (fun cd pre W => (cd = .ret ∧ ¬ pre <+: ptL s) ∨ (cd = .exit 0 ∧ Fy s b c (.slice pb LL.length pc) (.slice vb LL.length vc) LL stop w W ∧ Boxed W (c + 5) 3 (.int .i64 (stop : Int))))
    (fun pre X Y row h hg hr => ⟨h.1.ab (B := W0.heap.size) (by omega) (by omega) hg hr, box_ab h.2.1 hg hr (by decide), h.2.2⟩)
    (fun cd pre X Y row h hg hr => h.elim .inl fun h => .inr ⟨h.1, h.2.1.ab (B := W0.heap.size) (by omega) (by omega) hg hr, box_ab h.2.2 hg hr (by decide)⟩)
    ⟨hF0, hk0, List.nil_prefix, Nat.zero_le _⟩ (fun x a' W => ∃ X, a' = { tmps := #[.string s, .int .i64 leave, undef, undef, .pointer (some ⟨b, 0, none⟩), .pointer (some ⟨c, 0, none⟩), .pointer (some ⟨c + 1, 0, none⟩), .pointer (some ⟨c + 1 + 1 + 1, 0, none⟩), .pointer (some ⟨c + 1 + 1 + 1 + 1, 0, none⟩), .pointer (some ⟨c + 1 + 1 + 1 + 1 + 1, 0, none⟩), .int .i64 (x.1 : Int), .pointer (some ⟨X, 0, none⟩), undef, undef, undef, undef, undef, undef, undef, .tuple #[.slice pb LL.length pc, .slice vb LL.length vc], .string s, .tuple #[.slice pb LL.length pc, .slice vb LL.length vc], .slice pb LL.length pc, .slice vb LL.length vc, .string s, .func (.func 27) #[] #[.pointer (some ⟨c + 1 + 1, 0, none⟩)], fnP c, .bool false, .int .i64 leave, .slice vb LL.length vc, .int .i64 (LL.length : Int), .int .i64 ((LL.length : Int) + 1), .int .i64 (stop : Int), fnP c, .int .i64 (x.1 : Int), .agg #[.string x.2.1, .int .i64 (x.2.2.1 : Int), .int .i64 (x.2.2.2 : Int)], undef, undef, undef, undef, undef, undef, undef, undef, undef, undef, undef, undef, undef, undef, undef, undef, undef, undef, undef, undef, undef, undef, undef, undef, undef, undef, undef, undef, undef, undef, undef, undef, undef, undef, undef, undef, undef, undef, undef, undef, undef, undef, undef, undef, undef, undef, undef, undef, undef, undef, undef, undef, undef, undef, undef, undef, undef, undef, undef, undef, undef, undef, undef, undef, undef, undef, undef, undef, undef, undef, undef, undef, undef, undef, undef, undef, undef, undef, undef, undef, undef, undef, undef, undef, undef, undef, undef, undef, undef, undef, undef, undef, undef, undef, undef, undef, undef, undef, undef, undef, undef], defers := [] } ∧ Sb W X x) (fun x a' _ X Y row h hg hr => by obtain ⟨Z, rfl, hZ⟩ := h; exact ⟨Z, rfl, cells_ab hZ hg hr (by decide)⟩) ?assign1 ?body1 ?done1 ?stop1
  case assign1 =>
    intro l pre x W K hi hK
    simp only [encQ]
    gi_wp2
    exact hK _ _ (kept_new _ _ _) (kp_new _ _) ⟨hi.1.new (by omega) _, hi.2.1.alloc _, hi.2.2⟩ ⟨_, rfl, World.alloc_heap_new W _⟩
  case body1 =>
    rintro l pre x a' W hl _ ⟨hfx, hk, hpre, hqs⟩ ⟨X, rfl, hsb⟩ hlen
    rw [hLL] at hlen
    obtain ⟨y, hy⟩ : ∃ y, LL[pre.length]? = some y := ⟨_, List.getElem?_eq_getElem hlen⟩
    have hnl := pre_next (x := x) hpre (by rw [hLL]; exact hy)
    obtain ⟨q, hq⟩ : ∃ q, pre.length = q := ⟨_, rfl⟩
    rw [hq] at hk hqs hlen hy
    obtain ⟨xa, xt, xo, xl⟩ := x
    simp only at ⊢
    obtain ⟨x1, x2, x3⟩ := hsb.cells
    have ck := hk.cell
    have fk := hk.frozen
    have cs := hfx.stp.cell
    have cp := hfx.pls.cell
    have cw := hfx.want.cell
    have HQ := Hid.mk' hq
    have HFX := Hid.mk' hfx
    have HK := Hid.mk' hk
    have cr := hfx.res.cell
    have fr := hfx.res.frozen
    by_cases hsq : q = stop
    · subst hsq
      clear hfx hk hnl hq hsb
      gi_wp2
      exact ⟨KeptW.refl _ _ _, .inr ⟨rfl, HFX.out, HK.out⟩⟩
    · have hsqI : ((q : Int) == (stop : Int)) = false := by simp; omega
      have hqlI : ¬ (LL.length : Int) ≤ (q : Int) := by omega
      have hqlB : decide ((LL.length : Int) ≤ (q : Int)) = false := by simp; omega
      obtain ⟨gp, rfl⟩ := row_some hfx.rowp (by omega)
      obtain ⟨g, rfl⟩ := row_some hfx.rowo (by omega)
      obtain ⟨k0, k1, k2, k3⟩ := row_cells hfx.rowp hfx.rowo q y hy
      obtain ⟨ya, yt, yo, yl⟩ := y
      simp only at k0 k1 k2 k3 x1 x2 x3 hnl
      have HNL := Hid.mk' hnl
      have hqN : q < LL.length := hlen
      have hqn : ¬ LL.length ≤ q := by omega
      clear hfx hk hnl hq hy hlen hsb
      by_cases hA : ya = xa
      · subst hA
        have hAI : ((ya : Int) != (ya : Int)) = false := by simp
        by_cases hTx : yt = xt ∧ yo = xo ∧ yl = xl
        · obtain ⟨rfl, rfl, rfl⟩ := hTx
          have hsm := seq_same yt yo yl
          gi_wp2
          refine region_quiet (by kernel_rfl) (fun k => (#[.int .i64 (q : Int), .slice (some ⟨g, 0, none⟩) LL.length vc, .int .i64 (LL.length : Int), .bool false, .bool false, .slice (some ⟨gp, 0, none⟩) LL.length pc, .int .i64 (q : Int), .pointer (some ⟨gp, q, none⟩), .int .i64 (ya : Int), .int .i64 (ya : Int), .bool false, .bool false, .bool false, .slice (some ⟨g, 0, none⟩) LL.length vc, .int .i64 (q : Int), .pointer (some ⟨g, q * 3, none⟩), .agg #[.string yt, .int .i64 (yo : Int), .int .i64 (yl : Int)], .agg #[.string yt, .int .i64 (yo : Int), .int .i64 (yl : Int)], .bool false, .bool false] : Array Value).getD k undef) (fun f => { tmps := #[.string s, .int .i64 leave, undef, undef, .pointer (some ⟨b, 0, none⟩), .pointer (some ⟨c, 0, none⟩), .pointer (some ⟨c + 1, 0, none⟩), .pointer (some ⟨c + 1 + 1 + 1, 0, none⟩), .pointer (some ⟨c + 1 + 1 + 1 + 1, 0, none⟩), .pointer (some ⟨c + 1 + 1 + 1 + 1 + 1, 0, none⟩), .int .i64 (ya : Int), .pointer (some ⟨X, 0, none⟩), undef, undef, undef, undef, undef, undef, undef, .tuple #[.slice (some ⟨gp, 0, none⟩) LL.length pc, .slice (some ⟨g, 0, none⟩) LL.length vc], .string s, .tuple #[.slice (some ⟨gp, 0, none⟩) LL.length pc, .slice (some ⟨g, 0, none⟩) LL.length vc], .slice (some ⟨gp, 0, none⟩) LL.length pc, .slice (some ⟨g, 0, none⟩) LL.length vc, .string s, .func (.func 27) #[] #[.pointer (some ⟨c + 1 + 1, 0, none⟩)], fnP c, .bool false, .int .i64 leave, .slice (some ⟨g, 0, none⟩) LL.length vc, .int .i64 (LL.length : Int), .int .i64 ((LL.length : Int) + 1), .int .i64 (stop : Int), fnP c, .int .i64 (ya : Int), .agg #[.string yt, .int .i64 (yo : Int), .int .i64 (yl : Int)], .int .i64 (q : Int), .int .i64 (stop : Int), .bool false, f 0, f 1, f 2, f 3, f 4, f 5, f 6, f 7, f 8, f 9, f 10, f 11, f 12, f 13, f 14, f 15, f 16, f 17, f 18, f 19, undef, undef, undef, undef, undef, undef, undef, undef, undef, undef, undef, undef, undef, undef, undef, undef, undef, undef, undef, undef, undef, undef, undef, undef, undef, undef, undef, undef, undef, undef, undef, undef, undef, undef, undef, undef, undef, undef, undef, undef, undef, undef, undef, undef, undef, undef, undef, undef, undef, undef, undef, undef, undef, undef, undef, undef, undef, undef, undef, undef, undef, undef, undef, undef, undef, undef, undef, undef, undef, undef, undef, undef, undef, undef, undef, undef, undef, undef], defers := [] }) (fun _ => undef) W (deps_of (by kernel_rfl)) ?_ ?_ ?_
          · intro f h hfg
            simp only [hfg 0 (by decide), hfg 1 (by decide), hfg 2 (by decide), hfg 3 (by decide), hfg 4 (by decide), hfg 5 (by decide), hfg 6 (by decide), hfg 7 (by decide), hfg 8 (by decide), hfg 9 (by decide), hfg 10 (by decide), hfg 11 (by decide), hfg 12 (by decide), hfg 13 (by decide), hfg 14 (by decide), hfg 15 (by decide), hfg 16 (by decide), hfg 17 (by decide), hfg 18 (by decide), hfg 19 (by decide)]
          · intro i hi o ho f hdeps K hK
            rcases (show i = 0 ∨ i = 1 ∨ i = 2 ∨ i = 3 ∨ i = 4 ∨ i = 5 ∨ i = 6 ∨ i = 7 ∨ i = 8 ∨ i = 9 ∨ i = 10 ∨ i = 11 ∨ i = 12 ∨ i = 13 ∨ i = 14 ∨ i = 15 ∨ i = 16 ∨ i = 17 ∨ i = 18 ∨ i = 19 by have : i < 20 := hi; omega) with rfl | rfl | rfl | rfl | rfl | rfl | rfl | rfl | rfl | rfl | rfl | rfl | rfl | rfl | rfl | rfl | rfl | rfl | rfl | rfl
            all_goals (simp at ho; subst ho; simp [Region.binds] at hdeps; simp [wpOpIn, Region.wanted, yielded, Oper.wpIn, Oper.semAt_some, execOp, Oper.uponIn, go_sem, hdeps, ck, cw, cp, k0, k1, k2, k3, x1, x2, x3, hqN, hqlI, hqn, hsm]; first | exact hK | (simp [upd, hdeps] at hK; exact hK))
          · gi_wp2
            exact ⟨kept_drew (kept_set _ HK.out (by decide) _), kp_drew (kp_set HK.out (by decide) _), (HFX.out.setk HK.out (by omega) hbc).drew, by have := HK.out.set (.int .i64 ((q : Int) + 1)); rw [List.length_append, HQ.out]; exact this, HNL.out.1 trivial, by rw [List.length_append, HQ.out]; show q + 1 ≤ stop; omega⟩
        · have hsd := seq_diff _ _ _ _ _ _ hTx
          have HTX := Hid.mk' hTx
          clear hTx
          gi_wp2
          refine region_quiet (by kernel_rfl) (fun k => (#[.int .i64 (q : Int), .slice (some ⟨g, 0, none⟩) LL.length vc, .int .i64 (LL.length : Int), .bool false, .bool false, .slice (some ⟨gp, 0, none⟩) LL.length pc, .int .i64 (q : Int), .pointer (some ⟨gp, q, none⟩), .int .i64 (ya : Int), .int .i64 (ya : Int), .bool false, .bool false, .bool false, .slice (some ⟨g, 0, none⟩) LL.length vc, .int .i64 (q : Int), .pointer (some ⟨g, q * 3, none⟩), .agg #[.string yt, .int .i64 (yo : Int), .int .i64 (yl : Int)], .agg #[.string xt, .int .i64 (xo : Int), .int .i64 (xl : Int)], .bool true, .bool true] : Array Value).getD k undef) (fun f => { tmps := #[.string s, .int .i64 leave, undef, undef, .pointer (some ⟨b, 0, none⟩), .pointer (some ⟨c, 0, none⟩), .pointer (some ⟨c + 1, 0, none⟩), .pointer (some ⟨c + 1 + 1 + 1, 0, none⟩), .pointer (some ⟨c + 1 + 1 + 1 + 1, 0, none⟩), .pointer (some ⟨c + 1 + 1 + 1 + 1 + 1, 0, none⟩), .int .i64 (ya : Int), .pointer (some ⟨X, 0, none⟩), undef, undef, undef, undef, undef, undef, undef, .tuple #[.slice (some ⟨gp, 0, none⟩) LL.length pc, .slice (some ⟨g, 0, none⟩) LL.length vc], .string s, .tuple #[.slice (some ⟨gp, 0, none⟩) LL.length pc, .slice (some ⟨g, 0, none⟩) LL.length vc], .slice (some ⟨gp, 0, none⟩) LL.length pc, .slice (some ⟨g, 0, none⟩) LL.length vc, .string s, .func (.func 27) #[] #[.pointer (some ⟨c + 1 + 1, 0, none⟩)], fnP c, .bool false, .int .i64 leave, .slice (some ⟨g, 0, none⟩) LL.length vc, .int .i64 (LL.length : Int), .int .i64 ((LL.length : Int) + 1), .int .i64 (stop : Int), fnP c, .int .i64 (ya : Int), .agg #[.string xt, .int .i64 (xo : Int), .int .i64 (xl : Int)], .int .i64 (q : Int), .int .i64 (stop : Int), .bool false, f 0, f 1, f 2, f 3, f 4, f 5, f 6, f 7, f 8, f 9, f 10, f 11, f 12, f 13, f 14, f 15, f 16, f 17, f 18, f 19, undef, undef, undef, undef, undef, undef, undef, undef, undef, undef, undef, undef, undef, undef, undef, undef, undef, undef, undef, undef, undef, undef, undef, undef, undef, undef, undef, undef, undef, undef, undef, undef, undef, undef, undef, undef, undef, undef, undef, undef, undef, undef, undef, undef, undef, undef, undef, undef, undef, undef, undef, undef, undef, undef, undef, undef, undef, undef, undef, undef, undef, undef, undef, undef, undef, undef, undef, undef, undef, undef, undef, undef, undef, undef, undef, undef, undef, undef], defers := [] }) (fun _ => undef) W (deps_of (by kernel_rfl)) ?_ ?_ ?_
          · intro f h hfg
            simp only [hfg 0 (by decide), hfg 1 (by decide), hfg 2 (by decide), hfg 3 (by decide), hfg 4 (by decide), hfg 5 (by decide), hfg 6 (by decide), hfg 7 (by decide), hfg 8 (by decide), hfg 9 (by decide), hfg 10 (by decide), hfg 11 (by decide), hfg 12 (by decide), hfg 13 (by decide), hfg 14 (by decide), hfg 15 (by decide), hfg 16 (by decide), hfg 17 (by decide), hfg 18 (by decide), hfg 19 (by decide)]
          · intro i hi o ho f hdeps K hK
            rcases (show i = 0 ∨ i = 1 ∨ i = 2 ∨ i = 3 ∨ i = 4 ∨ i = 5 ∨ i = 6 ∨ i = 7 ∨ i = 8 ∨ i = 9 ∨ i = 10 ∨ i = 11 ∨ i = 12 ∨ i = 13 ∨ i = 14 ∨ i = 15 ∨ i = 16 ∨ i = 17 ∨ i = 18 ∨ i = 19 by have : i < 20 := hi; omega) with rfl | rfl | rfl | rfl | rfl | rfl | rfl | rfl | rfl | rfl | rfl | rfl | rfl | rfl | rfl | rfl | rfl | rfl | rfl | rfl
            all_goals (simp at ho; subst ho; simp [Region.binds] at hdeps; simp [wpOpIn, Region.wanted, yielded, Oper.wpIn, Oper.semAt_some, execOp, Oper.uponIn, go_sem, hdeps, ck, cw, cp, k0, k1, k2, k3, x1, x2, x3, hqN, hqlI, hqn, hsd]; first | exact hK | (simp [upd, hdeps] at hK; exact hK))
          · gi_wp2
            exact ⟨kept_drew (kept_set _ HFX.out.res (by decide) _), .inl ⟨rfl, HNL.out.2 (fun e => HTX.out (by cases e; exact ⟨rfl, rfl, rfl⟩))⟩⟩
      · have hAI : ((ya : Int) != (xa : Int)) = true := by simp; omega
        have hAN : ¬ (ya : Int) = (xa : Int) := by omega
        have HA := Hid.mk' hA
        clear hA
        gi_wp2
        refine region_quiet (by kernel_rfl) (fun k => (#[.int .i64 (q : Int), .slice (some ⟨g, 0, none⟩) LL.length vc, .int .i64 (LL.length : Int), .bool false, .bool false, .slice (some ⟨gp, 0, none⟩) LL.length pc, .int .i64 (q : Int), .pointer (some ⟨gp, q, none⟩), .int .i64 (ya : Int), .int .i64 (xa : Int), .bool true, .bool true, .bool true, undef, undef, undef, undef, undef, undef, .bool true] : Array Value).getD k undef) (fun f => { tmps := #[.string s, .int .i64 leave, undef, undef, .pointer (some ⟨b, 0, none⟩), .pointer (some ⟨c, 0, none⟩), .pointer (some ⟨c + 1, 0, none⟩), .pointer (some ⟨c + 1 + 1 + 1, 0, none⟩), .pointer (some ⟨c + 1 + 1 + 1 + 1, 0, none⟩), .pointer (some ⟨c + 1 + 1 + 1 + 1 + 1, 0, none⟩), .int .i64 (xa : Int), .pointer (some ⟨X, 0, none⟩), undef, undef, undef, undef, undef, undef, undef, .tuple #[.slice (some ⟨gp, 0, none⟩) LL.length pc, .slice (some ⟨g, 0, none⟩) LL.length vc], .string s, .tuple #[.slice (some ⟨gp, 0, none⟩) LL.length pc, .slice (some ⟨g, 0, none⟩) LL.length vc], .slice (some ⟨gp, 0, none⟩) LL.length pc, .slice (some ⟨g, 0, none⟩) LL.length vc, .string s, .func (.func 27) #[] #[.pointer (some ⟨c + 1 + 1, 0, none⟩)], fnP c, .bool false, .int .i64 leave, .slice (some ⟨g, 0, none⟩) LL.length vc, .int .i64 (LL.length : Int), .int .i64 ((LL.length : Int) + 1), .int .i64 (stop : Int), fnP c, .int .i64 (xa : Int), .agg #[.string xt, .int .i64 (xo : Int), .int .i64 (xl : Int)], .int .i64 (q : Int), .int .i64 (stop : Int), .bool false, f 0, f 1, f 2, f 3, f 4, f 5, f 6, f 7, f 8, f 9, f 10, f 11, f 12, f 13, f 14, f 15, f 16, f 17, f 18, f 19, undef, undef, undef, undef, undef, undef, undef, undef, undef, undef, undef, undef, undef, undef, undef, undef, undef, undef, undef, undef, undef, undef, undef, undef, undef, undef, undef, undef, undef, undef, undef, undef, undef, undef, undef, undef, undef, undef, undef, undef, undef, undef, undef, undef, undef, undef, undef, undef, undef, undef, undef, undef, undef, undef, undef, undef, undef, undef, undef, undef, undef, undef, undef, undef, undef, undef, undef, undef, undef, undef, undef, undef, undef, undef, undef, undef, undef, undef], defers := [] }) (fun _ => undef) W (deps_of (by kernel_rfl)) ?_ ?_ ?_
        · intro f h hfg
          simp only [hfg 0 (by decide), hfg 1 (by decide), hfg 2 (by decide), hfg 3 (by decide), hfg 4 (by decide), hfg 5 (by decide), hfg 6 (by decide), hfg 7 (by decide), hfg 8 (by decide), hfg 9 (by decide), hfg 10 (by decide), hfg 11 (by decide), hfg 12 (by decide), hfg 13 (by decide), hfg 14 (by decide), hfg 15 (by decide), hfg 16 (by decide), hfg 17 (by decide), hfg 18 (by decide), hfg 19 (by decide)]
        · intro i hi o ho f hdeps K hK
          rcases (show i = 0 ∨ i = 1 ∨ i = 2 ∨ i = 3 ∨ i = 4 ∨ i = 5 ∨ i = 6 ∨ i = 7 ∨ i = 8 ∨ i = 9 ∨ i = 10 ∨ i = 11 ∨ i = 12 ∨ i = 13 ∨ i = 14 ∨ i = 15 ∨ i = 16 ∨ i = 17 ∨ i = 18 ∨ i = 19 by have : i < 20 := hi; omega) with rfl | rfl | rfl | rfl | rfl | rfl | rfl | rfl | rfl | rfl | rfl | rfl | rfl | rfl | rfl | rfl | rfl | rfl | rfl | rfl
          all_goals (simp at ho; subst ho; simp [Region.binds] at hdeps; simp [wpOpIn, Region.wanted, yielded, Oper.wpIn, Oper.semAt_some, execOp, Oper.uponIn, go_sem, hdeps, ck, cw, cp, k0, k1, k2, k3, x1, x2, x3, hqN, hqlI, hqn, hAI, hAN]; first | exact hK | (simp [upd, hdeps] at hK; exact hK))
        · gi_wp2
          exact ⟨kept_drew (kept_set _ HFX.out.res (by decide) _), .inl ⟨rfl, HNL.out.2 (fun e => HA.out (by cases e; rfl))⟩⟩
  case done1 =>
    rintro D xs W hD rfl ⟨hfx, hk, _, hle⟩ hdef
    refine HREST.out D W (by omega) hfx ?_ hdef
    have : (ptL s).length = stop := by rw [hLL] at hle ⊢; omega
    rw [← this]
    exact hk
  case stop1 =>
    rintro D cd pre W hD hpre (⟨rfl, hn⟩ | ⟨rfl, hfx, hk⟩) hdef
    · exact absurd hpre hn
    · have HF := Hid.mk' (And.intro hfx (And.intro hk hdef))
      clear hfx hk hdef
      gi_wp2
      exact HREST.out D W (by omega) HF.out.1 HF.out.2.1 HF.out.2.2
end Go.Proofs.Ytkndpfpdanoalaa
