/-
  SwarLines answers true: every Lines, left early, again, within itself. Conditions: the text is of at most 1048576 bytes; the table of package math/bits lies as its text lays it.
-/
import Derived.Test.YthooefogbbnbaaaDoorRefLn
import Derived.Test.YthooefogbbnbaaaDoorRng
import Derived.Test.YthooefogbbnbaaaDoorPick
namespace Go.Proofs.YthooefogbbnbaaaDoor
open Go.RowKit Go.Shelf
set_option linter.unusedVariables false
attribute [local go_sem] Oper.semAt_some
theorem nil_func (fn : Fn) (first cap : Array Value) (w : World) : (binOp .eql 25 (.func fn first cap) .nilFunc).run Tryd.prog w = .ok (.bool false) w := by kernel_rfl
abbrev noW : Obj → Prop := fun _ => False
theorem lines_seqW (n : Nat) (hn : 1 ≤ n) (Bs n₀ : Nat) (s : ByteArray) (hs : s.size ≤ 140737488351232) (w : World) (hb : Bs < w.heap.size) (hn0 : n₀ ≤ w.heap.size) (h0 : 0 < n₀) (hT : Tab w)
    (hc : w.cell? ⟨Bs, 0, none⟩ = some (.string s)) :
    SeqW Fence.wide n Tryd.prog 7 #[.pointer (some ⟨Bs, 0, none⟩)] encL noW (KpL n₀ Bs) (fun ys => ys = lnL s) (fun pre => pre <+: lnL s) (lnL s).length w := fun l J Jx W hW hJ _ hY h0' =>
  lines1_in n hn l Bs n₀ s hs J Jx W
    (fun pre W1 m h => hJ pre W1 _ none h ⟨rfl, rfl, rfl, Nat.le_refl _, fun _ _ _ => rfl⟩ (fun r e => by cases e))
    (fun W' hW' i hi => (hW'.cell (p := ⟨0, i, none⟩) h0).trans (((hW.mono hn0).cell (p := ⟨0, i, none⟩) h0).trans (hT i hi)))
    hY ((hW.cell (p := ⟨Bs, 0, none⟩) hb).trans hc) h0'
abbrev fnL (c : Nat) : Value := .func (.func 7) #[] #[.pointer (some ⟨c + 1, 0, none⟩)]
/-- what stays through all loops -/
structure Fx (s : ByteArray) (b c : Nat) (v : Value) (stop : Nat) (w W : World) : Prop where
  res : Boxed W b 4 (.bool false)
  want : Boxed W c 22 v
  txt : Boxed W (c + 1) 9 (.string s)
  all : Boxed W (c + 2) 25 (fnL c)
  stp : Boxed W (c + 3) 3 (.int .i64 (stop : Int))
  row : Lrw W v (Swar.linesF s (s.size + 1) 0)
  bel : Below b w W
theorem box_ab {W W' : World} {row : Option Nat} {B B' : Nat} {t : TypeId} {v : Value} (h : Boxed W B' t v) (hg : W.grownBy W' row) (hr : ∀ r, row = some r → B ≤ r ∧ ∃ o : Obj, W.heap[r]? = some o ∧ (o.isCells = false ∨ noW o)) : Boxed W' B' t v := by
  refine h.kept hg ?_
  intro e
  obtain ⟨_, o, h1, h2⟩ := hr _ e.symm
  have h3 : W.heap[B']? = some (.cells #[v] t (0, 0)) := h
  rw [h3] at h1
  cases h1
  rcases h2 with h2 | h2
  · cases h2
  · exact h2
theorem Fx.ab {s : ByteArray} {b c : Nat} {v : Value} {stop : Nat} {w W W' : World} {row : Option Nat} {B : Nat} (hB : b ≤ B) (hbw : b ≤ w.heap.size) (h : Fx s b c v stop w W) (hg : W.grownBy W' row) (hr : ∀ r, row = some r → B ≤ r ∧ ∃ o : Obj, W.heap[r]? = some o ∧ (o.isCells = false ∨ noW o)) : Fx s b c v stop w W' := by
  refine ⟨box_ab h.res hg hr, box_ab h.want hg hr, box_ab h.txt hg hr, box_ab h.all hg hr, box_ab h.stp hg hr, h.row.keep ?_, ?_⟩
  · intro k cs fz hk
    rw [hg.block k (Array.getElem?_eq_some_iff.1 hk).1 ?_]
    · exact hk
    · intro e
      obtain ⟨_, o, h1, h2⟩ := hr _ e.symm
      rw [hk] at h1
      cases h1
      rcases h2 with h2 | h2
      · cases h2
      · exact h2
  · exact h.bel.trans ⟨hg.os, hg.tape, hg.output, hg.size, fun k hk => by
      by_cases e : some k = row
      · obtain ⟨h1, _⟩ := hr k e.symm
        omega
      · exact hg.block k (Nat.lt_of_lt_of_le hk (Nat.le_trans hbw h.bel.size)) e⟩
theorem store_last {P : Program} (X : World) (x v : Value) (t : TypeId) (n : Nat) (hn : n = X.heap.size) (hv : v.oneCell' = true) : (store ⟨n, 0, none⟩ v).run P (X.alloc (.cells #[x] t)) = .ok () (X.alloc (.cells #[v] t)) := by
  subst hn
  have h := Boxed.new X t x
  rw [run_store P _ _ v _ hv, h.cell, h.frozen]
  show Result.ok () _ = _
  rw [World.setCell_alloc_at _ _ _ _ _ rfl]
  rfl
theorem kpl_put {n₀ Bs B : Nat} (hn : n₀ ≤ B) (hb : Bs < B) (W : World) (k : Nat) (o o' : Obj) (hk : B ≤ k) (h : W.heap[k]? = some o) (h1 : o.isCells = false) : KpL n₀ Bs W (W.putObj k o') :=
  ⟨⟨rfl, rfl, rfl, by simp, fun i hi => World.putObj_heap_other (by omega)⟩, World.putObj_heap_other (by omega)⟩
theorem kpl_set {n₀ Bs k : Nat} (W : World) (u : Value) (hk : n₀ ≤ k) (hne : Bs ≠ k) : KpL n₀ Bs W (W.setCell ⟨k, 0, none⟩ u) :=
  ⟨(Below.refl _ _).setCell (p := ⟨k, 0, none⟩) hk _, by
    simp only [World.setCell, Array.getElem?_modify]
    rw [if_neg (by omega)]⟩
theorem kept_set (B : Nat) (W : World) (k : Nat) (u : Value) : KeptW B noW W (W.setCell ⟨k, 0, none⟩ u) :=
  ⟨by simp [World.setCell], fun i o _ h ho => by
    rcases ho with ho | ho
    · exact (KeepsOthers.setCell W ⟨k, 0, none⟩ u).same i o h ho
    · exact ho.elim⟩
theorem Fx.setk {s : ByteArray} {b c : Nat} {v : Value} {stop : Nat} {w W : World} {k0 u : Value} {K : Nat} (h : Fx s b c v stop w W) (hk : Boxed W K 3 k0) (hK : c + 4 ≤ K) (hbc : b < c) : Fx s b c v stop w (W.setCell ⟨K, 0, none⟩ u) := by
  refine ⟨h.res.other (by omega) _, h.want.other (by omega) _, h.txt.other (by omega) _, h.all.other (by omega) _, h.stp.other (by omega) _, h.row.keep ?_, h.bel.setCell (p := ⟨K, 0, none⟩) (by show b ≤ K; omega) _⟩
  intro i cs fz hi
  have hne : i ≠ K := by
    intro e
    subst e
    have h3 : W.heap[i]? = some (.cells #[k0] 3 (0, 0)) := hk
    rw [h3] at hi
    simp at hi
  simp only [World.setCell, Array.getElem?_modify]
  rw [if_neg (by omega)]
  exact hi
theorem kept_ab {B B' : Nat} {W X Y : World} {row : Option Nat} (h : KeptW B noW W X) (hg : X.grownBy Y row) (hr : ∀ r, row = some r → B' ≤ r ∧ ∃ o : Obj, X.heap[r]? = some o ∧ (o.isCells = false ∨ noW o)) (hB : W.heap.size ≤ B') : KeptW B noW W Y :=
  ⟨Nat.le_trans h.size hg.size, fun k o hk hw ho => by
    have h1 := h.same k o hk hw ho
    have hlt := (Array.getElem?_eq_some_iff.1 hw).1
    rw [hg.block k (Array.getElem?_eq_some_iff.1 h1).1 (fun e => by have := (hr k e.symm).1; omega)]
    exact h1⟩
theorem kpl_ab {n₀ Bs B' : Nat} {W X Y : World} {row : Option Nat} (h : KpL n₀ Bs W X) (hg : X.grownBy Y row) (hr : ∀ r, row = some r → B' ≤ r ∧ ∃ o : Obj, X.heap[r]? = some o ∧ (o.isCells = false ∨ noW o)) (hB : n₀ ≤ B') (hs : Bs < B') (hW : n₀ ≤ W.heap.size ∧ Bs < W.heap.size) : KpL n₀ Bs W Y := by
  have hz := h.1.size
  refine ⟨h.1.trans ⟨hg.os, hg.tape, hg.output, hg.size, fun k hk => hg.block k (by omega) (fun e => by have := (hr k e.symm).1; omega)⟩, ?_⟩
  rw [hg.block Bs (by omega) (fun e => by have := (hr Bs e.symm).1; omega)]
  exact h.2
theorem pre_next {α : Type} {pre L : List α} {x y : α} (h : pre <+: L) (hy : L[pre.length]? = some y) : (x = y → pre ++ [x] <+: L) ∧ (x ≠ y → ¬ pre ++ [x] <+: L) := by
  obtain ⟨t, rfl⟩ := h
  rw [List.getElem?_append_right (Nat.le_refl _), Nat.sub_self] at hy
  cases t with
  | nil => simp at hy
  | cons z t =>
    simp at hy
    subst hy
    refine ⟨fun e => by subst e; exact ⟨t, by simp⟩, fun e => ?_⟩
    rintro ⟨u, hu⟩
    rw [List.append_assoc] at hu
    have := List.append_cancel_left hu
    simp at this
    exact e this.1
theorem next_line (s : ByteArray) (hs : s.size ≤ 140737488351232) (pre : List Ln) (x : Ln) (y : Nat × ByteArray) (h : pre <+: lnL s) (hy : (Swar.linesF s (s.size + 1) 0)[pre.length]? = some y) : (x.1 = y → pre ++ [x] <+: lnL s) ∧ (x.1 ≠ y → ¬ pre ++ [x] <+: lnL s) := by
  have hv : (toLn y).1 = y := toLn_val y (by have := lines_in s _ _ y (List.mem_of_getElem? hy); omega)
  have hy2 : (lnL s)[pre.length]? = some (toLn y) := by unfold lnL; rw [List.getElem?_map, hy]; rfl
  obtain ⟨h1, h2⟩ := pre_next (x := x) h hy2
  refine ⟨fun e => h1 (Subtype.ext (e.trans hv.symm)), fun e => h2 (fun e2 => e (by rw [e2]; exact hv))⟩
theorem texts_ne {a b : ByteArray} (h : ¬ a = b) : (a.toList == b.toList) = false := by
  rw [beq_eq_false_iff_ne]
  intro e
  rw [ByteArray.toList_eq, ByteArray.toList_eq] at e
  exact h (ByteArray.ext (Array.toList_inj.1 e))
theorem lnL_ab : (lnL ⟨#[97, 10, 98]⟩).length = 2 := by decide +kernel
theorem lnL_len (s : ByteArray) : (lnL s).length = (Swar.linesF s (s.size + 1) 0).length := by unfold lnL; simp
theorem lines_few (s : ByteArray) : (Swar.linesF s (s.size + 1) 0).length ≤ s.size := by
  cases h : (Swar.linesF s (s.size + 1) 0).getLast? with
  | none =>
    rw [List.getLast?_eq_none_iff] at h
    rw [h]
    exact Nat.zero_le _
  | some x =>
    obtain ⟨q, hq⟩ := List.getLast?_eq_some_iff.1 h
    have := Swar.lines_pre s _ _ q x (by rw [hq]; exact List.prefix_refl _)
    rw [hq]
    simp
    omega
set_option maxRecDepth 100000 in
set_option maxHeartbeats 4000000 in
theorem swarLines_any (s : ByteArray) (leave : Int) (w : World) (hs : s.size ≤ 1048576) (hl0 : -9223372036854775808 ≤ leave) (hl1 : leave ≤ 9223372036854775807) (ht : Tab w) :
    Calls Tryd.prog 3 #[.string s, .int .i64 leave] w fun e w' => e = .returned (.bool true) ∧ Below w.heap.size w w' := by
  refine (callsIn_wide (n := 6)).1 ?_
  have h0w : 0 < w.heap.size := World.block_lt_of_cell? w ⟨0, 0, none⟩ (ht 0 (by omega))
  obtain ⟨b, hb⟩ : ∃ b, w.heap.size = b := ⟨_, rfl⟩
  have hnf := nil_func
  have HRF := Hid.mk' (fun w => refLines_any s w (by omega))
  obtain ⟨LL, hLL⟩ : ∃ LL, Swar.linesF s (s.size + 1) 0 = LL := ⟨_, rfl⟩
  rw [hLL] at HRF
  have hLn : LL.length ≤ 1048576 := by rw [← hLL]; have := lines_few s; omega
  refine callsIn_of_wp_marks Tryd.func3 rfl trivial ?_ rfl
  simp only [Tryd.ntmps3, List.size_toArray, List.length_cons, List.length_nil, Nat.reduceAdd, Nat.reduceSub, Array.replicate_succ, Array.replicate_zero, List.push_toArray, List.append_toArray, List.nil_append, List.cons_append]
  gi_wp2_with (first | (refine ⟨trivial, ?_⟩; gi_at_call 4; refine (callsIn_wide.2 (HRF.out _)).mono ?_; rintro e w1 ⟨v, rfl, hrow, hbel1⟩; obtain ⟨vb, vc, rfl⟩ := hrow.shape; have hst := store_last (P := Tryd.prog) ((w1.alloc (.cells #[.slice vb LL.length vc] 22)).alloc (.cells #[.string s] 9)) .nilFunc (fnL w1.heap.size) 25 (w1.heap.size + 1 + 1) (by simp) rfl; have HROW := Hid.mk' hrow; have HB1 := Hid.mk' hbel1; clear hrow hbel1) | (refine ⟨trivial, ?_⟩; gi_at_call 5; refine (callsIn_wide.2 (lines_any s _)).mono ?_; rintro e w' ⟨rfl, rfl⟩) | (refine ⟨trivial, ?_⟩; gi_at_call 6; refine (callsIn_wide.2 (pick_any leave _ _ (by omega) (by omega) hl0 hl1)).mono ?_; rintro e w5 ⟨⟨stop, hstop, rfl⟩, rfl⟩) | fail)
  obtain ⟨c, hc⟩ : ∃ c, w1.heap.size = c := ⟨_, rfl⟩
  rw [hc]
  obtain ⟨W0, hW0⟩ : ∃ W0, (((((w1.alloc (.cells #[.slice vb LL.length vc] 22)).alloc (.cells #[.string s] 9)).alloc (.cells #[fnL c] 25)).alloc (.cells #[.int .i64 (stop : Int)] 3)).alloc (.cells #[.int .i64 0] 3)) = W0 := ⟨_, rfl⟩
  have hz : W0.heap.size = c + 5 := by rw [← hW0, ← hc]; simp
  have hbc : b < c := by have := HB1.out.size; simp at this; omega
  have hbx : Boxed w1 b 4 (.bool false) := by
    have := HB1.out.block b (by simp; omega)
    unfold Boxed
    rw [this, ← hb]
    exact World.alloc_heap_new w _
  have hB1 : Below b w w1 := by
    have h1 := HB1.out
    exact ((Below.refl b w).alloc (by omega) _).trans ⟨h1.os, h1.tape, h1.output, h1.size, fun k hk => h1.block k (by simp; omega)⟩
  have hB0 : Below b w W0 := by
    rw [← hW0]
    exact (((((hB1.alloc (by omega) _).alloc (by simp; omega) _).alloc (by simp; omega) _).alloc (by simp; omega) _).alloc (by simp; omega) _)
  have hF0 : Fx s b c (.slice vb LL.length vc) stop w W0 := by
    refine ⟨?_, ?_, ?_, ?_, ?_, ?_, hB0⟩
    · rw [← hW0]
      exact ((((hbx.alloc _).alloc _).alloc _).alloc _).alloc _
    · rw [← hW0, ← hc]
      exact ((((Boxed.new w1 _ _).alloc _).alloc _).alloc _).alloc _
    · have := (((Boxed.new (w1.alloc (.cells #[.slice vb LL.length vc] 22)) 9 (.string s)).alloc (.cells #[fnL c] 25)).alloc (.cells #[.int .i64 (stop : Int)] 3)).alloc (.cells #[.int .i64 0] 3)
      rw [hW0] at this
      simpa [hc] using this
    · have := ((Boxed.new ((w1.alloc (.cells #[.slice vb LL.length vc] 22)).alloc (.cells #[.string s] 9)) 25 (fnL c)).alloc (.cells #[.int .i64 (stop : Int)] 3)).alloc (.cells #[.int .i64 0] 3)
      rw [hW0] at this
      simpa [hc] using this
    · have := (Boxed.new (((w1.alloc (.cells #[.slice vb LL.length vc] 22)).alloc (.cells #[.string s] 9)).alloc (.cells #[fnL c] 25)) 3 (.int .i64 (stop : Int))).alloc (.cells #[.int .i64 0] 3)
      rw [hW0] at this
      simpa [hc] using this
    · rw [hLL]
      refine HROW.out.keep fun k cs fz hk => ?_
      have hlt := (Array.getElem?_eq_some_iff.1 hk).1
      rw [← hW0, Below.heap_alloc _ _ _ (by simp; omega), Below.heap_alloc _ _ _ (by simp; omega), Below.heap_alloc _ _ _ (by simp; omega), Below.heap_alloc _ _ _ (by simp; omega), Below.heap_alloc _ _ _ hlt]
      exact hk
  have hk0 : Boxed W0 (c + 4) 3 (.int .i64 0) := by
    have := Boxed.new ((((w1.alloc (.cells #[.slice vb LL.length vc] 22)).alloc (.cells #[.string s] 9)).alloc (.cells #[fnL c] 25)).alloc (.cells #[.int .i64 (stop : Int)] 3)) 3 (.int .i64 0)
    rw [hW0] at this
    simpa [hc] using this
  rw [hW0]
  have hT0 : Tab W0 := fun i h => ((hB0.cell (p := ⟨0, i, none⟩) (by show 0 < b; omega)).trans (ht i h))
  have hstp : stop ≤ LL.length := by omega
  clear hW0 HB1 HROW hst HRF hbx hB1
  rename_i K hK
  have HKR := Hid.mk' hK
  clear hK
  have rest : ∀ (D : Nat) (W : World), c + 5 ≤ D → Fx s b c (.slice vb LL.length vc) stop w W → Boxed W (c + 4) 3 (.int .i64 (stop : Int)) → W.heap[D]? = some (.deferred (some [])) → K { tmps := #[.string s, .int .i64 leave, undef, undef, .pointer (some ⟨b, 0, none⟩), .pointer (some ⟨c, 0, none⟩), .pointer (some ⟨c + 1 + 1, 0, none⟩), .pointer (some ⟨c + 1 + 1 + 1, 0, none⟩), .pointer (some ⟨c + 1 + 1 + 1 + 1, 0, none⟩), undef, undef, undef, undef, undef, undef, undef, undef, undef, .string s, .slice vb LL.length vc, .string s, .func (.func 7) #[] #[.pointer (some ⟨c + 1, 0, none⟩)], fnL c, .bool false, .int .i64 leave, .slice vb LL.length vc, .int .i64 (LL.length : Int), .int .i64 ((LL.length : Int) + 1), .int .i64 (stop : Int), fnL c, undef, undef, undef, undef, undef, undef, undef, undef, undef, undef, undef, undef, undef, undef, undef, undef, undef, undef, undef, undef, undef, undef, undef, undef, undef, undef, undef, undef, undef, undef, undef, undef, undef, undef, undef, undef, undef, undef, undef, undef, undef, undef, undef, undef, undef, undef, undef, undef, undef, undef, undef, undef, undef, undef, undef, undef, undef, undef, undef, undef, undef, undef, undef, undef, undef, undef, undef, undef, undef, undef, undef, undef, undef, undef, undef, undef, undef, undef, undef, undef, undef, undef, undef, undef, undef, undef, undef, undef, undef, undef, undef, undef, undef, undef, undef, undef, undef, undef, undef, undef, undef, undef, undef, undef, undef, undef, undef, undef, undef], defers := [{ target := .collected D, args := #[] }] } W := by
    intro D W hD hfx hk hdef
    refine HKR.out _ _ ?_
    have ck := hk.cell
    have fk := hk.frozen
    have cs := hfx.stp.cell
    have ca := hfx.all.cell
    have HFX := Hid.mk' hfx
    have HK := Hid.mk' hk
    have hca : ∀ u, (W.setCell ⟨c + 4, 0, none⟩ u).cell? ⟨c + 2, 0, none⟩ = some (fnL c) := fun u => (hfx.all.other (by omega) u).cell
    have hkz := hk.set (.int .i64 0)
    have hf2 := hfx.setk (u := .int .i64 0) hk (by omega) hbc
    have hd2 := (KeepsOthers.setCell W ⟨c + 4, 0, none⟩ (.int .i64 0)).same D _ hdef rfl
    have hDlt := (Array.getElem?_eq_some_iff.1 hd2).1
    have HW2 := Hid.mk' (And.intro hf2 (And.intro hkz hd2))
    clear hfx hk hkz hf2 hd2 hdef
    gi_wp2
    clear ck fk cs ca hca
    obtain ⟨W2, hW2⟩ : ∃ W2, W.setCell ⟨c + 1 + 1 + 1 + 1, 0, none⟩ (.int .i64 0) = W2 := ⟨_, rfl⟩
    obtain ⟨hf2, hk2, hd2⟩ := HW2.out
    rw [show c + 4 = c + 1 + 1 + 1 + 1 by rfl, hW2] at hf2 hk2 hd2 hDlt
    rw [hW2]
    clear HW2 hW2 HFX HK
    have hT2 : Tab W2 := fun i h => ((hf2.bel.cell (p := ⟨0, i, none⟩) (by show 0 < b; omega)).trans (ht i h))
    have hz2 : c + 5 ≤ W2.heap.size := hk2.lt
    rename_i K2 hK2
    have HK2 := Hid.mk' hK2
    clear hK2
    refine wpIn_rangeW rfl (by omega) (gf := 7) (lb := #[.pointer (some ⟨c + 1, 0, none⟩)]) rfl trivial (enters_of Tryd.func7 (by kernel_rfl) rfl)
      (lines_seqW 5 (by omega) (c + 1) b s (by omega) W2 (by omega) (by omega) (by omega) hT2 hf2.txt.cell) (fun _ h => h.elim) KpL.t (kpl_put (by omega) (by omega)) (Below.refl _ _) (fun _ => rfl)
      (fun pre W => Fx s b c (.slice vb LL.length vc) stop w W ∧ Boxed W (c + 4) 3 (.int .i64 (pre.length : Int)) ∧ pre <+: lnL s ∧ W.heap[D]? = some (.deferred (some [])))
      (fun cd pre W => cd = .ret ∧ ¬ pre <+: lnL s)
      (fun pre X Y row h hg hr => ⟨h.1.ab (B := W2.heap.size) (by omega) (by omega) hg hr, box_ab h.2.1 hg hr, h.2.2.1, (hg.block D (Array.getElem?_eq_some_iff.1 h.2.2.2).1 (fun e => by have := (hr D e.symm).1; omega)).trans h.2.2.2⟩)
      (fun cd pre X Y row h hg hr => h)
      ⟨hf2, hk2, List.nil_prefix, hd2⟩ (fun x a' W => a' = { tmps := #[.string s, .int .i64 leave, undef, undef, .pointer (some ⟨b, 0, none⟩), .pointer (some ⟨c, 0, none⟩), .pointer (some ⟨c + 1 + 1, 0, none⟩), .pointer (some ⟨c + 1 + 1 + 1, 0, none⟩), .pointer (some ⟨c + 1 + 1 + 1 + 1, 0, none⟩), undef, undef, .int .i64 (x.1.1 : Int), .string x.1.2, undef, undef, undef, undef, undef, .string s, .slice vb LL.length vc, .string s, .func (.func 7) #[] #[.pointer (some ⟨c + 1, 0, none⟩)], fnL c, .bool false, .int .i64 leave, .slice vb LL.length vc, .int .i64 (LL.length : Int), .int .i64 ((LL.length : Int) + 1), .int .i64 (stop : Int), fnL c, undef, undef, undef, undef, undef, undef, undef, undef, undef, undef, undef, undef, undef, undef, undef, undef, undef, undef, undef, undef, undef, undef, undef, undef, undef, undef, undef, undef, undef, .int .i64 (stop : Int), .int .i64 (stop : Int), .bool false, fnL c, .int .i64 (x.1.1 : Int), .string x.1.2, undef, undef, undef, undef, undef, undef, undef, undef, undef, undef, undef, undef, undef, undef, undef, undef, undef, undef, undef, undef, undef, undef, undef, undef, undef, undef, undef, undef, undef, undef, undef, undef, undef, undef, undef, undef, undef, undef, undef, undef, undef, undef, undef, undef, undef, undef, undef, undef, undef, undef, undef, undef, undef, undef, undef, undef, undef, undef, undef, undef, undef, undef, undef, undef, undef, undef, undef, undef, undef, undef, undef, undef, undef, undef], defers := [] }) (fun x a' _ X Y row h hg hr => h) ?assign2 ?body2 ?done2 ?stop2
    case assign2 =>
      intro l pre x W K hi hK
      simp only [encL]
      gi_wp2
      exact hK _ _ (KeptW.refl _ _ _) ⟨Below.refl _ _, rfl⟩ hi rfl
    case body2 =>
      rintro l pre x a' W hl ⟨rl, hrl⟩ ⟨hfx, hk, hpre, hdf⟩ rfl hlen
      rw [lnL_len, hLL] at hlen
      obtain ⟨y, hy⟩ : ∃ y, LL[pre.length]? = some y := ⟨_, List.getElem?_eq_getElem hlen⟩
      have hnl := next_line s (by omega) pre x y hpre (by rw [hLL]; exact hy)
      obtain ⟨q, hq⟩ : ∃ q, pre.length = q := ⟨_, rfl⟩
      rw [hq] at hk hlen hy
      obtain ⟨⟨xa, xt⟩, hxb⟩ := x
      simp only at hxb ⊢
      have ck := hk.cell
      have fk := hk.frozen
      have cs := hfx.stp.cell
      have cw := hfx.want.cell
      have HQ := Hid.mk' hq
      have HFX := Hid.mk' hfx
      have HK := Hid.mk' hk
      have HDF := Hid.mk' hdf
      have HRL := Hid.mk' hrl
      have cr := hfx.res.cell
      have fr := hfx.res.frozen
      have ca := hfx.all.cell
      have hca2 : ∀ o, (W.alloc o).cell? ⟨c + 2, 0, none⟩ = some (fnL c) := fun o => (hfx.all.alloc o).cell
      have hqlI : ¬ (LL.length : Int) ≤ (q : Int) := by omega
      have hqlB : decide ((LL.length : Int) ≤ (q : Int)) = false := by simp; omega
      have hsome : ∃ g, vb = some ⟨g, 0, none⟩ := by
        have h := hfx.row
        rw [hLL] at h
        rcases h with ⟨h, h1⟩ | ⟨g, _, _, _, h, _⟩
        · rw [h1] at hlen
          simp at hlen
        · simp only [Value.slice.injEq] at h
          exact ⟨g, h.1⟩
      obtain ⟨g, rfl⟩ := hsome
      have hrow := hfx.row
      rw [hLL] at hrow
      obtain ⟨k1, k2⟩ := hrow.cells q y hy
      obtain ⟨ya, yt⟩ := y
      simp only at k1 k2 hnl
      have HNL := Hid.mk' hnl
      have hqN : q < LL.length := hlen
      clear hfx hk hrow hnl hq hy hlen hdf hrl
      by_cases hA : ya = xa
      · subst hA
        have hAI : ((ya : Int) != (ya : Int)) = false := by simp
        by_cases hTx : yt = xt
        · subst hTx
          by_cases hsq : q = stop
          · have hsqI : ((q : Int) == (stop : Int)) = true := by simp; omega
            have HSQ := Hid.mk' hsq
            clear hsq
            gi_wp2
            clear ck fk cs cw cr fr ca hca2 k1 k2
            obtain ⟨W3, hW3⟩ : ∃ W3, W.alloc (.cells #[.int .i64 0] 3) = W3 := ⟨_, rfl⟩
            have hf3 : Fx s b c (.slice (some ⟨g, 0, none⟩) LL.length vc) stop w W3 := by
              rw [← hW3]
              exact HFX.out.ab (B := W2.heap.size) (by omega) (by omega) (World.grownBy_alloc W _ none) (fun r e => by cases e)
            have hk3 : Boxed W3 (c + 4) 3 (.int .i64 (q : Int)) := by rw [← hW3]; exact HK.out.alloc _
            have hi3 : Boxed W3 W.heap.size 3 (.int .i64 0) := by rw [← hW3]; exact Boxed.new W _ _
            have hd3 : W3.heap[D]? = some (.deferred (some [])) := by
              rw [← hW3, Below.heap_alloc _ _ _ (Array.getElem?_eq_some_iff.1 HDF.out).1]
              exact HDF.out
            have hl3 : W3.heap[l]? = some (.loop rl) := by
              rw [← hW3, Below.heap_alloc _ _ _ (Array.getElem?_eq_some_iff.1 HRL.out).1]
              exact HRL.out
            have hz3 : W3.heap.size = W.heap.size + 1 := by rw [← hW3]; simp
            have hkk3 : KeptW W2.heap.size noW W W3 := by
              rw [← hW3]
              exact ⟨by simp, fun i o _ h _ => (Below.heap_alloc _ _ _ (Array.getElem?_eq_some_iff.1 h).1).trans h⟩
            have hkl := HK.out.lt
            have hDW : D < W.heap.size := (Array.getElem?_eq_some_iff.1 HDF.out).1
            have hkp3 : KpL b (c + 1) W W3 := by
              rw [← hW3]
              exact ⟨(Below.refl _ _).alloc (by omega) _, Below.heap_alloc _ _ _ (by omega)⟩
            have hT3 : Tab W3 := fun i h => ((hf3.bel.cell (p := ⟨0, i, none⟩) (by show 0 < b; omega)).trans (ht i h))
            rw [hW3]
            clear hW3
            refine wpIn_rangeW_in (l₀ := l) (r₀ := rl) rfl hl3 (by omega) (gf := 7) (lb := #[.pointer (some ⟨c + 1, 0, none⟩)]) rfl trivial (enters_of Tryd.func7 (by kernel_rfl) rfl)
              (show SeqW (Fence.wide.inRound l) 3 Tryd.prog 7 #[.pointer (some ⟨c + 1, 0, none⟩)] encL noW (KpL b (c + 1)) (fun ys => ys = lnL s) (fun pre => pre <+: lnL s) (lnL s).length W3 from lines_seqW 3 (by omega) (c + 1) b s (by omega) W3 (by omega) (by omega) (by omega) hT3 hf3.txt.cell) (fun _ h => h.elim) KpL.t (kpl_put (by omega) (by omega)) (Below.refl _ _) (fun _ => rfl)
              (fun qre X => Fx s b c (.slice (some ⟨g, 0, none⟩) LL.length vc) stop w X ∧ Boxed X (c + 4) 3 (.int .i64 (q : Int)) ∧ Boxed X W.heap.size 3 (.int .i64 (qre.length : Int)) ∧ qre <+: lnL s ∧ X.heap[D]? = some (.deferred (some [])) ∧ KeptW W2.heap.size noW W X ∧ KpL b (c + 1) W X)
              (fun cd qre X => cd = .ret ∧ ¬ qre <+: lnL s)
              (fun qre X Y row h hg hr => ⟨h.1.ab (B := W3.heap.size) (by omega) (by omega) hg hr, box_ab h.2.1 hg hr, box_ab h.2.2.1 hg hr, h.2.2.2.1, (hg.block D (Array.getElem?_eq_some_iff.1 h.2.2.2.2.1).1 (fun e => by have := (hr D e.symm).1; omega)).trans h.2.2.2.2.1, kept_ab h.2.2.2.2.2.1 hg hr (by omega), kpl_ab h.2.2.2.2.2.2 hg hr (by omega) (by omega) (by omega)⟩)
              (fun cd qre X Y row h hg hr => h)
              ⟨hf3, hk3, hi3, List.nil_prefix, hd3, hkk3, hkp3⟩ (fun x a' X => a' = { tmps := #[.string s, .int .i64 leave, undef, undef, .pointer (some ⟨b, 0, none⟩), .pointer (some ⟨c, 0, none⟩), .pointer (some ⟨c + 1 + 1, 0, none⟩), .pointer (some ⟨c + 1 + 1 + 1, 0, none⟩), .pointer (some ⟨c + 1 + 1 + 1 + 1, 0, none⟩), undef, undef, .int .i64 (ya : Int), .string yt, .pointer (some ⟨W.heap.size, 0, none⟩), .int .i64 (x.1.1 : Int), .string x.1.2, undef, undef, .string s, .slice (some ⟨g, 0, none⟩) LL.length vc, .string s, .func (.func 7) #[] #[.pointer (some ⟨c + 1, 0, none⟩)], fnL c, .bool false, .int .i64 leave, .slice (some ⟨g, 0, none⟩) LL.length vc, .int .i64 (LL.length : Int), .int .i64 ((LL.length : Int) + 1), .int .i64 (stop : Int), fnL c, undef, undef, undef, undef, undef, undef, undef, undef, undef, undef, undef, undef, undef, undef, undef, undef, undef, undef, undef, undef, undef, undef, undef, undef, undef, undef, undef, undef, undef, .int .i64 (stop : Int), .int .i64 (stop : Int), .bool false, fnL c, .int .i64 (ya : Int), .string yt, .int .i64 (q : Int), .slice (some ⟨g, 0, none⟩) LL.length vc, .int .i64 (LL.length : Int), .bool false, .bool false, .slice (some ⟨g, 0, none⟩) LL.length vc, .int .i64 (q : Int), .pointer (some ⟨g, q * 2, none⟩), .pointer (some ⟨g, q * 2, none⟩), .int .i64 (ya : Int), .int .i64 (ya : Int), .bool false, .bool false, .bool false, .slice (some ⟨g, 0, none⟩) LL.length vc, .int .i64 (q : Int), .pointer (some ⟨g, q * 2, none⟩), .pointer (some ⟨g, q * 2 + 1, none⟩), .string yt, .string yt, .bool false, .bool false, .int .i64 (q : Int), .int .i64 (stop : Int), .bool true, fnL c, .int .i64 (x.1.1 : Int), .string x.1.2, undef, undef, undef, undef, undef, undef, undef, undef, undef, undef, undef, undef, undef, undef, undef, undef, undef, undef, undef, undef, undef, undef, undef, undef, undef, undef, undef, undef, undef, undef, undef, undef, undef, undef, undef, undef, undef, undef, undef, undef, undef, undef, undef, undef, undef, undef], defers := [] }) (fun x a' _ X Y row h hg hr => h) ?assign3 ?body3 ?done3 ?stop3
            case assign3 =>
              intro l2 qre x X K hi hK
              simp only [encL]
              gi_wp2
              exact hK _ _ (KeptW.refl _ _ _) ⟨Below.refl _ _, rfl⟩ hi rfl
            case stop3 =>
              rintro cd qre X hpre ⟨rfl, hn⟩
              exact absurd hpre hn
            case body3 =>
              rintro l2 qre x a' X hl2 _ ⟨hfx, hk, hib, hpre, hdf, hkk, hkp⟩ rfl hlen
              rw [lnL_len, hLL] at hlen
              obtain ⟨y, hy⟩ : ∃ y, LL[qre.length]? = some y := ⟨_, List.getElem?_eq_getElem hlen⟩
              have hnl := next_line s (by omega) qre x y hpre (by rw [hLL]; exact hy)
              obtain ⟨p, hp⟩ : ∃ p, qre.length = p := ⟨_, rfl⟩
              rw [hp] at hib hlen hy
              obtain ⟨⟨xa, xt⟩, hxb2⟩ := x
              simp only at hxb2 ⊢
              have ck := hib.cell
              have fk := hib.frozen
              have cw := hfx.want.cell
              have cr := hfx.res.cell
              have fr := hfx.res.frozen
              have HP := Hid.mk' hp
              have HFY := Hid.mk' hfx
              have HKY := Hid.mk' hk
              have HIB := Hid.mk' hib
              have HDY := Hid.mk' hdf
              have HKP := Hid.mk' (And.intro hkk hkp)
              have hrow := hfx.row
              rw [hLL] at hrow
              obtain ⟨k1, k2⟩ := hrow.cells p y hy
              obtain ⟨za, zt⟩ := y
              simp only at k1 k2 hnl
              have HNM := Hid.mk' hnl
              have hpN : p < LL.length := hlen
              have hplI : ¬ (LL.length : Int) ≤ (p : Int) := by omega
              have hplB : decide ((LL.length : Int) ≤ (p : Int)) = false := by simp; omega
              clear hfx hk hib hpre hdf hkk hkp hrow hnl hp hy hlen
              by_cases hA2 : za = xa
              · subst hA2
                have hAI2 : ((za : Int) != (za : Int)) = false := by simp
                by_cases hT2 : zt = xt
                · subst hT2
                  gi_wp2
                  exact ⟨kept_set _ _ _ _, kpl_set X _ (by omega) (by omega), HFY.out.setk HIB.out (by omega) hbc, HKY.out.other (by omega) _, by have := HIB.out.set (.int .i64 ((p : Int) + 1)); rw [List.length_append, HP.out]; simpa using this, HNM.out.1 trivial, (KeepsOthers.setCell X _ _).same D _ HDY.out rfl, HKP.out.1.trans (kept_set _ _ _ _), HKP.out.2.t (kpl_set X _ (by omega) (by omega))⟩
                · have hTI2 := texts_ne hT2
                  gi_wp2
                  exact ⟨kept_set _ _ _ _, rfl, HNM.out.2 (fun e => hT2 (congrArg Prod.snd e).symm)⟩
              · have hAI2 : ((za : Int) != (xa : Int)) = true := by simp; omega
                gi_wp2
                exact ⟨kept_set _ _ _ _, rfl, HNM.out.2 (fun e => hA2 (congrArg Prod.fst e).symm)⟩
            case done3 =>
              rintro xs X rfl ⟨hfx, hk, hib, _, hdf, hkk, hkp⟩
              rw [lnL_len, hLL] at hib
              have ck := hib.cell
              have cw := hfx.want.cell
              have ck2 := hk.cell
              have fk2 := hk.frozen
              have HFY := Hid.mk' hfx
              have HKY := Hid.mk' hk
              have HDY := Hid.mk' hdf
              have HKP := Hid.mk' (And.intro hkk hkp)
              clear hfx hk hib hdf hkk hkp
              have hnn : ((LL.length : Int) != (LL.length : Int)) = false := by simp
              gi_wp2
              exact ⟨HKP.out.1.trans (kept_set _ _ _ _), HKP.out.2.t (kpl_set X _ (by omega) (by omega)), HFY.out.setk HKY.out (by omega) hbc, by have := HKY.out.set (.int .i64 ((q : Int) + 1)); rw [List.length_append, HQ.out]; simpa using this, HNL.out.1 trivial, (KeepsOthers.setCell X _ _).same D _ HDY.out rfl⟩
          · have hsqI : ((q : Int) == (stop : Int)) = false := by simp; omega
            gi_wp2
            exact ⟨kept_set _ _ _ _, kpl_set W _ (by omega) (by omega), HFX.out.setk HK.out (by omega) hbc, by have := HK.out.set (.int .i64 ((q : Int) + 1)); rw [List.length_append, HQ.out]; simpa using this, HNL.out.1 trivial, (KeepsOthers.setCell W _ _).same D _ HDF.out rfl⟩
        · have hTI := texts_ne hTx
          gi_wp2
          exact ⟨kept_set _ _ _ _, rfl, HNL.out.2 (fun e => hTx (congrArg Prod.snd e).symm)⟩
      · have hAI : ((ya : Int) != (xa : Int)) = true := by simp; omega
        gi_wp2
        exact ⟨kept_set _ _ _ _, rfl, HNL.out.2 (fun e => hA (congrArg Prod.fst e).symm)⟩
    case stop2 =>
      rintro D2 cd pre W hD hpre ⟨rfl, hn⟩ hdef
      exact absurd hpre hn
    case done2 =>
      rintro D2 xs W hD rfl ⟨hfx, hk, _, hdf⟩ hdef
      refine HK2.out _ _ ?_
      rw [lnL_len, hLL] at hk
      have hnf2 := nil_func
      have HFX := Hid.mk' hfx
      have HK := Hid.mk' hk
      have HDD := Hid.mk' (And.intro hdf hdef)
      clear hfx hk hdf hdef
      gi_wp2_with (first | (refine ⟨trivial, ?_⟩; gi_at_call 5; refine (callsIn_wide.2 (lines_any ⟨#[97, 10, 98]⟩ _)).mono ?_; rintro e w' ⟨rfl, rfl⟩) | fail)
      obtain ⟨W4, hW4⟩ : ∃ W4, (W.alloc (.cells #[.int .i64 0] 3)).alloc (.cells #[.string ⟨#[97, 10, 98]⟩] 9) = W4 := ⟨_, rfl⟩
      have hf4 : Fx s b c (.slice vb LL.length vc) stop w W4 := by
        rw [← hW4]
        exact (HFX.out.ab (B := W2.heap.size) (by omega) (by omega) (World.grownBy_alloc W _ none) (fun r e => by cases e)).ab (B := W2.heap.size) (by omega) (by omega) (World.grownBy_alloc _ _ none) (fun r e => by cases e)
      have hk4 : Boxed W4 (c + 4) 3 (.int .i64 (LL.length : Int)) := by rw [← hW4]; exact (HK.out.alloc _).alloc _
      have hh4 : Boxed W4 W.heap.size 3 (.int .i64 0) := by rw [← hW4]; exact (Boxed.new W _ _).alloc _
      have ht4 : Boxed W4 (W.heap.size + 1) 9 (.string ⟨#[97, 10, 98]⟩) := by
        have := Boxed.new (W.alloc (.cells #[.int .i64 0] 3)) 9 (.string ⟨#[97, 10, 98]⟩)
        rw [hW4] at this
        simpa using this
      have hDW : D < W.heap.size := (Array.getElem?_eq_some_iff.1 HDD.out.1).1
      have hDW2 : D2 < W.heap.size := (Array.getElem?_eq_some_iff.1 HDD.out.2).1
      have hd4 : W4.heap[D]? = some (.deferred (some [])) := by
        rw [← hW4, Below.heap_alloc _ _ _ (by simp; omega), Below.heap_alloc _ _ _ hDW]
        exact HDD.out.1
      have he4 : W4.heap[D2]? = some (.deferred (some [])) := by
        rw [← hW4, Below.heap_alloc _ _ _ (by simp; omega), Below.heap_alloc _ _ _ hDW2]
        exact HDD.out.2
      have hz4 : W4.heap.size = W.heap.size + 2 := by rw [← hW4]; simp
      have hT4 : Tab W4 := fun i h => ((hf4.bel.cell (p := ⟨0, i, none⟩) (by show 0 < b; omega)).trans (ht i h))
      have hkl := HK.out.lt
      rw [hW4]
      clear hW4
      rename_i K4 hK4
      have HK4 := Hid.mk' hK4
      clear hK4
      refine wpIn_rangeW rfl (by omega) (gf := 7) (lb := #[.pointer (some ⟨W.heap.size + 1, 0, none⟩)]) rfl trivial (enters_of Tryd.func7 (by kernel_rfl) rfl)
        (lines_seqW 5 (by omega) (W.heap.size + 1) b ⟨#[97, 10, 98]⟩ (by decide) W4 (by omega) (by omega) (by omega) hT4 ht4.cell) (fun _ h => h.elim) KpL.t (kpl_put (by omega) (by omega)) (Below.refl _ _) (fun _ => rfl)
        (fun pre X => Fx s b c (.slice vb LL.length vc) stop w X ∧ Boxed X (c + 4) 3 (.int .i64 (LL.length : Int)) ∧ Boxed X W.heap.size 3 (.int .i64 (pre.length : Int)) ∧ X.heap[D]? = some (.deferred (some [])) ∧ X.heap[D2]? = some (.deferred (some [])))
        (fun cd pre X => False)
        (fun pre X Y row h hg hr => ⟨h.1.ab (B := W4.heap.size) (by omega) (by omega) hg hr, box_ab h.2.1 hg hr, box_ab h.2.2.1 hg hr, (hg.block D (Array.getElem?_eq_some_iff.1 h.2.2.2.1).1 (fun e => by have := (hr D e.symm).1; omega)).trans h.2.2.2.1, (hg.block D2 (Array.getElem?_eq_some_iff.1 h.2.2.2.2).1 (fun e => by have := (hr D2 e.symm).1; omega)).trans h.2.2.2.2⟩)
        (fun cd pre X Y row h hg hr => h)
        ⟨hf4, hk4, hh4, hd4, he4⟩ (fun x a' X => a' = { tmps := #[.string s, .int .i64 leave, undef, undef, .pointer (some ⟨b, 0, none⟩), .pointer (some ⟨c, 0, none⟩), .pointer (some ⟨c + 1 + 1, 0, none⟩), .pointer (some ⟨c + 1 + 1 + 1, 0, none⟩), .pointer (some ⟨c + 1 + 1 + 1 + 1, 0, none⟩), undef, undef, undef, undef, undef, undef, undef, .pointer (some ⟨W.heap.size, 0, none⟩), .func (.func 7) #[] #[.pointer (some ⟨W.heap.size + 1, 0, none⟩)], .string s, .slice vb LL.length vc, .string s, .func (.func 7) #[] #[.pointer (some ⟨c + 1, 0, none⟩)], fnL c, .bool false, .int .i64 leave, .slice vb LL.length vc, .int .i64 (LL.length : Int), .int .i64 ((LL.length : Int) + 1), .int .i64 (stop : Int), fnL c, undef, undef, undef, undef, undef, undef, undef, undef, undef, undef, undef, undef, undef, undef, undef, undef, undef, undef, undef, undef, undef, undef, undef, undef, undef, undef, undef, undef, undef, .int .i64 (stop : Int), .int .i64 (stop : Int), .bool false, fnL c, undef, undef, undef, undef, undef, undef, undef, undef, undef, undef, undef, undef, undef, undef, undef, undef, undef, undef, undef, undef, undef, undef, undef, undef, undef, undef, undef, undef, undef, undef, undef, undef, undef, undef, undef, undef, undef, undef, undef, undef, undef, undef, undef, undef, undef, undef, undef, undef, undef, undef, undef, undef, undef, undef, undef, undef, undef, undef, undef, undef, .func (.func 7) #[] #[.pointer (some ⟨W.heap.size + 1, 0, none⟩)], .func (.func 7) #[] #[.pointer (some ⟨W.heap.size + 1, 0, none⟩)], .bool false, .func (.func 7) #[] #[.pointer (some ⟨W.heap.size + 1, 0, none⟩)], .int .i64 (x.1.1 : Int), .string x.1.2, undef, undef, undef, undef, undef, undef, undef, undef, undef, undef], defers := [] }) (fun x a' _ X Y row h hg hr => h) ?assign4 ?body4 ?done4 ?stop4
      case assign4 =>
        intro l pre x X K hi hK
        simp only [encL]
        gi_wp2
        exact hK _ _ (KeptW.refl _ _ _) ⟨Below.refl _ _, rfl⟩ hi rfl
      case stop4 =>
        rintro D3 cd pre X hD3 hpre h hdef
        exact h.elim
      case body4 =>
        rintro l pre x a' X hl _ ⟨hfx, hk, hh, hdf, hde⟩ rfl hlen
        obtain ⟨⟨xa, xt⟩, hxb⟩ := x
        simp only at hxb ⊢
        rw [show (lnL ⟨#[97, 10, 98]⟩).length = 2 from lnL_ab] at hlen
        obtain ⟨p, hp⟩ : ∃ p, pre.length = p := ⟨_, rfl⟩
        rw [hp] at hh hlen
        have ck := hh.cell
        have fk := hh.frozen
        have HFY := Hid.mk' hfx
        have HKY := Hid.mk' hk
        have HHY := Hid.mk' hh
        have HDY := Hid.mk' (And.intro hdf hde)
        have HP := Hid.mk' hp
        clear hfx hk hh hdf hde hp
        gi_wp2
        exact ⟨kept_set _ _ _ _, kpl_set X _ (by omega) (by omega), HFY.out.setk HHY.out (by omega) hbc, HKY.out.other (by omega) _, by have := HHY.out.set (.int .i64 ((p : Int) + 1)); rw [List.length_append, HP.out]; simpa using this, (KeepsOthers.setCell X _ _).same D _ HDY.out.1 rfl, (KeepsOthers.setCell X _ _).same D2 _ HDY.out.2 rfl⟩
      case done4 =>
        rintro D3 xs X hD3 rfl ⟨hfx, hk, hh, hdf, hde⟩ hdg
        refine HK4.out _ _ ?_
        rw [show (lnL ⟨#[97, 10, 98]⟩).length = 2 from lnL_ab] at hh
        have ck := hk.cell
        have ch := hh.cell
        have cw := hfx.want.cell
        have cr := hfx.res.cell
        have fr := hfx.res.frozen
        have hr1 := hfx.res.set (.bool true)
        have e1 := (KeepsOthers.setCell X ⟨b, 0, none⟩ (.bool true)).same D3 _ hdg rfl
        have e2 := (KeepsOthers.setCell X ⟨b, 0, none⟩ (.bool true)).same D2 _ hde rfl
        have e3 := (KeepsOthers.setCell X ⟨b, 0, none⟩ (.bool true)).same D _ hdf rfl
        have hbl := hfx.bel.setCell (p := ⟨b, 0, none⟩) (Nat.le_refl _) (.bool true)
        have HE := Hid.mk' (And.intro e1 (And.intro e2 (And.intro e3 (And.intro hr1 hbl))))
        clear hfx hk hh hdf hde hdg e1 e2 e3 hr1 hbl
        gi_wp2
        obtain ⟨X1, hX1⟩ : ∃ X1, X.setCell ⟨b, 0, none⟩ (.bool true) = X1 := ⟨_, rfl⟩
        have HE1 := HE.out
        rw [hX1] at HE1 ⊢
        obtain ⟨e1, e2, e3, hr1, hbl⟩ := HE1
        have f2 : (X1.putObj D3 (.deferred none)).heap[D2]? = some (.deferred (some [])) := (World.putObj_heap_other (by omega)).trans e2
        have f3 : ((X1.putObj D3 (.deferred none)).putObj D2 (.deferred none)).heap[D]? = some (.deferred (some [])) := (World.putObj_heap_other (by omega)).trans ((World.putObj_heap_other (by omega)).trans e3)
        have hbox : Boxed (((X1.putObj D3 (.deferred none)).putObj D2 (.deferred none)).putObj D (.deferred none)) b 4 (.bool true) := (World.putObj_heap_other (by omega)).trans ((World.putObj_heap_other (by omega)).trans ((World.putObj_heap_other (by omega)).trans hr1))
        have hcb := hbox.cell
        refine ⟨by simp, .inl ⟨_, _, rfl, run_takeDeferred e1, ?_⟩⟩
        refine ⟨by simp, .inl ⟨_, _, rfl, run_takeDeferred f2, ?_⟩⟩
        refine ⟨by simp, .inl ⟨_, _, rfl, run_takeDeferred f3, ?_⟩⟩
        refine ⟨.bool true, ?_, rfl, ?_⟩
        · simp [results, Tryd.f3, go_sem, hcb]
        · rw [hb]
          exact ⟨hbl.os, hbl.tape, hbl.output, by simpa using hbl.size, fun k hk => (World.putObj_heap_other (by omega)).trans ((World.putObj_heap_other (by omega)).trans ((World.putObj_heap_other (by omega)).trans (hbl.block k hk)))⟩
  have HREST := Hid.mk' rest
  clear rest
  refine wpIn_rangeW rfl (by omega) (gf := 7) (lb := #[.pointer (some ⟨c + 1, 0, none⟩)]) rfl trivial (enters_of Tryd.func7 (by kernel_rfl) rfl)
    (lines_seqW 5 (by omega) (c + 1) b s (by omega) W0 (by omega) (by omega) (by omega) hT0 hF0.txt.cell) (fun _ h => h.elim) KpL.t (kpl_put (by omega) (by omega)) (Below.refl _ _) (fun _ => rfl)
    (fun pre W => Fx s b c (.slice vb LL.length vc) stop w W ∧ Boxed W (c + 4) 3 (.int .i64 (pre.length : Int)) ∧ pre <+: lnL s ∧ pre.length ≤ stop)
    (fun cd pre W => (cd = .ret ∧ ¬ pre <+: lnL s) ∨ (cd = .exit 0 ∧ Fx s b c (.slice vb LL.length vc) stop w W ∧ Boxed W (c + 4) 3 (.int .i64 (stop : Int))))
    (fun pre X Y row h hg hr => ⟨h.1.ab (B := W0.heap.size) (by omega) (by omega) hg hr, box_ab h.2.1 hg hr, h.2.2⟩)
    (fun cd pre X Y row h hg hr => h.elim .inl fun h => .inr ⟨h.1, h.2.1.ab (B := W0.heap.size) (by omega) (by omega) hg hr, box_ab h.2.2 hg hr⟩)
    ⟨hF0, hk0, List.nil_prefix, Nat.zero_le _⟩ (fun x a' W => a' = { tmps := #[.string s, .int .i64 leave, undef, undef, .pointer (some ⟨b, 0, none⟩), .pointer (some ⟨c, 0, none⟩), .pointer (some ⟨c + 1 + 1, 0, none⟩), .pointer (some ⟨c + 1 + 1 + 1, 0, none⟩), .pointer (some ⟨c + 1 + 1 + 1 + 1, 0, none⟩), .int .i64 (x.1.1 : Int), .string x.1.2, undef, undef, undef, undef, undef, undef, undef, .string s, .slice vb LL.length vc, .string s, .func (.func 7) #[] #[.pointer (some ⟨c + 1, 0, none⟩)], fnL c, .bool false, .int .i64 leave, .slice vb LL.length vc, .int .i64 (LL.length : Int), .int .i64 ((LL.length : Int) + 1), .int .i64 (stop : Int), fnL c, .int .i64 (x.1.1 : Int), .string x.1.2, undef, undef, undef, undef, undef, undef, undef, undef, undef, undef, undef, undef, undef, undef, undef, undef, undef, undef, undef, undef, undef, undef, undef, undef, undef, undef, undef, undef, undef, undef, undef, undef, undef, undef, undef, undef, undef, undef, undef, undef, undef, undef, undef, undef, undef, undef, undef, undef, undef, undef, undef, undef, undef, undef, undef, undef, undef, undef, undef, undef, undef, undef, undef, undef, undef, undef, undef, undef, undef, undef, undef, undef, undef, undef, undef, undef, undef, undef, undef, undef, undef, undef, undef, undef, undef, undef, undef, undef, undef, undef, undef, undef, undef, undef, undef, undef, undef, undef, undef, undef, undef, undef, undef, undef, undef, undef, undef], defers := [] }) (fun x a' _ X Y row h hg hr => h) ?assign1 ?body1 ?done1 ?stop1
  case assign1 =>
    intro l pre x W K hi hK
    simp only [encL]
    gi_wp2
    exact hK _ _ (KeptW.refl _ _ _) ⟨Below.refl _ _, rfl⟩ hi rfl
  case body1 =>
    rintro l pre x a' W hl _ ⟨hfx, hk, hpre, hqs⟩ rfl hlen
    rw [lnL_len, hLL] at hlen
    obtain ⟨y, hy⟩ : ∃ y, LL[pre.length]? = some y := ⟨_, List.getElem?_eq_getElem hlen⟩
    have hnl := next_line s (by omega) pre x y hpre (by rw [hLL]; exact hy)
    obtain ⟨q, hq⟩ : ∃ q, pre.length = q := ⟨_, rfl⟩
    rw [hq] at hk hqs hlen hy
    obtain ⟨⟨xa, xt⟩, hxb⟩ := x
    simp only at hxb ⊢
    have ck := hk.cell
    have fk := hk.frozen
    have cs := hfx.stp.cell
    have cw := hfx.want.cell
    have HQ := Hid.mk' hq
    have HFX := Hid.mk' hfx
    have HK := Hid.mk' hk
    have cr := hfx.res.cell
    have fr := hfx.res.frozen
    by_cases hsq : q = stop
    · subst hsq
      clear hfx hk hnl hq
      gi_wp2
      exact ⟨KeptW.refl _ _ _, .inr ⟨rfl, HFX.out, HK.out⟩⟩
    · have hsqI : ((q : Int) == (stop : Int)) = false := by simp; omega
      have hqlI : ¬ (LL.length : Int) ≤ (q : Int) := by omega
      have hqlB : decide ((LL.length : Int) ≤ (q : Int)) = false := by simp; omega
      have hsome : ∃ g, vb = some ⟨g, 0, none⟩ := by
        have h := hfx.row
        rw [hLL] at h
        rcases h with ⟨h, h1⟩ | ⟨g, _, _, _, h, _⟩
        · rw [h1] at hlen
          simp at hlen
        · simp only [Value.slice.injEq] at h
          exact ⟨g, h.1⟩
      obtain ⟨g, rfl⟩ := hsome
      have hrow := hfx.row
      rw [hLL] at hrow
      obtain ⟨k1, k2⟩ := hrow.cells q y hy
      obtain ⟨ya, yt⟩ := y
      simp only at k1 k2 hnl
      have HNL := Hid.mk' hnl
      have hqN : q < LL.length := hlen
      clear hfx hk hrow hnl hq hy hlen
      by_cases hA : ya = xa
      · subst hA
        have hAI : ((ya : Int) != (ya : Int)) = false := by simp
        by_cases hTx : yt = xt
        · subst hTx
          gi_wp2
          exact ⟨kept_set _ _ _ _, kpl_set W _ (by omega) (by omega), HFX.out.setk HK.out (by omega) hbc, by have := HK.out.set (.int .i64 ((q : Int) + 1)); rw [List.length_append, HQ.out]; simpa using this, HNL.out.1 trivial, by rw [List.length_append, HQ.out]; show q + 1 ≤ stop; omega⟩
        · have hTI := texts_ne hTx
          gi_wp2
          exact ⟨kept_set _ _ _ _, .inl ⟨rfl, HNL.out.2 (fun e => hTx (congrArg Prod.snd e).symm)⟩⟩
      · have hAI : ((ya : Int) != (xa : Int)) = true := by simp; omega
        gi_wp2
        exact ⟨kept_set _ _ _ _, .inl ⟨rfl, HNL.out.2 (fun e => hA (congrArg Prod.fst e).symm)⟩⟩
  case done1 =>
    rintro D xs W hD rfl ⟨hfx, hk, _, hle⟩ hdef
    refine HREST.out D W (by omega) hfx ?_ hdef
    have : (lnL s).length = stop := by rw [lnL_len, hLL] at hle ⊢; omega
    rw [← this]
    exact hk
  case stop1 =>
    rintro D cd pre W hD hpre (⟨rfl, hn⟩ | ⟨rfl, hfx, hk⟩) hdef
    · exact absurd hpre hn
    · have HF := Hid.mk' (And.intro hfx (And.intro hk hdef))
      clear hfx hk hdef
      gi_wp2
      exact HREST.out D W (by omega) HF.out.1 HF.out.2.1 HF.out.2.2
end Go.Proofs.YthooefogbbnbaaaDoor
