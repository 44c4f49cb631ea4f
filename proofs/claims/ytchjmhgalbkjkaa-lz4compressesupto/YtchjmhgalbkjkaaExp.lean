/-
  lz4.ExpandOn: what it answers, of every text. Conditions: as each says.
-/
import Derived.Test.YtchjmhgalbkjkaaWlkC
import Derived.Test.YtchjmhgalbkjkaaLay
import Derived.Test.YtchjmhgalbkjkaaLzD
namespace Go.Proofs.Ytchjmhgalbkjkaa
open Go.RowKit
set_option linter.unusedVariables false
/-- what is said behind a text so far -/
def sofar (s bef : ByteArray) (pre : List Lz.Sq) : List Nat := (Lz.says (Sums.bl s) (Sums.bl bef) pre).drop bef.size
/-- what holds between two sequences: the row so far, and the two cells that the closure names -/
structure Sf (s bef : ByteArray) (base b1 b2 B : Nat) (w0 : World) (pre : List Lz.Sq) (w : World) : Prop where
  row : ∃ v, w.heap[b1]? = some (.cells #[v] 58 (0, 0)) ∧ w.ownsRow base 5 1 v (sofar s bef pre).length (byv (sofar s bef pre)) ∧ v.ownBlock ≠ some B
  txt : w.heap[b2]? = some (.cells #[.string bef] 9 (0, 0))
  bel : Below base w0 w
  siz : B < w.heap.size
theorem own_kept {w w' : World} {base n : Nat} {e : TypeId} {v : Value} {xs : List Value} (h : w.ownsRow base e 1 v n xs) (hb : ∀ k, v.ownBlock = some k → w'.heap[k]? = w.heap[k]?) : w'.ownsRow base e 1 v n xs := by
  refine ⟨h.1, ?_⟩
  rcases h.2 with h0 | ⟨g, cap, cur, rfl, h1, h2, h3⟩
  · exact .inl h0
  · exact .inr ⟨g, cap, cur, rfl, h1, by rw [hb g rfl]; exact h2, h3⟩
theorem Sf.stay {s bef : ByteArray} {base b1 b2 B : Nat} {w0 w w' : World} {pre : List Lz.Sq} (h : Sf s bef base b1 b2 B w0 pre w) (h1 : b1 ≠ B) (h2 : b2 ≠ B) (hB : base ≤ B) (a : At B w w') : Sf s bef base b1 b2 B w0 pre w' := by
  obtain ⟨v, hv, hr, hn⟩ := h.row
  refine ⟨⟨v, by rw [a.block _ h1]; exact hv, own_kept hr fun k hk => a.block k (fun e => hn (by rw [hk, e])), hn⟩, by rw [a.block _ h2]; exact h.txt, ?_, by rw [a.size]; exact h.siz⟩
  exact ⟨a.os.trans h.bel.os, a.tape.trans h.bel.tape, a.output.trans h.bel.output, by rw [a.size]; exact h.bel.size, fun k hk => (a.block k (by omega)).trans (h.bel.block k hk)⟩
theorem sofar_step (s bef : ByteArray) (ahead most : Nat) (pre : List Lz.Sq) (x : Lz.Sq) (h : pre ++ [x] <+: (allOf s ahead most).1) :
    Lz.Fine (Sums.bl s) ahead (sofar s bef pre).length most x ∧ Sums.bl bef ++ sofar s bef pre = Lz.says (Sums.bl s) (Sums.bl bef) pre ∧ sofar s bef (pre ++ [x]) = (Lz.grow x.off x.len (Sums.bl bef ++ (sofar s bef pre ++ ((Sums.bl s).drop x.frm).take x.many))).drop bef.size ∧ (sofar s bef (pre ++ [x])).length = (sofar s bef pre).length + x.many + x.len := by
  have hF := Lz.walk_pre (Sums.bl s) (Sums.bl_byt s) ahead most _ pre x h
  obtain ⟨t, h1, h2⟩ := Lz.says_pre (Sums.bl s) (Sums.bl_byt s) ahead most _ (Sums.bl bef) _ pre rfl ((List.prefix_append pre [x]).trans h)
  obtain ⟨t2, h3, h4⟩ := Lz.says_pre (Sums.bl s) (Sums.bl_byt s) ahead most _ (Sums.bl bef) _ _ rfl h
  have hb := Sums.bl_length bef
  have e1 : sofar s bef pre = t := by rw [sofar, h1, ← hb, drop_bef]
  have e2 : sofar s bef (pre ++ [x]) = t2 := by rw [sofar, h3, ← hb, drop_bef]
  refine ⟨by rw [e1, h2]; exact hF, by rw [e1, h1], ?_, ?_⟩
  · rw [sofar, Lz.says_snoc, Lz.say, ← List.append_assoc, e1, h1]
  · rw [e1, e2, h2, h4, Lz.total_append]
    simp [Lz.total]
    omega
theorem nb_cell {w : World} {b : Nat} {v : Value} {t : TypeId} (h : w.heap[b]? = some (.cells #[v] t (0, 0))) : w.cell? ⟨b, 0, none⟩ = some v := by simp [World.cell?, h]
theorem nb_bare {w : World} {b : Nat} {v : Value} {t : TypeId} (h : w.heap[b]? = some (.cells #[v] t (0, 0))) : w.frozen? ⟨b, 0, none⟩ = false := by simp [World.frozen?, h]
theorem ext_size (s : ByteArray) (i j : Nat) (h : i ≤ j) (hj : j ≤ s.size) : (s.extract i j).size = j - i := by
  rw [ByteArray.size_extract]
  omega
theorem bl_part (s : ByteArray) (i k : Nat) : Sums.bl (s.extract i (i + k)) = ((Sums.bl s).drop i).take k := by
  rw [Sums.bl_extract, List.drop_take]
  congr 1
  omega
/-- the row is in no block of another kind -/
theorem own_other {w : World} {base n : Nat} {v : Value} {xs : List Value} (h : w.ownsRow base 5 1 v n xs) {B : Nat} {cs : Array Value} {t : TypeId} {fz : Nat × Nat} (hB : w.heap[B]? = some (.cells cs t fz)) (ht : t ≠ 5) : v.ownBlock ≠ some B := by
  rcases h.2 with ⟨rfl, _⟩ | ⟨g, cap, cur, rfl, _, h2, _⟩
  · simp [Value.ownBlock]
  · intro e
    simp only [Value.ownBlock, Option.some.injEq] at e
    subst e
    rw [h2] at hB
    simp only [Option.some.injEq, Obj.cells.injEq] at hB
    exact ht hB.2.1.symm
theorem blk_setCell {w : World} {b k : Nat} (u : Value) (h : k ≠ b) : (w.setCell ⟨b, 0, none⟩ u).heap[k]? = w.heap[k]? := by
  simp only [World.setCell, Array.getElem?_modify]
  rw [if_neg (by omega)]
theorem blk_same {w : World} {b : Nat} {v u : Value} {t : TypeId} {fz : Nat × Nat} (h : w.heap[b]? = some (.cells #[v] t fz)) : (w.setCell ⟨b, 0, none⟩ u).heap[b]? = some (.cells #[u] t fz) := by
  simp [World.setCell, Array.getElem?_modify, h]
theorem below_set {base b : Nat} {w0 w : World} (h : Below base w0 w) (hb : base ≤ b) (u : Value) : Below base w0 (w.setCell ⟨b, 0, none⟩ u) :=
  ⟨h.os, h.tape, h.output, by simpa [World.setCell] using h.size, fun k hk => (blk_setCell u (by omega)).trans (h.block k hk)⟩
set_option maxRecDepth 100000 in
set_option maxHeartbeats 1000000 in
theorem take_any (s bef : ByteArray) (ahead most base b1 b2 B : Nat) (w0 : World) (pre : List Lz.Sq) (x : Lz.Sq) (w : World) (hF : Sf s bef base b1 b2 B w0 pre w) (hx : pre ++ [x] <+: (allOf s ahead most).1) (hbox : ∃ t y o c, Box B t y o c w)
    (ha : ahead = bef.size) (h1 : base ≤ b1) (h2 : base ≤ b2) (h12 : b1 ≠ b2) (h1B : b1 ≠ B) (h2B : b2 ≠ B) (hB : base ≤ B) (hbef : bef.size ≤ 140737492549632) (hsz : most ≤ 35184372088832 ∨ s.size ≤ 137438953472) :
    Calls Try.prog 29 #[sqv s x, .pointer (some ⟨b1, 0, none⟩), .pointer (some ⟨b2, 0, none⟩)] w fun e w' => (e = .returned (.bool true) ∧ Sf s bef base b1 b2 B w0 (pre ++ [x]) w') ∧ w'.heap[B]? = w.heap[B]? := by
  obtain ⟨i0, hi, hz0, hz1, hz2⟩ := info_parts infoB
  obtain ⟨hfine, hsay, hnext, hlen⟩ := sofar_step s bef ahead most pre x hx
  obtain ⟨v, hv, hown, hnB⟩ := hF.row
  obtain ⟨t0, y0, o0, k0, hbx⟩ := hbox
  have hbw : base ≤ w.heap.size := by have := hF.siz; omega
  have hlt1 : b1 < w.heap.size := (Array.getElem?_eq_some_iff.1 hv).1
  have hlt2 : b2 < w.heap.size := (Array.getElem?_eq_some_iff.1 hF.txt).1
  obtain ⟨bb, cc, rfl⟩ := own_shape hown
  generalize hL : sofar s bef pre = L at *
  have hal : ∀ o k, k < w.heap.size → (w.alloc o).heap[k]? = w.heap[k]? := fun o k hk => Below.heap_alloc w o k hk
  have c1 : ∀ o, (w.alloc o).cell? ⟨b1, 0, none⟩ = some (.slice bb L.length cc) := fun o => nb_cell ((hal o _ hlt1).trans hv)
  obtain ⟨xt, xf, xm, xo, xl⟩ := x
  simp only [Lz.Fine] at hfine hnext hlen
  have hex : (s.extract xf (xf + xm)).size = xm := by
    have := Sums.bl_length s
    rw [ext_size s _ _ (by omega) (by omega)]
    omega
  have hblp := bl_part s xf xm
  have hsl := Sums.bl_length s
  rw [hsl] at hfine
  obtain ⟨T, hT⟩ : ∃ T, s.extract xf (xf + xm) = T := ⟨_, rfl⟩
  rw [hT] at hex hblp
  obtain ⟨L1, hL1⟩ : ∃ L1, L1 = L ++ Sums.bl T := ⟨_, rfl⟩
  have hL1l : L1.length = L.length + xm := by rw [hL1, List.length_append, Sums.bl_length, hex]
  have HX : ∀ cs : Array Value, Hid (∀ (v1 : Value) (w1 : World), w1.ownsRow base 5 1 v1 (L.length + T.size) (byv L ++ Go.Lib.strCells T) → (w.alloc (.cells cs 66)).grownBy w1 (Value.slice bb L.length cc).ownBlock →
      w1.ownsRow base 5 1 v1 L1.length (byv L1) ∧ w1.heap[b1]? = some (.cells #[.slice bb L.length cc] 58 (0, 0)) ∧ w1.heap[b2]? = some (.cells #[.string bef] 9 (0, 0)) ∧ w1.heap[B]? = w.heap[B]? ∧ Below base w0 w1 ∧ w1.heap[w.heap.size]? = some (.cells cs 66 (0, 0)) ∧ w.heap.size < w1.heap.size) := by
    intro cs v1 w1 ho hg
    have hw : (w.alloc (.cells cs 66)).heap.size = w.heap.size + 1 := by simp
    have hoth : ∀ (k : Nat) (ds : Array Value) (t : TypeId) (fz : Nat × Nat), k < w.heap.size → w.heap[k]? = some (.cells ds t fz) → t ≠ 5 → w1.heap[k]? = some (.cells ds t fz) := by
      intro k ds t fz hk hh ht
      rw [hg.block k (by omega) (fun e => own_other hown hh ht e.symm), hal _ _ hk]
      exact hh
    have hnew : (w.alloc (.cells cs 66)).heap[w.heap.size]? = some (.cells cs 66 (0, 0)) := heap_alloc_new w _
    refine ⟨?_, hoth _ _ _ _ hlt1 hv (by decide), hoth _ _ _ _ hlt2 hF.txt (by decide), ?_, ?_, ?_, by have := hg.size; omega⟩
    · rw [hex, strc_byv, ← byv_append, ← hL1, ← hL1l] at ho
      exact ho
    · rw [hoth _ _ _ _ hF.siz hbx (by decide)]
      exact hbx.symm
    · exact (hF.bel.alloc hbw _).grown hg (by omega) (fun k hk => (hown.lt k hk).1)
    · rw [hg.block _ (by omega) ?_, hnew]
      intro e
      have := (hown.lt _ e.symm).2
      omega
  have HF := Hid.mk' hF
  have HOWN := Hid.mk' hown
  have hsm : L1.length + xl ≤ 70368744177664 := by omega
  have hlay : xl = 0 ∧ xo = 0 ∨ (0 < xl ∧ 0 < xo ∧ xo ≤ bef.size + L1.length) := by omega
  have hLm : L.length + T.size ≤ 140737488355328 := by omega
  have HLN := Hid.mk' hlen
  have HNX := Hid.mk' hnext
  have HSM := Hid.mk' hsm
  have HLA := Hid.mk' hlay
  have hoff : xo ≤ 65535 := by omega
  have HLL := Hid.mk' (And.intro hL1 hL1l)
  have HBP := Hid.mk' hblp
  clear hF hown hlen hnext hfine hsay hsz hsm hlay hal hblp hL1 hL1l
  go_enter Try.func29, Try.ntmps29
  unfold sqv
  simp only [hT]
  go_wp2_with (first | (at_builtin; refine Go.Lib.wpList_append_own_string _ rfl _ _ 58 9 rfl base 5 i0 Try.underlying58 Try.underlying9 hi hz0 hz1 hz2 _ _ _ rfl (by exact (own_kept HOWN.out fun k hk => Below.heap_alloc w _ k (HOWN.out.lt k hk).2)) _ rfl (by unfold maxLen; omega) hLm (by simp; omega) ?_; intro v1 w1 hown1 hgrow1 _; obtain ⟨q1, q2, q3, q4, q5, q6, q7⟩ := (HX _).out v1 w1 hown1 hgrow1; obtain ⟨bb1, cc1, rfl⟩ := own_shape q1; have d1 := nb_cell q2; have f1 := nb_bare q2; have e1 : ∀ u, (w1.setCell ⟨b1, 0, none⟩ u).cell? ⟨b2, 0, none⟩ = some (.string bef) := fun u => nb_cell ((blk_setCell u (Ne.symm h12)).trans q3); have e2 : ∀ u, (w1.setCell ⟨b1, 0, none⟩ u).cell? ⟨w.heap.size, 2, none⟩ = some (.int .i64 (xo : Int)) := fun u => (by simp only [World.cell?]; rw [blk_setCell u (by omega), q6]; rfl); have e3 : ∀ u, (w1.setCell ⟨b1, 0, none⟩ u).cell? ⟨w.heap.size, 3, none⟩ = some (.int .i64 (xl : Int)) := fun u => (by simp only [World.cell?]; rw [blk_setCell u (by omega), q6]; rfl); have e4 : ∀ u, (w1.setCell ⟨b1, 0, none⟩ u).cell? ⟨b1, 0, none⟩ = some u := fun u => nb_cell (blk_same q2); have HQ := Hid.mk' (And.intro q1 (And.intro q2 (And.intro q3 (And.intro q4 (And.intro q5 q7))))); clear hown1 hgrow1 q1 q2 q3 q4 q5 q6 q7) | (go_at_call 30; refine (lay_any base bef (.slice bb1 L1.length cc1) L1 xo xl _ (by exact (own_kept HQ.out.1 fun k hk => blk_setCell _ (fun e => own_other HQ.out.1 HQ.out.2.1 (by decide) (by rw [hk, e])))) (by simp only [World.setCell, Array.size_modify]; have := HQ.out.2.2.2.2.2; omega) HLA.out hoff hbef HSM.out).mono ?_; rintro e w3 ⟨v3, rfl, hown3, hap3⟩; obtain ⟨bb3, cc3, rfl⟩ := own_shape hown3; have q2 := hap3.keep b1 _ (blk_same HQ.out.2.1) (by intro _ _ h; simp at h); have d3 := nb_cell q2; have f3 := nb_bare q2; have HQ3 := Hid.mk' (And.intro hown3 (And.intro hap3 q2)); clear hown3 hap3 q2) | fail)
  go_ret
  have hM : sofar s bef (pre ++ [⟨xt, xf, xm, xo, xl⟩]) = (Lz.grow xo xl (Sums.bl bef ++ L1)).drop bef.size := by
    rw [HNX.out, HLL.out.1, HBP.out]
  have hMl : (sofar s bef (pre ++ [⟨xt, xf, xm, xo, xl⟩])).length = L1.length + xl := by rw [HLN.out, HLL.out.2]
  have hB3 : w3.heap[B]? = w.heap[B]? := by
    rw [HQ3.out.2.1.keep B _ ((blk_setCell _ (Ne.symm h1B)).trans (HQ.out.2.2.2.1.trans hbx)) (by intro _ _ h; simp at h)]
    exact hbx.symm
  have ht3 : w3.heap[b2]? = some (.cells #[.string bef] 9 (0, 0)) := HQ3.out.2.1.keep b2 _ ((blk_setCell _ (Ne.symm h12)).trans HQ.out.2.2.1) (by intro _ _ h; simp at h)
  refine ⟨⟨rfl, ⟨⟨_, blk_same HQ3.out.2.2, ?_, ?_⟩, (blk_setCell _ (Ne.symm h12)).trans ht3, ?_, ?_⟩⟩, (blk_setCell _ (Ne.symm h1B)).trans hB3⟩
  · rw [hMl, hM]
    exact own_kept HQ3.out.1 fun k hk => blk_setCell _ (fun e => own_other HQ3.out.1 HQ3.out.2.2 (by decide) (by rw [hk, e]))
  · exact own_other HQ3.out.1 (hB3.trans hbx) (by decide)
  · refine below_set ?_ h1 _
    exact (below_set HQ.out.2.2.2.2.1 h1 _).trans HQ3.out.2.1.below
  · have e1 := HQ3.out.2.1.below.size
    have e2 := HQ.out.2.2.2.2.2
    have e3 := HF.out.siz
    simp only [World.setCell, Array.size_modify] at e1 ⊢
    omega
theorem call_in {P : Program} {f : FuncId} {fn : Func} {c : Code} (hf : P.funcs[f]? = some fn) (hname : (fn.name == "runtime.NumGoroutine") = false) (hb : fn.body = some c) (args : Array Value) (w : World) : (callFunc f args).run P w = .ok (.enter f args) w := by
  have h1 : fn.name ≠ "runtime.NumGoroutine" := by simpa using hname
  simp [callFunc, hf, h1, hb]
theorem ent_take (args : Array Value) (w : World) : (callFunc 29 args).run Try.prog w = .ok (.enter 29 args) w :=
  call_in Try.func29 (by kernel_rfl) rfl args w
theorem says_nil (s bef : ByteArray) : sofar s bef [] = [] := by
  show (Sums.bl bef).drop bef.size = []
  rw [← Sums.bl_length, List.drop_length]
/-- the walk from a world in which the two cells were just laid -/
theorem walk_on (bef s : ByteArray) (most : Nat) (w : World) (hs : s.size ≤ 140737488355328) (hbef : bef.size ≤ 140737492549632) (hm : most ≤ 9223372036854775807) (hsz : most ≤ 35184372088832 ∨ s.size ≤ 137438953472) :
    Calls Try.prog 28 #[.string s, .int .i64 (bef.size : Int), .int .i64 (most : Int), .func (.func 29) #[] #[.pointer (some ⟨w.heap.size + 1, 0, none⟩), .pointer (some ⟨w.heap.size, 0, none⟩)]] ((w.alloc (.cells #[.string bef] 9)).alloc (.cells #[.slice none 0 0] 58)) fun e w' =>
      e = .returned (.tuple #[.int .i64 ((allOf s bef.size most).2.1 : Int), .int .i64 ((allOf s bef.size most).2.2 : Int)]) ∧ Sf s bef w.heap.size (w.heap.size + 1) w.heap.size (w.heap.size + 2) w (allOf s bef.size most).1 w' := by
  obtain ⟨W, hW⟩ : ∃ W, W = (w.alloc (.cells #[.string bef] 9)).alloc (.cells #[.slice none 0 0] 58) := ⟨_, rfl⟩
  rw [← hW]
  have hWs : W.heap.size = w.heap.size + 2 := by rw [hW]; simp
  have hb2 : W.heap[w.heap.size]? = some (.cells #[.string bef] 9 (0, 0)) := by
    rw [hW, Below.heap_alloc _ _ _ (by simp)]
    exact heap_alloc_new w _
  have hb1 : W.heap[w.heap.size + 1]? = some (.cells #[.slice none 0 0] 58 (0, 0)) := by
    have := heap_alloc_new (w.alloc (.cells #[.string bef] 9)) (.cells #[.slice none 0 0] 58)
    rw [hW]
    simpa using this
  have hbel : Below w.heap.size w W := by
    rw [hW]
    exact ((Below.refl _ _).alloc (Nat.le_refl _) _).alloc (by simp) _
  refine (walk_any s bef.size most 29 #[.pointer (some ⟨w.heap.size + 1, 0, none⟩), .pointer (some ⟨w.heap.size, 0, none⟩)] (Sf s bef w.heap.size (w.heap.size + 1) w.heap.size (w.heap.size + 2) w) (fun _ _ => False) W hs hm hbef ?_ ?_).mono ?_
  · rw [hWs]
    refine ⟨?_, ?_, ?_⟩
    · intro args w'
      exact ent_take args w'
    · intro pre W1 W2 h ha
      exact h.stay (by omega) (by omega) (by omega) ha
    · intro pre x W1 h hx hbox
      refine (take_any s bef bef.size most w.heap.size (w.heap.size + 1) w.heap.size (w.heap.size + 2) w pre x W1 h hx hbox rfl (by omega) (by omega) (by omega) (by omega) (by omega) (by omega) hbef hsz).mono ?_
      rintro e w' ⟨h1, h2⟩
      exact .inl ⟨h1.1, h1.2, h2⟩
  · intro w' hb hsz'
    refine ⟨⟨.slice none 0 0, ?_, ?_, by simp [Value.ownBlock]⟩, ?_, ?_, by omega⟩
    · rw [hb.block _ (by omega)]
      exact hb1
    · rw [says_nil]
      exact World.ownsRow_nil _ _ _ _
    · rw [hb.block _ (by omega)]
      exact hb2
    · exact hbel.trans ⟨hb.os, hb.tape, hb.output, hb.size, fun k hk => hb.block k (by omega)⟩
  · rintro e w' (⟨rfl, h⟩ | ⟨_, _, _, h⟩)
    · exact ⟨rfl, h⟩
    · exact h.elim
set_option maxRecDepth 100000 in
set_option maxHeartbeats 1000000 in
theorem expandOn_any (bef s : ByteArray) (most : Nat) (w : World) (hs : s.size ≤ 140737488355328) (hbef : bef.size ≤ 140737492549632) (hm : most ≤ 9223372036854775807) (hsz : most ≤ 35184372088832 ∨ s.size ≤ 137438953472) :
    Calls Try.prog 13 #[.string bef, .string s, .int .i64 (most : Int)] w fun e w' => e = .returned (.tuple #[.string (if (allOf s bef.size most).2.1 = 0 then nums (sofar s bef (allOf s bef.size most).1) else ⟨#[]⟩), .int .i64 ((allOf s bef.size most).2.1 : Int), .int .i64 (if (allOf s bef.size most).2.1 = 0 then 0 else ((allOf s bef.size most).2.2 : Int))]) ∧ Below w.heap.size w w' := by
  have HW := Hid.mk' (walk_on bef s most w hs hbef hm hsz)
  generalize hres : allOf s bef.size most = R at HW ⊢
  obtain ⟨l, code, place⟩ := R
  simp only at HW ⊢
  clear hres
  have h0 : ¬ (most : Int) < 0 := by omega
  by_cases hc : code = 0
  · subst hc
    go_enter Try.func13, Try.ntmps13
    go_wp2_with (first | (go_at_call 28; refine HW.out.mono ?_; rintro e w' ⟨rfl, hSf⟩; obtain ⟨v, hv, hown, _⟩ := hSf.row; obtain ⟨bb, cc, rfl⟩ := own_shape hown; have c1 := nb_cell hv; have hcv := conv_own w.heap.size _ _ w' _ rfl hown; have HB := Hid.mk' hSf.bel; clear hSf hown) | fail)
    go_ret3
    exact ⟨rfl, HB.out⟩
  · have hcI : ((code : Int) == 0) = false := by simp; exact hc
    simp only [if_neg hc]
    go_enter Try.func13, Try.ntmps13
    go_wp2_with (first | (go_at_call 28; refine HW.out.mono ?_; rintro e w' ⟨rfl, hSf⟩; have HB := Hid.mk' hSf.bel; clear hSf) | fail)
    go_ret3
    exact ⟨rfl, HB.out⟩
theorem expandOn_neg (bef s : ByteArray) (most : Int) (w : World) (hm : most < 0) :
    Calls Try.prog 13 #[.string bef, .string s, .int .i64 most] w fun e w' => e = .returned (.tuple #[.string ⟨#[]⟩, .int .i64 1, .int .i64 0]) ∧ Below w.heap.size w w' := by
  go_enter Try.func13, Try.ntmps13
  go_wp2
  go_ret3
  exact ⟨rfl, (Below.refl _ _).alloc (Nat.le_refl _) _⟩
/-- what ExpandOn answers -/
def expR (bef s : ByteArray) (most : Int) : Value :=
  if most < 0 then .tuple #[.string ⟨#[]⟩, .int .i64 1, .int .i64 0] else
  .tuple #[.string (if (allOf s bef.size most.toNat).2.1 = 0 then nums (sofar s bef (allOf s bef.size most.toNat).1) else ⟨#[]⟩), .int .i64 ((allOf s bef.size most.toNat).2.1 : Int), .int .i64 (if (allOf s bef.size most.toNat).2.1 = 0 then 0 else ((allOf s bef.size most.toNat).2.2 : Int))]
theorem expandOn_all (bef s : ByteArray) (most : Int) (w : World) (hs : s.size ≤ 140737488355328) (hbef : bef.size ≤ 140737492549632) (hm : most ≤ 9223372036854775807) (hsz : most ≤ 35184372088832 ∨ s.size ≤ 137438953472) :
    Calls Try.prog 13 #[.string bef, .string s, .int .i64 most] w fun e w' => e = .returned (expR bef s most) ∧ Below w.heap.size w w' := by
  by_cases h : most < 0
  · unfold expR
    rw [if_pos h]
    exact expandOn_neg bef s most w h
  · obtain ⟨m, rfl⟩ : ∃ m : Nat, most = (m : Int) := ⟨most.toNat, by omega⟩
    unfold expR
    rw [if_neg h, Int.toNat_natCast]
    exact expandOn_any bef s m w hs hbef (by omega) (by omega)
theorem expR_shape (bef s : ByteArray) (most : Int) : ∃ t e p, expR bef s most = .tuple #[.string t, .int .i64 e, .int .i64 p] := by
  unfold expR
  split
  · exact ⟨_, _, _, rfl⟩
  · exact ⟨_, _, _, rfl⟩
theorem expand_all (s : ByteArray) (most : Int) (w : World) (hs : s.size ≤ 140737488355328) (hm : most ≤ 9223372036854775807) (hsz : most ≤ 35184372088832 ∨ s.size ≤ 137438953472) :
    Calls Try.prog 16 #[.string s, .int .i64 most] w fun e w' => e = .returned (expR ⟨#[]⟩ s most) ∧ Below w.heap.size w w' := by
  obtain ⟨t, c, p, hR⟩ := expR_shape ⟨#[]⟩ s most
  have HC := Hid.mk' (expandOn_all ⟨#[]⟩ s most w hs (by decide) hm hsz)
  rw [hR] at HC ⊢
  go_enter Try.func16, Try.ntmps16
  go_wp2_with (first | (go_at_call 13; refine HC.out.mono ?_; rintro e w' ⟨rfl, hb⟩; have HB := Hid.mk' hb; clear hb) | fail)
  go_ret3
  exact ⟨rfl, HB.out⟩
end Go.Proofs.Ytchjmhgalbkjkaa
