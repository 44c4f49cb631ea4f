/-
  What the law's goes does: all places are gone over twice, within themselves, and left early. Conditions: as each says.
-/
import Derived.Test.YtecoiifmeajicaaDoorPlc6
import Derived.Test.YtecoiifmeajicaaDoorRng
namespace Go.Proofs.YtecoiifmeajicaaDoor
open Go.RowKit Go.Shelf
set_option linter.unusedVariables false
attribute [local go_sem] Oper.semAt_some
abbrev noW : Obj → Prop := fun _ => False
theorem all_seqW (n : Nat) (hn : 1 ≤ n) (Bf Bs g : Nat) (fold : Bool) (p s : ByteArray) (k : Int) (D : Nat → Prop) (hs : s.size ≤ 1125899906842624) (w : World) (hD : ∀ k, D k → k < w.heap.size)
    (hBf : w.cell? ⟨Bf, 0, none⟩ = some (.pointer (some ⟨g, 0, none⟩))) (hBs : w.cell? ⟨Bs, 0, none⟩ = some (.string s)) (hF : Fnd g fold p k D w) :
    SeqW Fence.wide n Tryd.prog 37 #[.pointer (some ⟨Bf, 0, none⟩), .pointer (some ⟨Bs, 0, none⟩)] encA noW (KeepsB (AllD D Bf Bs)) (fun ys => ys = Lit.plL fold p s) (fun pre => pre <+: Lit.plL fold p s) (Lit.plL fold p s).length w := fun l J Jx W hW hJ _ hY h0' => by
  have hz := hW.size
  have hKW : KeepsB D w W := KeepsB.of_below hW hD
  have hbf := lt_of_cell hBf
  have hbs := lt_of_cell hBs
  exact all1_in n hn l Bf Bs g fold p s k D hs J Jx W
    (fun pre W1 W2 h hb => hJ pre W1 W2 none h ⟨hb.os, hb.tape, hb.output, hb.size, fun k hk _ => hb.block k hk⟩ (fun r e => by cases e))
    (fun k hk => by have := hD k hk; omega)
    hY ((hW.cell (p := ⟨Bf, 0, none⟩) hbf).trans hBf) ((hW.cell (p := ⟨Bs, 0, none⟩) hbs).trans hBs) (hF.keeps hKW) h0'
abbrev fnG (b : Nat) : Value := .func (.func 37) #[] #[.pointer (some ⟨b + 1 + 1 + 1, 0, none⟩), .pointer (some ⟨b + 1 + 1 + 1 + 1, 0, none⟩)]
/-- what stays through all loops -/
structure Fg (g : Nat) (s : ByteArray) (b : Nat) (v : Value) (leave : Int) (w W : World) : Prop where
  want : Boxed W b 34 v
  lv : Boxed W (b + 1) 3 (.int .i64 leave)
  res : Boxed W (b + 1 + 1) 4 (.bool false)
  bf : Boxed W (b + 1 + 1 + 1) 23 (.pointer (some ⟨g, 0, none⟩))
  bs : Boxed W (b + 1 + 1 + 1 + 1) 9 (.string s)
  all : Boxed W (b + 1 + 1 + 1 + 1 + 1) 51 (fnG b)
  bel : Below b w W
theorem box_ab {W W' : World} {row : Option Nat} {B B' : Nat} {t : TypeId} {v : Value} (h : Boxed W B' t v) (hg : W.grownBy W' row) (hr : ∀ r, row = some r → B ≤ r ∧ ∃ o : Obj, W.heap[r]? = some o ∧ (o.isCells = false ∨ noW o)) : Boxed W' B' t v := by
  refine h.kept hg ?_
  intro e
  obtain ⟨_, o, h1, h2⟩ := hr _ e.symm
  have h3 : W.heap[B']? = some (.cells #[v] t (0, 0)) := h
  rw [h3] at h1
  cases h1
  rcases h2 with h2 | h2
  · cases h2
  · exact h2
theorem bel_ab {b B : Nat} {w W W' : World} {row : Option Nat} (hB : b ≤ B) (hbw : b ≤ w.heap.size) (h : Below b w W) (hg : W.grownBy W' row) (hr : ∀ r, row = some r → B ≤ r ∧ ∃ o : Obj, W.heap[r]? = some o ∧ (o.isCells = false ∨ noW o)) : Below b w W' :=
  h.trans ⟨hg.os, hg.tape, hg.output, hg.size, fun k hk => by
    by_cases e : some k = row
    · obtain ⟨h1, _⟩ := hr k e.symm
      omega
    · exact hg.block k (Nat.lt_of_lt_of_le hk (Nat.le_trans hbw h.size)) e⟩
theorem Fg.ab {g : Nat} {s : ByteArray} {b : Nat} {v : Value} {leave : Int} {w W W' : World} {row : Option Nat} {B : Nat} (hB : b ≤ B) (hbw : b ≤ w.heap.size) (h : Fg g s b v leave w W) (hg : W.grownBy W' row) (hr : ∀ r, row = some r → B ≤ r ∧ ∃ o : Obj, W.heap[r]? = some o ∧ (o.isCells = false ∨ noW o)) : Fg g s b v leave w W' :=
  ⟨box_ab h.want hg hr, box_ab h.lv hg hr, box_ab h.res hg hr, box_ab h.bf hg hr, box_ab h.bs hg hr, box_ab h.all hg hr, bel_ab hB hbw h.bel hg hr⟩
theorem Fg.al {g : Nat} {s : ByteArray} {b : Nat} {v : Value} {leave : Int} {w W : World} (h : Fg g s b v leave w W) (o : Obj) (hb : b ≤ W.heap.size) : Fg g s b v leave w (W.alloc o) :=
  ⟨h.want.alloc _, h.lv.alloc _, h.res.alloc _, h.bf.alloc _, h.bs.alloc _, h.all.alloc _, h.bel.alloc hb _⟩
theorem Fg.setk {g : Nat} {s : ByteArray} {b : Nat} {v : Value} {leave : Int} {w W : World} {u : Value} {K : Nat} (h : Fg g s b v leave w W) (hK : b + 6 ≤ K) : Fg g s b v leave w (W.setCell ⟨K, 0, none⟩ u) :=
  ⟨h.want.other (by omega) _, h.lv.other (by omega) _, h.res.other (by omega) _, h.bf.other (by omega) _, h.bs.other (by omega) _, h.all.other (by omega) _, h.bel.setCell (p := ⟨K, 0, none⟩) (by show b ≤ K; omega) _⟩
theorem kept_set (B : Nat) (W : World) (k : Nat) (u : Value) : KeptW B noW W (W.setCell ⟨k, 0, none⟩ u) :=
  ⟨by simp [World.setCell], fun i o _ h ho => by
    rcases ho with ho | ho
    · exact (KeepsOthers.setCell W ⟨k, 0, none⟩ u).same i o h ho
    · exact ho.elim⟩
theorem kept_ab {B B' : Nat} {W X Y : World} {row : Option Nat} (h : KeptW B noW W X) (hg : X.grownBy Y row) (hr : ∀ r, row = some r → B' ≤ r ∧ ∃ o : Obj, X.heap[r]? = some o ∧ (o.isCells = false ∨ noW o)) (hB : W.heap.size ≤ B') : KeptW B noW W Y :=
  ⟨Nat.le_trans h.size hg.size, fun k o hk hw ho => by
    have h1 := h.same k o hk hw ho
    have hlt := (Array.getElem?_eq_some_iff.1 hw).1
    rw [hg.block k (Array.getElem?_eq_some_iff.1 h1).1 (fun e => by have := (hr k e.symm).1; omega)]
    exact h1⟩
theorem keeps_ab {D : Nat → Prop} {B' : Nat} {W X Y : World} {row : Option Nat} (h : KeepsB D W X) (hg : X.grownBy Y row) (hr : ∀ r, row = some r → B' ≤ r ∧ ∃ o : Obj, X.heap[r]? = some o ∧ (o.isCells = false ∨ noW o)) (hD : ∀ k, D k → k < B' ∧ k < W.heap.size) : KeepsB D W Y := fun k hk => by
  rw [hg.block k (heap_lt (h k hk) (hD k hk).2) (fun e => by have := (hr k e.symm).1; have := (hD k hk).1; omega)]
  exact h k hk
theorem store_last {P : Program} (X : World) (x v : Value) (t : TypeId) (n : Nat) (hn : n = X.heap.size) (hv : v.oneCell' = true) : (store ⟨n, 0, none⟩ v).run P (X.alloc (.cells #[x] t)) = .ok () (X.alloc (.cells #[v] t)) := by
  subst hn
  have h := Boxed.new X t x
  rw [run_store P _ _ v _ hv, h.cell, h.frozen]
  show Result.ok () _ = _
  rw [World.setCell_alloc_at _ _ _ _ _ rfl]
  rfl
theorem row_sty {w w' : World} {b : Nat} {v : Value} {n : Nat} {xs : List Value} (h : w.ownsRow b 3 1 v n xs) (hb : Below w.heap.size w w') : w'.ownsRow b 3 1 v n xs := by
  refine ⟨h.1, ?_⟩
  rcases h.2 with h2 | ⟨g, cap, cur, h1, h2, h3, h4⟩
  · exact .inl h2
  · exact .inr ⟨g, cap, cur, h1, h2, (hb.block g (Array.getElem?_eq_some_iff.1 h3).1).trans h3, h4⟩
theorem pre_next {α : Type} {pre L : List α} {x y : α} (h : pre <+: L) (hy : L[pre.length]? = some y) : (x = y → pre ++ [x] <+: L) ∧ (x ≠ y → ¬ pre ++ [x] <+: L) := by
  obtain ⟨t, rfl⟩ := h
  rw [List.getElem?_append_right (Nat.le_refl _), Nat.sub_self] at hy
  cases t with
  | nil => simp at hy
  | cons z t =>
    simp at hy
    subst hy
    refine ⟨fun e => by subst e; exact ⟨t, by simp⟩, fun e => ?_⟩
    rintro ⟨u, hu⟩
    rw [List.append_assoc] at hu
    have := List.append_cancel_left hu
    simp at this
    exact e this.1
set_option maxRecDepth 100000 in
set_option maxHeartbeats 8000000 in
theorem goes_any (g : Nat) (fold : Bool) (p s : ByteArray) (k : Int) (D : Nat → Prop) (w : World) (hF : Fnd g fold p k D w) (hD : ∀ k, D k → k < w.heap.size) (hs : s.size ≤ 1048576) (b0 : Nat) (pv : Option Addr) (cv : Nat) (hrow : w.ownsRow b0 3 1 (.slice pv (Lit.plL fold p s).length cv) (Lit.plL fold p s).length (intv (Lit.plL fold p s))) (leave : Int) :
    Calls Tryd.prog 21 #[.pointer (some ⟨g, 0, none⟩), .string s, .slice pv (Lit.plL fold p s).length cv, .int .i64 leave] w fun e w' => e = .returned (.bool true) ∧ Below w.heap.size w w' := by
  refine (callsIn_wide (n := 6)).1 ?_
  obtain ⟨b, hb⟩ : ∃ b, w.heap.size = b := ⟨_, rfl⟩
  have hnf := nil_all
  obtain ⟨LL, hLL⟩ : ∃ LL, Lit.plL fold p s = LL := ⟨_, rfl⟩
  have hLn : LL.length ≤ 1048577 := by rw [← hLL]; have := Lit.plcF_len fold p s (s.size + 1) 0; unfold Lit.plL; omega
  rw [hLL] at hrow
  rw [hLL]
  have HROW := Hid.mk' hrow
  have HF := Hid.mk' hF
  have HD := Hid.mk' hD
  clear hrow hF hD
  have hst := store_last (P := Tryd.prog) (((((w.alloc (.cells #[.slice pv LL.length cv] 34)).alloc (.cells #[.int .i64 leave] 3)).alloc (.cells #[.bool false] 4)).alloc (.cells #[.pointer (some ⟨g, 0, none⟩)] 23)).alloc (.cells #[.string s] 9)) .nilFunc (fnG b) 51 (b + 1 + 1 + 1 + 1 + 1) (by simp [hb]) rfl
  refine callsIn_of_wp_marks Tryd.func21 rfl trivial ?_ rfl
  simp only [Tryd.ntmps21, List.size_toArray, List.length_cons, List.length_nil, Nat.reduceAdd, Nat.reduceSub, Array.replicate_succ, Array.replicate_zero, List.push_toArray, List.append_toArray, List.nil_append, List.cons_append]
  gi_wp2_with (refine ⟨trivial, ?_⟩; gi_at_call 29; refine (callsIn_wide.2 (all_any g s _)).mono ?_; rintro e w3 ⟨rfl, rfl⟩)
  have hDb : ∀ k, D k → k < b := fun k hk => by rw [← hb]; exact HD.out k hk
  obtain ⟨Wp1, hWp1⟩ : ∃ X, ((((((w.alloc (.cells #[.slice pv LL.length cv] 34)).alloc (.cells #[.int .i64 leave] 3)).alloc (.cells #[.bool false] 4)).alloc (.cells #[.pointer (some ⟨g, 0, none⟩)] 23)).alloc (.cells #[.string s] 9)).alloc (.cells #[fnG b] 51)) = X := ⟨_, rfl⟩
  have HFP1 : Hid (Fg g s b (.slice pv LL.length cv) leave w Wp1) := by
    rw [← hWp1]
    refine ⟨?_, ?_, ?_, ?_, ?_, ?_, ?_⟩
    · rw [← hb]; exact (((((Boxed.new w 34 _).alloc _).alloc _).alloc _).alloc _).alloc _
    · have := ((((Boxed.new (w.alloc (.cells #[.slice pv LL.length cv] 34)) 3 (.int .i64 leave)).alloc (.cells #[.bool false] 4)).alloc (.cells #[.pointer (some ⟨g, 0, none⟩)] 23)).alloc (.cells #[.string s] 9)).alloc (.cells #[fnG b] 51)
      simpa [hb] using this
    · have := (((Boxed.new ((w.alloc (.cells #[.slice pv LL.length cv] 34)).alloc (.cells #[.int .i64 leave] 3)) 4 (.bool false)).alloc (.cells #[.pointer (some ⟨g, 0, none⟩)] 23)).alloc (.cells #[.string s] 9)).alloc (.cells #[fnG b] 51)
      simpa [hb] using this
    · have := ((Boxed.new (((w.alloc (.cells #[.slice pv LL.length cv] 34)).alloc (.cells #[.int .i64 leave] 3)).alloc (.cells #[.bool false] 4)) 23 (.pointer (some ⟨g, 0, none⟩))).alloc (.cells #[.string s] 9)).alloc (.cells #[fnG b] 51)
      simpa [hb] using this
    · have := (Boxed.new ((((w.alloc (.cells #[.slice pv LL.length cv] 34)).alloc (.cells #[.int .i64 leave] 3)).alloc (.cells #[.bool false] 4)).alloc (.cells #[.pointer (some ⟨g, 0, none⟩)] 23)) 9 (.string s)).alloc (.cells #[fnG b] 51)
      simpa [hb] using this
    · have := Boxed.new (((((w.alloc (.cells #[.slice pv LL.length cv] 34)).alloc (.cells #[.int .i64 leave] 3)).alloc (.cells #[.bool false] 4)).alloc (.cells #[.pointer (some ⟨g, 0, none⟩)] 23)).alloc (.cells #[.string s] 9)) 51 (fnG b)
      simpa [hb] using this
    · rw [← hb]
      exact ((((((Below.refl _ _).alloc (Nat.le_refl _) _).alloc (by simp) _).alloc (by simp; omega) _).alloc (by simp; omega) _).alloc (by simp; omega) _).alloc (by simp; omega) _
  rw [hWp1]
  clear hWp1 hst
  have ca1 := HFP1.out.all.cell
  have hca1 : ∀ o, (Wp1.alloc o).cell? ⟨b + 1 + 1 + 1 + 1 + 1, 0, none⟩ = some (fnG b) := fun o => (HFP1.out.all.alloc o).cell
  refine wpIn_loop_rounds 3 ?_
  rw [roundsIn_succ]
  gi_wp2
  clear ca1 hca1
  have hfp1 := HFP1.out
  obtain ⟨nb1, hnb1⟩ : ∃ n, Wp1.heap.size = n := ⟨_, rfl⟩
  rw [hnb1]
  obtain ⟨Wn1, hW1⟩ : ∃ X, Wp1.alloc (.cells #[.int .i64 0] 3) = X := ⟨_, rfl⟩
  have hbx1 : b + 6 ≤ nb1 := by rw [← hnb1]; exact hfp1.all.lt
  have hf1 : Fg g s b (.slice pv LL.length cv) leave w Wn1 := by rw [← hW1]; exact hfp1.al _ (by omega)
  have hk1 : Boxed Wn1 nb1 3 (.int .i64 0) := by rw [← hW1, ← hnb1]; exact Boxed.new _ _ _
  have hz1 : Wn1.heap.size ≤ nb1 + 1 ∧ nb1 + 1 ≤ Wn1.heap.size := by rw [← hW1, ← hnb1]; simp
  have HFn1 := Hid.mk' (HF.out.keeps (KeepsB.of_below hf1.bel hDb))
  rw [hW1]
  clear hW1
  refine wpIn_rangeW rfl (by omega) (gf := 37) (lb := #[.pointer (some ⟨b + 1 + 1 + 1, 0, none⟩), .pointer (some ⟨b + 1 + 1 + 1 + 1, 0, none⟩)]) rfl trivial (enters_of Tryd.func37 (by kernel_rfl) rfl)
    (all_seqW 5 (by omega) (b + 1 + 1 + 1) (b + 1 + 1 + 1 + 1) g fold p s k D (by omega) Wn1 (fun k hk => by have := hDb k hk; omega) hf1.bf.cell hf1.bs.cell HFn1.out) (fun _ h => h.elim) KeepsB.t (fun W l o o' hl h h1 => keepsB_put (w := Wn1) (fun k hk => by rcases hk with h | rfl | rfl; have := hDb k h; omega; omega; omega) W l o' hl) (Below.refl _ _) (fun _ => rfl)
    (fun pre W => Fg g s b (.slice pv LL.length cv) leave w W ∧ Boxed W nb1 3 (.int .i64 (pre.length : Int)) ∧ pre <+: LL)
    (fun cd pre W => cd = .ret ∧ ¬ pre <+: LL)
    (fun pre X Y row h hg hr => ⟨h.1.ab (B := Wn1.heap.size) (by omega) (by omega) hg hr, box_ab h.2.1 hg hr, h.2.2⟩)
    (fun cd pre X Y row h hg hr => h)
    ⟨hf1, hk1, List.nil_prefix⟩ (fun x a' W => a' = { tmps := #[.pointer (some ⟨g, 0, none⟩), .string s, .slice pv LL.length cv, .int .i64 leave, undef, undef, .pointer (some ⟨b, 0, none⟩), .pointer (some ⟨b + 1, 0, none⟩), .pointer (some ⟨b + 1 + 1, 0, none⟩), .pointer (some ⟨b + 1 + 1 + 1 + 1 + 1, 0, none⟩), .int .i64 0, .pointer (some ⟨nb1, 0, none⟩), .int .i64 (x : Int), undef, undef, undef, undef, .pointer (some ⟨g, 0, none⟩), .string s, .func (.func 37) #[] #[.pointer (some ⟨b + 1 + 1 + 1, 0, none⟩), .pointer (some ⟨b + 1 + 1 + 1 + 1, 0, none⟩)], fnG b, .bool false, .int .i64 0, .bool true, undef, undef, fnG b, .int .i64 (x : Int), undef, undef, undef, undef, undef, undef, undef, undef, undef, undef, undef, undef, undef, undef, undef, undef, undef, undef, undef, undef, undef, undef, undef, undef, undef, undef, undef, undef, undef, undef, undef, undef, undef, undef, undef, undef, undef, undef, undef, undef, undef, undef, undef, undef, undef, undef, undef, undef, undef, undef, undef, undef, undef, undef, undef, undef, undef, undef, undef, undef, undef, undef, undef, undef, undef, undef, undef, undef], defers := [] }) (fun x a' _ X Y row h hg hr => h) ?assign1 ?body1 ?done1 ?stop1
  case assign1 =>
    intro l pre x W K hi hK
    simp only [encA]
    gi_wp2
    exact hK _ _ (KeptW.refl _ _ _) (fun _ _ => rfl) hi rfl
  case stop1 =>
    rintro D1 cd pre W hD hpre ⟨rfl, hn⟩ hdef
    rw [hLL] at hpre
    exact absurd hpre hn
  case body1 =>
    rintro l pre x a' W hl ⟨rl, hrl⟩ ⟨hfx, hk, hpre⟩ rfl hlen
    rw [hLL] at hlen
    obtain ⟨y, hy⟩ : ∃ y, LL[pre.length]? = some y := ⟨_, List.getElem?_eq_getElem hlen⟩
    have hnl := pre_next (x := x) hpre hy
    obtain ⟨q, hq⟩ : ∃ q, pre.length = q := ⟨_, rfl⟩
    rw [hq] at hk hlen hy
    have hrw := row_sty HROW.out (by rw [hb]; exact hfx.bel)
    rcases own_cells hrw with ⟨_, e⟩ | ⟨gg, cc, e, _, hggw, hcl⟩
    · exfalso
      rw [e] at hlen
      simp at hlen
    cases e
    have k1 := hcl q hlen
    rw [List.getD_eq_getElem?_getD, hy] at k1
    have k1 : W.cell? ⟨gg, q, none⟩ = some (.int .i64 (y : Int)) := k1
    have HCL := Hid.mk' (fun (X : World) (hX : Below b w X) (i : Nat) (hi : i < LL.length) => (show X.cell? ⟨gg, i, none⟩ = some (.int .i64 ((LL.getD i 0 : Nat) : Int)) from by
      have h := row_sty HROW.out (by rw [hb]; exact hX)
      rw [h.cellAt i (by omega)]
      unfold intv
      rw [List.getElem?_map, List.getElem?_eq_getElem hi, List.getD_eq_getElem?_getD, List.getElem?_eq_getElem hi]
      rfl))
    have ck := hk.cell
    have fk := hk.frozen
    have cw := hfx.want.cell
    have cr := hfx.res.cell
    have fr := hfx.res.frozen
    have ca := hfx.all.cell
    have hca2 : ∀ o, (W.alloc o).cell? ⟨b + 1 + 1 + 1 + 1 + 1, 0, none⟩ = some (fnG b) := fun o => (hfx.all.alloc o).cell
    have HQ := Hid.mk' hq
    have HFX := Hid.mk' hfx
    have HK := Hid.mk' hk
    have HRL := Hid.mk' hrl
    have HNL := Hid.mk' hnl
    have hqN : q < LL.length := hlen
    have hqlI : ¬ (LL.length : Int) ≤ (q : Int) := by omega
    have hqlB : decide ((LL.length : Int) ≤ (q : Int)) = false := by simp; omega
    have hNotD : ¬ AllD D (b + 1 + 1 + 1) (b + 1 + 1 + 1 + 1) nb1 := by rintro (h | h | h); have := hDb _ h; omega; omega; omega
    clear hfx hk hcl hrw hnl hq hy hlen hrl
    by_cases hA : x = y
    · subst hA
      have hAI : ((x : Int) != (x : Int)) = false := by simp
      by_cases hq1 : q = 1
      · have hsqI : ((q : Int) == 1) = true := by simp; omega
        have HSQ := Hid.mk' hq1
        clear hq1
        gi_wp2
        clear ck fk cw cr fr ca hca2 k1
        obtain ⟨W3, hW3⟩ : ∃ W3, W.alloc (.cells #[.int .i64 0] 3) = W3 := ⟨_, rfl⟩
        have hbW : b ≤ W.heap.size := by have := HFX.out.all.lt; omega
        have hf3 : Fg g s b (.slice (some ⟨gg, 0, none⟩) LL.length cv) leave w W3 := by rw [← hW3]; exact HFX.out.al _ hbW
        have hk3 : Boxed W3 nb1 3 (.int .i64 (q : Int)) := by rw [← hW3]; exact HK.out.alloc _
        have hi3 : Boxed W3 W.heap.size 3 (.int .i64 0) := by rw [← hW3]; exact Boxed.new W _ _
        have hl3 : W3.heap[l]? = some (.loop rl) := by
          rw [← hW3, Below.heap_alloc _ _ _ (Array.getElem?_eq_some_iff.1 HRL.out).1]
          exact HRL.out
        have hz3 : W3.heap.size ≤ W.heap.size + 1 ∧ W.heap.size + 1 ≤ W3.heap.size := by rw [← hW3]; simp
        have hkk3 : KeptW Wn1.heap.size noW W W3 := by
          rw [← hW3]
          exact ⟨by simp, fun i o _ h _ => (Below.heap_alloc _ _ _ (Array.getElem?_eq_some_iff.1 h).1).trans h⟩
        have hkl := HK.out.lt
        have hWall := HFX.out.all.lt
        have hADW : ∀ k, AllD D (b + 1 + 1 + 1) (b + 1 + 1 + 1 + 1) k → k < W.heap.size := fun k hk => by rcases hk with h | rfl | rfl; have := hDb k h; omega; omega; omega
        have hkp3 : KeepsB (AllD D (b + 1 + 1 + 1) (b + 1 + 1 + 1 + 1)) W W3 := by
          rw [← hW3]
          exact KeepsB.of_below (N := W.heap.size) ((Below.refl _ _).alloc (Nat.le_refl _) _) hADW
        have HF3 := Hid.mk' (HF.out.keeps (KeepsB.of_below hf3.bel hDb))
        rw [hW3]
        clear hW3
        refine wpIn_rangeW_in (l₀ := l) (r₀ := rl) rfl hl3 (by omega) (gf := 37) (lb := #[.pointer (some ⟨b + 1 + 1 + 1, 0, none⟩), .pointer (some ⟨b + 1 + 1 + 1 + 1, 0, none⟩)]) rfl trivial (enters_of Tryd.func37 (by kernel_rfl) rfl)
          (show SeqW (Fence.wide.inRound l) 3 Tryd.prog 37 #[.pointer (some ⟨b + 1 + 1 + 1, 0, none⟩), .pointer (some ⟨b + 1 + 1 + 1 + 1, 0, none⟩)] encA noW (KeepsB (AllD D (b + 1 + 1 + 1) (b + 1 + 1 + 1 + 1))) (fun ys => ys = Lit.plL fold p s) (fun pre => pre <+: Lit.plL fold p s) (Lit.plL fold p s).length W3 from (all_seqW 3 (by omega) (b + 1 + 1 + 1) (b + 1 + 1 + 1 + 1) g fold p s k D (by omega) W3 (fun k hk => by have := hDb k hk; omega) hf3.bf.cell hf3.bs.cell HF3.out)) (fun _ h => h.elim) KeepsB.t (fun W l o o' hl h h1 => keepsB_put (w := W3) (fun k hk => by have := hADW k hk; omega) W l o' hl) (Below.refl _ _) (fun _ => rfl)
          (fun qre X => Fg g s b (.slice (some ⟨gg, 0, none⟩) LL.length cv) leave w X ∧ Boxed X nb1 3 (.int .i64 (q : Int)) ∧ Boxed X W.heap.size 3 (.int .i64 (qre.length : Int)) ∧ qre <+: LL ∧ KeptW Wn1.heap.size noW W X ∧ KeepsB (AllD D (b + 1 + 1 + 1) (b + 1 + 1 + 1 + 1)) W X)
          (fun cd qre X => cd = .ret ∧ ¬ qre <+: LL)
          (fun qre X Y row h hg hr => ⟨h.1.ab (B := W3.heap.size) (by omega) (by omega) hg hr, box_ab h.2.1 hg hr, box_ab h.2.2.1 hg hr, h.2.2.2.1, kept_ab h.2.2.2.2.1 hg hr (by omega), keeps_ab h.2.2.2.2.2 hg hr (fun k hk => by have := hADW k hk; omega)⟩)
          (fun cd qre X Y row h hg hr => h)
          ⟨hf3, hk3, hi3, List.nil_prefix, hkk3, hkp3⟩ (fun z a' X => a' = { tmps := #[.pointer (some ⟨g, 0, none⟩), .string s, .slice (some ⟨gg, 0, none⟩) LL.length cv, .int .i64 leave, undef, undef, .pointer (some ⟨b, 0, none⟩), .pointer (some ⟨b + 1, 0, none⟩), .pointer (some ⟨b + 1 + 1, 0, none⟩), .pointer (some ⟨b + 1 + 1 + 1 + 1 + 1, 0, none⟩), .int .i64 0, .pointer (some ⟨nb1, 0, none⟩), .int .i64 (x : Int), .pointer (some ⟨W.heap.size, 0, none⟩), .int .i64 (z : Int), undef, undef, .pointer (some ⟨g, 0, none⟩), .string s, .func (.func 37) #[] #[.pointer (some ⟨b + 1 + 1 + 1, 0, none⟩), .pointer (some ⟨b + 1 + 1 + 1 + 1, 0, none⟩)], fnG b, .bool false, .int .i64 0, .bool true, undef, undef, fnG b, .int .i64 (x : Int), .int .i64 (q : Int), .slice (some ⟨gg, 0, none⟩) LL.length cv, .int .i64 (LL.length : Int), .bool false, .bool false, .int .i64 (x : Int), .slice (some ⟨gg, 0, none⟩) LL.length cv, .int .i64 (q : Int), .pointer (some ⟨gg, q, none⟩), .int .i64 (x : Int), .bool false, .bool false, .int .i64 (q : Int), .bool true, fnG b, .int .i64 (z : Int), undef, undef, undef, undef, undef, undef, undef, undef, undef, undef, undef, undef, undef, undef, undef, undef, undef, undef, undef, undef, undef, undef, undef, undef, undef, undef, undef, undef, undef, undef, undef, undef, undef, undef, undef, undef, undef, undef, undef, undef, undef, undef, undef, undef, undef, undef, undef, undef, undef, undef, undef, undef], defers := [] }) (fun x a' _ X Y row h hg hr => h) ?assignN1 ?bodyN1 ?doneN1 ?stopN1
        case assignN1 =>
          intro l2 qre z X K hi hK
          simp only [encA]
          gi_wp2
          exact hK _ _ (KeptW.refl _ _ _) (fun _ _ => rfl) hi rfl
        case stopN1 =>
          rintro cd qre X hpre ⟨rfl, hn⟩
          rw [hLL] at hpre
          exact absurd hpre hn
        case bodyN1 =>
          rintro l2 qre z a' X hl2 _ ⟨hfx, hk, hib, hpre, hkk, hkp⟩ rfl hlen
          rw [hLL] at hlen
          obtain ⟨y2, hy2⟩ : ∃ y, LL[qre.length]? = some y := ⟨_, List.getElem?_eq_getElem hlen⟩
          have hnl := pre_next (x := z) hpre hy2
          obtain ⟨m, hm⟩ : ∃ m, qre.length = m := ⟨_, rfl⟩
          rw [hm] at hib hlen hy2
          have k2 := HCL.out X hfx.bel m hlen
          rw [List.getD_eq_getElem?_getD, hy2] at k2
          have k2 : X.cell? ⟨gg, m, none⟩ = some (.int .i64 (y2 : Int)) := k2
          have ck := hib.cell
          have fk := hib.frozen
          have cw := hfx.want.cell
          have cr := hfx.res.cell
          have fr := hfx.res.frozen
          have HM := Hid.mk' hm
          have HFY := Hid.mk' hfx
          have HKY := Hid.mk' hk
          have HIB := Hid.mk' hib
          have HKP := Hid.mk' (And.intro hkk hkp)
          have HNM := Hid.mk' hnl
          have hmN : m < LL.length := hlen
          have hmlI : ¬ (LL.length : Int) ≤ (m : Int) := by omega
          have hmlB : decide ((LL.length : Int) ≤ (m : Int)) = false := by simp; omega
          clear hfx hk hib hpre hkk hkp hnl hm hy2 hlen
          by_cases hA2 : z = y2
          · subst hA2
            have hAI2 : ((z : Int) != (z : Int)) = false := by simp
            gi_wp2
            exact ⟨kept_set _ _ _ _, keepsB_set _ (fun h => by have := hADW _ h; omega), HFY.out.setk (by omega), HKY.out.other (by omega) _, by have := HIB.out.set (.int .i64 ((m : Int) + 1)); rw [List.length_append, HM.out]; simpa using this, HNM.out.1 trivial, HKP.out.1.trans (kept_set _ _ _ _), HKP.out.2.t (keepsB_set _ (fun h => by have := hADW _ h; omega))⟩
          · have hAI2 : ((z : Int) != (y2 : Int)) = true := by simp; omega
            gi_wp2
            exact ⟨kept_set _ _ _ _, rfl, HNM.out.2 hA2⟩
        case doneN1 =>
          rintro ys X rfl ⟨hfx, hk, hib, hpre, hkk, hkp⟩
          rw [hLL] at hib
          have cw := hfx.want.cell
          have ci := hib.cell
          have ck2 := hk.cell
          have fk2 := hk.frozen
          have HFY := Hid.mk' hfx
          have HKY := Hid.mk' hk
          have HKP := Hid.mk' (And.intro hkk hkp)
          clear hfx hk hib hkk hkp
          have hnn : ((LL.length : Int) != (LL.length : Int)) = false := by simp
          gi_wp2
          exact ⟨HKP.out.1.trans (kept_set _ _ _ _), HKP.out.2.t (keepsB_set _ hNotD), HFY.out.setk (by omega), by have := HKY.out.set (.int .i64 ((q : Int) + 1)); rw [List.length_append, HQ.out]; simpa using this, HNL.out.1 trivial⟩
      · have hsqI : ((q : Int) == 1) = false := by simp; omega
        gi_wp2
        exact ⟨kept_set _ _ _ _, keepsB_set _ hNotD, HFX.out.setk (by omega), by have := HK.out.set (.int .i64 ((q : Int) + 1)); rw [List.length_append, HQ.out]; simpa using this, HNL.out.1 trivial⟩
    · have hAI : ((x : Int) != (y : Int)) = true := by simp; omega
      gi_wp2
      exact ⟨kept_set _ _ _ _, rfl, HNL.out.2 hA⟩
  case done1 =>
    rintro D1 xs Wp2 hDg1 rfl ⟨hfx, hk, hpre⟩ hdef
    rw [hLL] at hk
    have ck := hk.cell
    have cw := hfx.want.cell
    have ca := hfx.all.cell
    have hca2 : ∀ o, (Wp2.alloc o).cell? ⟨b + 1 + 1 + 1 + 1 + 1, 0, none⟩ = some (fnG b) := fun o => (hfx.all.alloc o).cell
    have hnn : ((LL.length : Int) != (LL.length : Int)) = false := by simp
    have HFP2 := Hid.mk' hfx
    have HD1x1 := Hid.mk' hdef
    clear hfx hk hpre hdef
    gi_wp2
    rw [roundsIn_succ]
    gi_wp2
    clear ck cw ca hca2
    have hdp12 := HD1x1.out
    have hfp2 := HFP2.out
    obtain ⟨nb2, hnb2⟩ : ∃ n, Wp2.heap.size = n := ⟨_, rfl⟩
    rw [hnb2]
    obtain ⟨Wn2, hW2⟩ : ∃ X, Wp2.alloc (.cells #[.int .i64 0] 3) = X := ⟨_, rfl⟩
    have hbx2 : b + 6 ≤ nb2 := by rw [← hnb2]; exact hfp2.all.lt
    have hf2 : Fg g s b (.slice pv LL.length cv) leave w Wn2 := by rw [← hW2]; exact hfp2.al _ (by omega)
    have hk2 : Boxed Wn2 nb2 3 (.int .i64 0) := by rw [← hW2, ← hnb2]; exact Boxed.new _ _ _
    have hz2 : Wn2.heap.size ≤ nb2 + 1 ∧ nb2 + 1 ≤ Wn2.heap.size := by rw [← hW2, ← hnb2]; simp
    have hd12 : Wn2.heap[D1]? = some (.deferred (some [])) := by rw [← hW2, Below.heap_alloc _ _ _ (Array.getElem?_eq_some_iff.1 hdp12).1]; exact hdp12
    have hDl12 : D1 < Wn2.heap.size := (Array.getElem?_eq_some_iff.1 hd12).1
    have HFn2 := Hid.mk' (HF.out.keeps (KeepsB.of_below hf2.bel hDb))
    rw [hW2]
    clear hW2
    refine wpIn_rangeW rfl (by omega) (gf := 37) (lb := #[.pointer (some ⟨b + 1 + 1 + 1, 0, none⟩), .pointer (some ⟨b + 1 + 1 + 1 + 1, 0, none⟩)]) rfl trivial (enters_of Tryd.func37 (by kernel_rfl) rfl)
      (all_seqW 5 (by omega) (b + 1 + 1 + 1) (b + 1 + 1 + 1 + 1) g fold p s k D (by omega) Wn2 (fun k hk => by have := hDb k hk; omega) hf2.bf.cell hf2.bs.cell HFn2.out) (fun _ h => h.elim) KeepsB.t (fun W l o o' hl h h1 => keepsB_put (w := Wn2) (fun k hk => by rcases hk with h | rfl | rfl; have := hDb k h; omega; omega; omega) W l o' hl) (Below.refl _ _) (fun _ => rfl)
      (fun pre W => Fg g s b (.slice pv LL.length cv) leave w W ∧ Boxed W nb2 3 (.int .i64 (pre.length : Int)) ∧ pre <+: LL ∧ W.heap[D1]? = some (.deferred (some [])))
      (fun cd pre W => cd = .ret ∧ ¬ pre <+: LL)
      (fun pre X Y row h hg hr => ⟨h.1.ab (B := Wn2.heap.size) (by omega) (by omega) hg hr, box_ab h.2.1 hg hr, h.2.2.1, (hg.block D1 (Array.getElem?_eq_some_iff.1 h.2.2.2).1 (fun e => by have := (hr D1 e.symm).1; omega)).trans h.2.2.2⟩)
      (fun cd pre X Y row h hg hr => h)
      ⟨hf2, hk2, List.nil_prefix, hd12⟩ (fun x a' W => a' = { tmps := #[.pointer (some ⟨g, 0, none⟩), .string s, .slice pv LL.length cv, .int .i64 leave, undef, undef, .pointer (some ⟨b, 0, none⟩), .pointer (some ⟨b + 1, 0, none⟩), .pointer (some ⟨b + 1 + 1, 0, none⟩), .pointer (some ⟨b + 1 + 1 + 1 + 1 + 1, 0, none⟩), .int .i64 1, .pointer (some ⟨nb2, 0, none⟩), .int .i64 (x : Int), undef, undef, undef, undef, .pointer (some ⟨g, 0, none⟩), .string s, .func (.func 37) #[] #[.pointer (some ⟨b + 1 + 1 + 1, 0, none⟩), .pointer (some ⟨b + 1 + 1 + 1 + 1, 0, none⟩)], fnG b, .bool false, .int .i64 1, .bool true, .int .i64 0, .int .i64 1, fnG b, .int .i64 (x : Int), undef, undef, undef, undef, undef, undef, undef, undef, undef, undef, undef, undef, undef, undef, undef, undef, undef, undef, undef, undef, undef, undef, undef, undef, undef, undef, undef, undef, undef, undef, undef, undef, undef, undef, undef, undef, .int .i64 (LL.length : Int), .slice pv LL.length cv, .int .i64 (LL.length : Int), .bool false, undef, undef, undef, undef, undef, undef, undef, undef, undef, undef, undef, undef, undef, undef, undef, undef, undef, undef, undef, undef, undef, undef, undef, undef, undef, undef, undef, undef], defers := [] }) (fun x a' _ X Y row h hg hr => h) ?assign2 ?body2 ?done2 ?stop2
    case assign2 =>
      intro l pre x W K hi hK
      simp only [encA]
      gi_wp2
      exact hK _ _ (KeptW.refl _ _ _) (fun _ _ => rfl) hi rfl
    case stop2 =>
      rintro D2 cd pre W hD hpre ⟨rfl, hn⟩ hdef
      rw [hLL] at hpre
      exact absurd hpre hn
    case body2 =>
      rintro l pre x a' W hl ⟨rl, hrl⟩ ⟨hfx, hk, hpre, hdd1⟩ rfl hlen
      rw [hLL] at hlen
      obtain ⟨y, hy⟩ : ∃ y, LL[pre.length]? = some y := ⟨_, List.getElem?_eq_getElem hlen⟩
      have hnl := pre_next (x := x) hpre hy
      obtain ⟨q, hq⟩ : ∃ q, pre.length = q := ⟨_, rfl⟩
      rw [hq] at hk hlen hy
      have hrw := row_sty HROW.out (by rw [hb]; exact hfx.bel)
      rcases own_cells hrw with ⟨_, e⟩ | ⟨gg, cc, e, _, hggw, hcl⟩
      · exfalso
        rw [e] at hlen
        simp at hlen
      cases e
      have k1 := hcl q hlen
      rw [List.getD_eq_getElem?_getD, hy] at k1
      have k1 : W.cell? ⟨gg, q, none⟩ = some (.int .i64 (y : Int)) := k1
      have HCL := Hid.mk' (fun (X : World) (hX : Below b w X) (i : Nat) (hi : i < LL.length) => (show X.cell? ⟨gg, i, none⟩ = some (.int .i64 ((LL.getD i 0 : Nat) : Int)) from by
        have h := row_sty HROW.out (by rw [hb]; exact hX)
        rw [h.cellAt i (by omega)]
        unfold intv
        rw [List.getElem?_map, List.getElem?_eq_getElem hi, List.getD_eq_getElem?_getD, List.getElem?_eq_getElem hi]
        rfl))
      have ck := hk.cell
      have fk := hk.frozen
      have cw := hfx.want.cell
      have cr := hfx.res.cell
      have fr := hfx.res.frozen
      have ca := hfx.all.cell
      have hca2 : ∀ o, (W.alloc o).cell? ⟨b + 1 + 1 + 1 + 1 + 1, 0, none⟩ = some (fnG b) := fun o => (hfx.all.alloc o).cell
      have HQ := Hid.mk' hq
      have HFX := Hid.mk' hfx
      have HK := Hid.mk' hk
      have HRL := Hid.mk' hrl
      have HDS := Hid.mk' (hdd1)
      have HNL := Hid.mk' hnl
      have hqN : q < LL.length := hlen
      have hqlI : ¬ (LL.length : Int) ≤ (q : Int) := by omega
      have hqlB : decide ((LL.length : Int) ≤ (q : Int)) = false := by simp; omega
      have hNotD : ¬ AllD D (b + 1 + 1 + 1) (b + 1 + 1 + 1 + 1) nb2 := by rintro (h | h | h); have := hDb _ h; omega; omega; omega
      clear hfx hk hcl hrw hnl hq hy hlen hrl hdd1
      by_cases hA : x = y
      · subst hA
        have hAI : ((x : Int) != (x : Int)) = false := by simp
        by_cases hq1 : q = 1
        · have hsqI : ((q : Int) == 1) = true := by simp; omega
          have HSQ := Hid.mk' hq1
          clear hq1
          gi_wp2
          clear ck fk cw cr fr ca hca2 k1
          obtain ⟨W3, hW3⟩ : ∃ W3, W.alloc (.cells #[.int .i64 0] 3) = W3 := ⟨_, rfl⟩
          have hbW : b ≤ W.heap.size := by have := HFX.out.all.lt; omega
          have hf3 : Fg g s b (.slice (some ⟨gg, 0, none⟩) LL.length cv) leave w W3 := by rw [← hW3]; exact HFX.out.al _ hbW
          have hk3 : Boxed W3 nb2 3 (.int .i64 (q : Int)) := by rw [← hW3]; exact HK.out.alloc _
          have hi3 : Boxed W3 W.heap.size 3 (.int .i64 0) := by rw [← hW3]; exact Boxed.new W _ _
          have hd31 : W3.heap[D1]? = some (.deferred (some [])) := by
            rw [← hW3, Below.heap_alloc _ _ _ (Array.getElem?_eq_some_iff.1 (show W.heap[D1]? = some (.deferred (some [])) from HDS.out)).1]
            exact HDS.out
          have hl3 : W3.heap[l]? = some (.loop rl) := by
            rw [← hW3, Below.heap_alloc _ _ _ (Array.getElem?_eq_some_iff.1 HRL.out).1]
            exact HRL.out
          have hz3 : W3.heap.size ≤ W.heap.size + 1 ∧ W.heap.size + 1 ≤ W3.heap.size := by rw [← hW3]; simp
          have hkk3 : KeptW Wn2.heap.size noW W W3 := by
            rw [← hW3]
            exact ⟨by simp, fun i o _ h _ => (Below.heap_alloc _ _ _ (Array.getElem?_eq_some_iff.1 h).1).trans h⟩
          have hkl := HK.out.lt
          have hWall := HFX.out.all.lt
          have hADW : ∀ k, AllD D (b + 1 + 1 + 1) (b + 1 + 1 + 1 + 1) k → k < W.heap.size := fun k hk => by rcases hk with h | rfl | rfl; have := hDb k h; omega; omega; omega
          have hkp3 : KeepsB (AllD D (b + 1 + 1 + 1) (b + 1 + 1 + 1 + 1)) W W3 := by
            rw [← hW3]
            exact KeepsB.of_below (N := W.heap.size) ((Below.refl _ _).alloc (Nat.le_refl _) _) hADW
          have HF3 := Hid.mk' (HF.out.keeps (KeepsB.of_below hf3.bel hDb))
          have hDW1 : D1 < W.heap.size := (Array.getElem?_eq_some_iff.1 (show W.heap[D1]? = some (.deferred (some [])) from HDS.out)).1
          rw [hW3]
          clear hW3
          refine wpIn_rangeW_in (l₀ := l) (r₀ := rl) rfl hl3 (by omega) (gf := 37) (lb := #[.pointer (some ⟨b + 1 + 1 + 1, 0, none⟩), .pointer (some ⟨b + 1 + 1 + 1 + 1, 0, none⟩)]) rfl trivial (enters_of Tryd.func37 (by kernel_rfl) rfl)
            (show SeqW (Fence.wide.inRound l) 3 Tryd.prog 37 #[.pointer (some ⟨b + 1 + 1 + 1, 0, none⟩), .pointer (some ⟨b + 1 + 1 + 1 + 1, 0, none⟩)] encA noW (KeepsB (AllD D (b + 1 + 1 + 1) (b + 1 + 1 + 1 + 1))) (fun ys => ys = Lit.plL fold p s) (fun pre => pre <+: Lit.plL fold p s) (Lit.plL fold p s).length W3 from (all_seqW 3 (by omega) (b + 1 + 1 + 1) (b + 1 + 1 + 1 + 1) g fold p s k D (by omega) W3 (fun k hk => by have := hDb k hk; omega) hf3.bf.cell hf3.bs.cell HF3.out)) (fun _ h => h.elim) KeepsB.t (fun W l o o' hl h h1 => keepsB_put (w := W3) (fun k hk => by have := hADW k hk; omega) W l o' hl) (Below.refl _ _) (fun _ => rfl)
            (fun qre X => Fg g s b (.slice (some ⟨gg, 0, none⟩) LL.length cv) leave w X ∧ Boxed X nb2 3 (.int .i64 (q : Int)) ∧ Boxed X W.heap.size 3 (.int .i64 (qre.length : Int)) ∧ qre <+: LL ∧ KeptW Wn2.heap.size noW W X ∧ KeepsB (AllD D (b + 1 + 1 + 1) (b + 1 + 1 + 1 + 1)) W X ∧ X.heap[D1]? = some (.deferred (some [])))
            (fun cd qre X => cd = .ret ∧ ¬ qre <+: LL)
            (fun qre X Y row h hg hr => ⟨h.1.ab (B := W3.heap.size) (by omega) (by omega) hg hr, box_ab h.2.1 hg hr, box_ab h.2.2.1 hg hr, h.2.2.2.1, kept_ab h.2.2.2.2.1 hg hr (by omega), keeps_ab h.2.2.2.2.2.1 hg hr (fun k hk => by have := hADW k hk; omega), (hg.block D1 (Array.getElem?_eq_some_iff.1 h.2.2.2.2.2.2).1 (fun e => by have := (hr D1 e.symm).1; omega)).trans h.2.2.2.2.2.2⟩)
            (fun cd qre X Y row h hg hr => h)
            ⟨hf3, hk3, hi3, List.nil_prefix, hkk3, hkp3, hd31⟩ (fun z a' X => a' = { tmps := #[.pointer (some ⟨g, 0, none⟩), .string s, .slice (some ⟨gg, 0, none⟩) LL.length cv, .int .i64 leave, undef, undef, .pointer (some ⟨b, 0, none⟩), .pointer (some ⟨b + 1, 0, none⟩), .pointer (some ⟨b + 1 + 1, 0, none⟩), .pointer (some ⟨b + 1 + 1 + 1 + 1 + 1, 0, none⟩), .int .i64 1, .pointer (some ⟨nb2, 0, none⟩), .int .i64 (x : Int), .pointer (some ⟨W.heap.size, 0, none⟩), .int .i64 (z : Int), undef, undef, .pointer (some ⟨g, 0, none⟩), .string s, .func (.func 37) #[] #[.pointer (some ⟨b + 1 + 1 + 1, 0, none⟩), .pointer (some ⟨b + 1 + 1 + 1 + 1, 0, none⟩)], fnG b, .bool false, .int .i64 1, .bool true, .int .i64 0, .int .i64 1, fnG b, .int .i64 (x : Int), .int .i64 (q : Int), .slice (some ⟨gg, 0, none⟩) LL.length cv, .int .i64 (LL.length : Int), .bool false, .bool false, .int .i64 (x : Int), .slice (some ⟨gg, 0, none⟩) LL.length cv, .int .i64 (q : Int), .pointer (some ⟨gg, q, none⟩), .int .i64 (x : Int), .bool false, .bool false, .int .i64 (q : Int), .bool true, fnG b, .int .i64 (z : Int), undef, undef, undef, undef, undef, undef, undef, undef, undef, undef, undef, undef, undef, undef, undef, undef, undef, undef, undef, undef, .int .i64 (LL.length : Int), .slice (some ⟨gg, 0, none⟩) LL.length cv, .int .i64 (LL.length : Int), .bool false, undef, undef, undef, undef, undef, undef, undef, undef, undef, undef, undef, undef, undef, undef, undef, undef, undef, undef, undef, undef, undef, undef, undef, undef, undef, undef, undef, undef], defers := [] }) (fun x a' _ X Y row h hg hr => h) ?assignN2 ?bodyN2 ?doneN2 ?stopN2
          case assignN2 =>
            intro l2 qre z X K hi hK
            simp only [encA]
            gi_wp2
            exact hK _ _ (KeptW.refl _ _ _) (fun _ _ => rfl) hi rfl
          case stopN2 =>
            rintro cd qre X hpre ⟨rfl, hn⟩
            rw [hLL] at hpre
            exact absurd hpre hn
          case bodyN2 =>
            rintro l2 qre z a' X hl2 _ ⟨hfx, hk, hib, hpre, hkk, hkp, hdd1⟩ rfl hlen
            rw [hLL] at hlen
            obtain ⟨y2, hy2⟩ : ∃ y, LL[qre.length]? = some y := ⟨_, List.getElem?_eq_getElem hlen⟩
            have hnl := pre_next (x := z) hpre hy2
            obtain ⟨m, hm⟩ : ∃ m, qre.length = m := ⟨_, rfl⟩
            rw [hm] at hib hlen hy2
            have k2 := HCL.out X hfx.bel m hlen
            rw [List.getD_eq_getElem?_getD, hy2] at k2
            have k2 : X.cell? ⟨gg, m, none⟩ = some (.int .i64 (y2 : Int)) := k2
            have ck := hib.cell
            have fk := hib.frozen
            have cw := hfx.want.cell
            have cr := hfx.res.cell
            have fr := hfx.res.frozen
            have HM := Hid.mk' hm
            have HFY := Hid.mk' hfx
            have HKY := Hid.mk' hk
            have HIB := Hid.mk' hib
            have HKP := Hid.mk' (And.intro hkk hkp)
            have HDY := Hid.mk' (hdd1)
            have HNM := Hid.mk' hnl
            have hmN : m < LL.length := hlen
            have hmlI : ¬ (LL.length : Int) ≤ (m : Int) := by omega
            have hmlB : decide ((LL.length : Int) ≤ (m : Int)) = false := by simp; omega
            clear hfx hk hib hpre hkk hkp hnl hm hy2 hlen hdd1
            by_cases hA2 : z = y2
            · subst hA2
              have hAI2 : ((z : Int) != (z : Int)) = false := by simp
              gi_wp2
              exact ⟨kept_set _ _ _ _, keepsB_set _ (fun h => by have := hADW _ h; omega), HFY.out.setk (by omega), HKY.out.other (by omega) _, by have := HIB.out.set (.int .i64 ((m : Int) + 1)); rw [List.length_append, HM.out]; simpa using this, HNM.out.1 trivial, HKP.out.1.trans (kept_set _ _ _ _), HKP.out.2.t (keepsB_set _ (fun h => by have := hADW _ h; omega)), (KeepsOthers.setCell X _ _).same D1 _ HDY.out rfl⟩
            · have hAI2 : ((z : Int) != (y2 : Int)) = true := by simp; omega
              gi_wp2
              exact ⟨kept_set _ _ _ _, rfl, HNM.out.2 hA2⟩
          case doneN2 =>
            rintro ys X rfl ⟨hfx, hk, hib, hpre, hkk, hkp, hdd1⟩
            rw [hLL] at hib
            have cw := hfx.want.cell
            have ci := hib.cell
            have ck2 := hk.cell
            have fk2 := hk.frozen
            have HFY := Hid.mk' hfx
            have HKY := Hid.mk' hk
            have HKP := Hid.mk' (And.intro hkk hkp)
            have HDY := Hid.mk' (hdd1)
            clear hfx hk hib hkk hkp hdd1
            have hnn : ((LL.length : Int) != (LL.length : Int)) = false := by simp
            gi_wp2
            exact ⟨HKP.out.1.trans (kept_set _ _ _ _), HKP.out.2.t (keepsB_set _ hNotD), HFY.out.setk (by omega), by have := HKY.out.set (.int .i64 ((q : Int) + 1)); rw [List.length_append, HQ.out]; simpa using this, HNL.out.1 trivial, (KeepsOthers.setCell X _ _).same D1 _ HDY.out rfl⟩
        · have hsqI : ((q : Int) == 1) = false := by simp; omega
          gi_wp2
          exact ⟨kept_set _ _ _ _, keepsB_set _ hNotD, HFX.out.setk (by omega), by have := HK.out.set (.int .i64 ((q : Int) + 1)); rw [List.length_append, HQ.out]; simpa using this, HNL.out.1 trivial, (KeepsOthers.setCell W _ _).same D1 _ HDS.out rfl⟩
      · have hAI : ((x : Int) != (y : Int)) = true := by simp; omega
        gi_wp2
        exact ⟨kept_set _ _ _ _, rfl, HNL.out.2 hA⟩
    case done2 =>
      rintro D2 xs Wp3 hDg2 rfl ⟨hfx, hk, hpre, hdd1⟩ hdef
      rw [hLL] at hk
      have ck := hk.cell
      have cw := hfx.want.cell
      have ca := hfx.all.cell
      have hca2 : ∀ o, (Wp3.alloc o).cell? ⟨b + 1 + 1 + 1 + 1 + 1, 0, none⟩ = some (fnG b) := fun o => (hfx.all.alloc o).cell
      have hnn : ((LL.length : Int) != (LL.length : Int)) = false := by simp
      have HFP3 := Hid.mk' hfx
      have HD1x2 := Hid.mk' hdd1
      have HD2x2 := Hid.mk' hdef
      clear hfx hk hpre hdef hdd1
      gi_wp2
      rw [roundsIn_succ]
      gi_wp2
      clear ck cw ca hca2
      have hdp13 := HD1x2.out
      have hdp23 := HD2x2.out
      have hfp3 := HFP3.out
      obtain ⟨nb3, hnb3⟩ : ∃ n, Wp3.heap.size = n := ⟨_, rfl⟩
      rw [hnb3]
      obtain ⟨Wn3, hW3⟩ : ∃ X, Wp3.alloc (.cells #[.int .i64 0] 3) = X := ⟨_, rfl⟩
      have hbx3 : b + 6 ≤ nb3 := by rw [← hnb3]; exact hfp3.all.lt
      have hf3 : Fg g s b (.slice pv LL.length cv) leave w Wn3 := by rw [← hW3]; exact hfp3.al _ (by omega)
      have hk3 : Boxed Wn3 nb3 3 (.int .i64 0) := by rw [← hW3, ← hnb3]; exact Boxed.new _ _ _
      have hz3 : Wn3.heap.size ≤ nb3 + 1 ∧ nb3 + 1 ≤ Wn3.heap.size := by rw [← hW3, ← hnb3]; simp
      have hd13 : Wn3.heap[D1]? = some (.deferred (some [])) := by rw [← hW3, Below.heap_alloc _ _ _ (Array.getElem?_eq_some_iff.1 hdp13).1]; exact hdp13
      have hd23 : Wn3.heap[D2]? = some (.deferred (some [])) := by rw [← hW3, Below.heap_alloc _ _ _ (Array.getElem?_eq_some_iff.1 hdp23).1]; exact hdp23
      have hDl1 : D1 < nb3 := by rw [← hnb3]; exact (Array.getElem?_eq_some_iff.1 hdp13).1
      have hDl2 : D2 < nb3 := by rw [← hnb3]; exact (Array.getElem?_eq_some_iff.1 hdp23).1
      have hD12 : D1 < D2 := by omega
      have HFn3 := Hid.mk' (HF.out.keeps (KeepsB.of_below hf3.bel hDb))
      rw [hW3]
      clear hW3
      refine wpIn_rangeW rfl (by omega) (gf := 37) (lb := #[.pointer (some ⟨b + 1 + 1 + 1, 0, none⟩), .pointer (some ⟨b + 1 + 1 + 1 + 1, 0, none⟩)]) rfl trivial (enters_of Tryd.func37 (by kernel_rfl) rfl)
        (all_seqW 5 (by omega) (b + 1 + 1 + 1) (b + 1 + 1 + 1 + 1) g fold p s k D (by omega) Wn3 (fun k hk => by have := hDb k hk; omega) hf3.bf.cell hf3.bs.cell HFn3.out) (fun _ h => h.elim) KeepsB.t (fun W l o o' hl h h1 => keepsB_put (w := Wn3) (fun k hk => by rcases hk with h | rfl | rfl; have := hDb k h; omega; omega; omega) W l o' hl) (Below.refl _ _) (fun _ => rfl)
        (fun pre W => Fg g s b (.slice pv LL.length cv) leave w W ∧ Boxed W nb3 3 (.int .i64 (pre.length : Int)) ∧ pre <+: LL ∧ W.heap[D1]? = some (.deferred (some [])) ∧ W.heap[D2]? = some (.deferred (some [])))
        (fun cd pre W => (cd = .ret ∧ ¬ pre <+: LL) ∨ (cd = .exit 6 ∧ Fg g s b (.slice pv LL.length cv) leave w W ∧ Boxed W nb3 3 (.int .i64 leave) ∧ W.heap[D1]? = some (.deferred (some [])) ∧ W.heap[D2]? = some (.deferred (some []))))
        (fun pre X Y row h hg hr => ⟨h.1.ab (B := Wn3.heap.size) (by omega) (by omega) hg hr, box_ab h.2.1 hg hr, h.2.2.1, (hg.block D1 (Array.getElem?_eq_some_iff.1 h.2.2.2.1).1 (fun e => by have := (hr D1 e.symm).1; omega)).trans h.2.2.2.1, (hg.block D2 (Array.getElem?_eq_some_iff.1 h.2.2.2.2).1 (fun e => by have := (hr D2 e.symm).1; omega)).trans h.2.2.2.2⟩)
        (fun cd pre X Y row h hg hr => h.elim .inl fun h => .inr ⟨h.1, h.2.1.ab (B := Wn3.heap.size) (by omega) (by omega) hg hr, box_ab h.2.2.1 hg hr, (hg.block D1 (Array.getElem?_eq_some_iff.1 h.2.2.2.1).1 (fun e => by have := (hr D1 e.symm).1; omega)).trans h.2.2.2.1, (hg.block D2 (Array.getElem?_eq_some_iff.1 h.2.2.2.2).1 (fun e => by have := (hr D2 e.symm).1; omega)).trans h.2.2.2.2⟩)
        ⟨hf3, hk3, List.nil_prefix, hd13, hd23⟩ (fun x a' W => a' = { tmps := #[.pointer (some ⟨g, 0, none⟩), .string s, .slice pv LL.length cv, .int .i64 leave, undef, undef, .pointer (some ⟨b, 0, none⟩), .pointer (some ⟨b + 1, 0, none⟩), .pointer (some ⟨b + 1 + 1, 0, none⟩), .pointer (some ⟨b + 1 + 1 + 1 + 1 + 1, 0, none⟩), .int .i64 2, .pointer (some ⟨nb2, 0, none⟩), undef, undef, undef, .pointer (some ⟨nb3, 0, none⟩), .int .i64 (x : Int), .pointer (some ⟨g, 0, none⟩), .string s, .func (.func 37) #[] #[.pointer (some ⟨b + 1 + 1 + 1, 0, none⟩), .pointer (some ⟨b + 1 + 1 + 1 + 1, 0, none⟩)], fnG b, .bool false, .int .i64 2, .bool false, .int .i64 1, .int .i64 2, fnG b, undef, undef, undef, undef, undef, undef, undef, undef, undef, undef, undef, undef, undef, undef, undef, undef, undef, undef, undef, undef, undef, undef, undef, undef, undef, undef, undef, undef, undef, undef, undef, undef, undef, undef, undef, undef, undef, .int .i64 (LL.length : Int), .slice pv LL.length cv, .int .i64 (LL.length : Int), .bool false, fnG b, .int .i64 (x : Int), undef, undef, undef, undef, undef, undef, undef, undef, undef, undef, undef, undef, undef, undef, undef, undef, undef, undef, undef, undef, undef, undef, undef, undef, undef, undef], defers := [] }) (fun x a' _ X Y row h hg hr => h) ?assign3 ?body3 ?done3 ?stop3
      case assign3 =>
        intro l pre x W K hi hK
        simp only [encA]
        gi_wp2
        exact hK _ _ (KeptW.refl _ _ _) (fun _ _ => rfl) hi rfl
      case body3 =>
        rintro l pre x a' W hl _ ⟨hfx, hk, hpre, hdd1, hdd2⟩ rfl hlen
        rw [hLL] at hlen
        obtain ⟨y, hy⟩ : ∃ y, LL[pre.length]? = some y := ⟨_, List.getElem?_eq_getElem hlen⟩
        have hnl := pre_next (x := x) hpre hy
        obtain ⟨q, hq⟩ : ∃ q, pre.length = q := ⟨_, rfl⟩
        rw [hq] at hk hlen hy
        have hrw := row_sty HROW.out (by rw [hb]; exact hfx.bel)
        rcases own_cells hrw with ⟨_, e⟩ | ⟨gg, cc, e, _, hggw, hcl⟩
        · exfalso
          rw [e] at hlen
          simp at hlen
        cases e
        have k1 := hcl q hlen
        rw [List.getD_eq_getElem?_getD, hy] at k1
        have k1 : W.cell? ⟨gg, q, none⟩ = some (.int .i64 (y : Int)) := k1
        have ck := hk.cell
        have fk := hk.frozen
        have cw := hfx.want.cell
        have cr := hfx.res.cell
        have fr := hfx.res.frozen
        have cl := hfx.lv.cell
        have hcl2 : ∀ u, (W.setCell ⟨nb3, 0, none⟩ u).cell? ⟨b + 1, 0, none⟩ = some (.int .i64 leave) := fun u => (hfx.lv.other (by omega) u).cell
        have HQ := Hid.mk' hq
        have HFX := Hid.mk' hfx
        have HK := Hid.mk' hk
        have HDS := Hid.mk' (And.intro hdd1 hdd2)
        have HNL := Hid.mk' hnl
        have hqN : q < LL.length := hlen
        have hqlI : ¬ (LL.length : Int) ≤ (q : Int) := by omega
        have hqlB : decide ((LL.length : Int) ≤ (q : Int)) = false := by simp; omega
        have hNotD : ¬ AllD D (b + 1 + 1 + 1) (b + 1 + 1 + 1 + 1) nb3 := by rintro (h | h | h); have := hDb _ h; omega; omega; omega
        clear hfx hk hcl hrw hnl hq hy hlen hdd1 hdd2
        by_cases hA : x = y
        · subst hA
          have hAI : ((x : Int) != (x : Int)) = false := by simp
          by_cases hlv : (q : Int) + 1 = leave
          · have hlvI : (((q : Int) + 1) == leave) = true := by simp; omega
            have HLV := Hid.mk' hlv
            clear hlv
            gi_wp2
            exact ⟨kept_set _ _ _ _, .inr ⟨rfl, HFX.out.setk (by omega), by have := HK.out.set (.int .i64 ((q : Int) + 1)); rw [HLV.out] at this ⊢; exact this, (KeepsOthers.setCell W _ _).same D1 _ HDS.out.1 rfl, (KeepsOthers.setCell W _ _).same D2 _ HDS.out.2 rfl⟩⟩
          · have hlvI : (((q : Int) + 1) == leave) = false := by simp; omega
            gi_wp2
            exact ⟨kept_set _ _ _ _, keepsB_set _ hNotD, HFX.out.setk (by omega), by have := HK.out.set (.int .i64 ((q : Int) + 1)); rw [List.length_append, HQ.out]; simpa using this, HNL.out.1 trivial, (KeepsOthers.setCell W _ _).same D1 _ HDS.out.1 rfl, (KeepsOthers.setCell W _ _).same D2 _ HDS.out.2 rfl⟩
        · have hAI : ((x : Int) != (y : Int)) = true := by simp; omega
          gi_wp2
          exact ⟨kept_set _ _ _ _, .inl ⟨rfl, HNL.out.2 hA⟩⟩
      case done3 =>
        rintro D3 xs X hDg3 rfl ⟨hfx, hk, hpre, hdd1, hdd2⟩ hdef
        rw [hLL] at hk
        have hee : ((LL.length : Int) == (LL.length : Int)) = true := by simp
        have cw := hfx.want.cell
        have cn := hk.cell
        have cl := hfx.lv.cell
        have cr := hfx.res.cell
        have fr := hfx.res.frozen
        have hr1 := hfx.res.set (.bool true)
        have e1 := (KeepsOthers.setCell X ⟨b + 1 + 1, 0, none⟩ (.bool true)).same D3 _ hdef rfl
        have e2 := (KeepsOthers.setCell X ⟨b + 1 + 1, 0, none⟩ (.bool true)).same D2 _ hdd2 rfl
        have e3 := (KeepsOthers.setCell X ⟨b + 1 + 1, 0, none⟩ (.bool true)).same D1 _ hdd1 rfl
        have hbl := hfx.bel.setCell (p := ⟨b + 1 + 1, 0, none⟩) (by show b ≤ b + 1 + 1; omega) (.bool true)
        have HE := Hid.mk' (And.intro e1 (And.intro e2 (And.intro e3 (And.intro hr1 hbl))))
        clear hfx hk hdd1 hdd2 hdef e1 e2 e3 hr1 hbl
        gi_wp2
        obtain ⟨X1, hX1⟩ : ∃ X1, X.setCell ⟨b + 1 + 1, 0, none⟩ (.bool true) = X1 := ⟨_, rfl⟩
        have HE1 := HE.out
        rw [hX1] at HE1 ⊢
        obtain ⟨e1, e2, e3, hr1, hbl⟩ := HE1
        have f2 : (X1.putObj D3 (.deferred none)).heap[D2]? = some (.deferred (some [])) := (World.putObj_heap_other (by omega)).trans e2
        have f3 : ((X1.putObj D3 (.deferred none)).putObj D2 (.deferred none)).heap[D1]? = some (.deferred (some [])) := (World.putObj_heap_other (by omega)).trans ((World.putObj_heap_other (by omega)).trans e3)
        have hbox : Boxed (((X1.putObj D3 (.deferred none)).putObj D2 (.deferred none)).putObj D1 (.deferred none)) (b + 1 + 1) 4 (.bool true) := (World.putObj_heap_other (by omega)).trans ((World.putObj_heap_other (by omega)).trans ((World.putObj_heap_other (by omega)).trans hr1))
        have hcb := hbox.cell
        refine ⟨by simp, .inl ⟨_, _, rfl, run_takeDeferred e1, ?_⟩⟩
        refine ⟨by simp, .inl ⟨_, _, rfl, run_takeDeferred f2, ?_⟩⟩
        refine ⟨by simp, .inl ⟨_, _, rfl, run_takeDeferred f3, ?_⟩⟩
        refine ⟨.bool true, ?_, rfl, ?_⟩
        · simp [results, Tryd.f21, go_sem, hcb]
        · rw [hb]
          exact ⟨hbl.os, hbl.tape, hbl.output, by simpa using hbl.size, fun k hk => (World.putObj_heap_other (by omega)).trans ((World.putObj_heap_other (by omega)).trans ((World.putObj_heap_other (by omega)).trans (hbl.block k hk)))⟩
      case stop3 =>
        rintro D3 cd pre X hDg3 hpre (⟨rfl, hn⟩ | ⟨rfl, hfx, hk, hdd1, hdd2⟩) hdef
        · rw [hLL] at hpre
          exact absurd hpre hn
        · by_cases hle : leave = (LL.length : Int)
          · subst hle
            have hee : ((LL.length : Int) == (LL.length : Int)) = true := by simp
            have cw := hfx.want.cell
            have cn := hk.cell
            have cl := hfx.lv.cell
            have cr := hfx.res.cell
            have fr := hfx.res.frozen
            have hr1 := hfx.res.set (.bool true)
            have e1 := (KeepsOthers.setCell X ⟨b + 1 + 1, 0, none⟩ (.bool true)).same D3 _ hdef rfl
            have e2 := (KeepsOthers.setCell X ⟨b + 1 + 1, 0, none⟩ (.bool true)).same D2 _ hdd2 rfl
            have e3 := (KeepsOthers.setCell X ⟨b + 1 + 1, 0, none⟩ (.bool true)).same D1 _ hdd1 rfl
            have hbl := hfx.bel.setCell (p := ⟨b + 1 + 1, 0, none⟩) (by show b ≤ b + 1 + 1; omega) (.bool true)
            have HE := Hid.mk' (And.intro e1 (And.intro e2 (And.intro e3 (And.intro hr1 hbl))))
            clear hfx hk hdd1 hdd2 hdef e1 e2 e3 hr1 hbl
            gi_wp2
            obtain ⟨X1, hX1⟩ : ∃ X1, X.setCell ⟨b + 1 + 1, 0, none⟩ (.bool true) = X1 := ⟨_, rfl⟩
            have HE1 := HE.out
            rw [hX1] at HE1 ⊢
            obtain ⟨e1, e2, e3, hr1, hbl⟩ := HE1
            have f2 : (X1.putObj D3 (.deferred none)).heap[D2]? = some (.deferred (some [])) := (World.putObj_heap_other (by omega)).trans e2
            have f3 : ((X1.putObj D3 (.deferred none)).putObj D2 (.deferred none)).heap[D1]? = some (.deferred (some [])) := (World.putObj_heap_other (by omega)).trans ((World.putObj_heap_other (by omega)).trans e3)
            have hbox : Boxed (((X1.putObj D3 (.deferred none)).putObj D2 (.deferred none)).putObj D1 (.deferred none)) (b + 1 + 1) 4 (.bool true) := (World.putObj_heap_other (by omega)).trans ((World.putObj_heap_other (by omega)).trans ((World.putObj_heap_other (by omega)).trans hr1))
            have hcb := hbox.cell
            refine ⟨by simp, .inl ⟨_, _, rfl, run_takeDeferred e1, ?_⟩⟩
            refine ⟨by simp, .inl ⟨_, _, rfl, run_takeDeferred f2, ?_⟩⟩
            refine ⟨by simp, .inl ⟨_, _, rfl, run_takeDeferred f3, ?_⟩⟩
            refine ⟨.bool true, ?_, rfl, ?_⟩
            · simp [results, Tryd.f21, go_sem, hcb]
            · rw [hb]
              exact ⟨hbl.os, hbl.tape, hbl.output, by simpa using hbl.size, fun k hk => (World.putObj_heap_other (by omega)).trans ((World.putObj_heap_other (by omega)).trans ((World.putObj_heap_other (by omega)).trans (hbl.block k hk)))⟩
          · have hee : (leave == (LL.length : Int)) = false := beq_eq_false_iff_ne.2 hle
            have hlv2 : (leave == leave) = true := by simp
            clear hle
            have cw := hfx.want.cell
            have cn := hk.cell
            have cl := hfx.lv.cell
            have cr := hfx.res.cell
            have fr := hfx.res.frozen
            have hr1 := hfx.res.set (.bool true)
            have e1 := (KeepsOthers.setCell X ⟨b + 1 + 1, 0, none⟩ (.bool true)).same D3 _ hdef rfl
            have e2 := (KeepsOthers.setCell X ⟨b + 1 + 1, 0, none⟩ (.bool true)).same D2 _ hdd2 rfl
            have e3 := (KeepsOthers.setCell X ⟨b + 1 + 1, 0, none⟩ (.bool true)).same D1 _ hdd1 rfl
            have hbl := hfx.bel.setCell (p := ⟨b + 1 + 1, 0, none⟩) (by show b ≤ b + 1 + 1; omega) (.bool true)
            have HE := Hid.mk' (And.intro e1 (And.intro e2 (And.intro e3 (And.intro hr1 hbl))))
            clear hfx hk hdd1 hdd2 hdef e1 e2 e3 hr1 hbl
            gi_wp2
            obtain ⟨X1, hX1⟩ : ∃ X1, X.setCell ⟨b + 1 + 1, 0, none⟩ (.bool true) = X1 := ⟨_, rfl⟩
            have HE1 := HE.out
            rw [hX1] at HE1 ⊢
            obtain ⟨e1, e2, e3, hr1, hbl⟩ := HE1
            have f2 : (X1.putObj D3 (.deferred none)).heap[D2]? = some (.deferred (some [])) := (World.putObj_heap_other (by omega)).trans e2
            have f3 : ((X1.putObj D3 (.deferred none)).putObj D2 (.deferred none)).heap[D1]? = some (.deferred (some [])) := (World.putObj_heap_other (by omega)).trans ((World.putObj_heap_other (by omega)).trans e3)
            have hbox : Boxed (((X1.putObj D3 (.deferred none)).putObj D2 (.deferred none)).putObj D1 (.deferred none)) (b + 1 + 1) 4 (.bool true) := (World.putObj_heap_other (by omega)).trans ((World.putObj_heap_other (by omega)).trans ((World.putObj_heap_other (by omega)).trans hr1))
            have hcb := hbox.cell
            refine ⟨by simp, .inl ⟨_, _, rfl, run_takeDeferred e1, ?_⟩⟩
            refine ⟨by simp, .inl ⟨_, _, rfl, run_takeDeferred f2, ?_⟩⟩
            refine ⟨by simp, .inl ⟨_, _, rfl, run_takeDeferred f3, ?_⟩⟩
            refine ⟨.bool true, ?_, rfl, ?_⟩
            · simp [results, Tryd.f21, go_sem, hcb]
            · rw [hb]
              exact ⟨hbl.os, hbl.tape, hbl.output, by simpa using hbl.size, fun k hk => (World.putObj_heap_other (by omega)).trans ((World.putObj_heap_other (by omega)).trans ((World.putObj_heap_other (by omega)).trans (hbl.block k hk)))⟩
end Go.Proofs.YtecoiifmeajicaaDoor
