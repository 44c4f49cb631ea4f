/-
  copies: the copies of a packing by true copies, as its parts tell them. Conditions: the copies are true, the text has at most 4294967296 bytes.
-/
import Derived.Test.YtchjmhgalbkjkabCopC
import Derived.LoopIn
namespace Go.Proofs.Ytchjmhgalbkjkab
open Go.RowKit Go.Shelf
set_option linter.unusedVariables false
set_option linter.unusedSimpArgs false
attribute [local go_sem] Oper.semAt_some
theorem tru_len (bs : List Nat) : ∀ (l : List Lz.Cp) (i : Nat), Lz.tru bs i l → i + 4 * l.length ≤ Lz.restOf i l
  | [], i, _ => by simp [Lz.restOf]
  | c :: l, i, ⟨h1, h2, h3⟩ => by
    have := tru_len bs l _ h3
    have := h2.1
    rw [Lz.restOf, List.length_cons]
    omega
theorem str_nq (a : ByteArray) (w : World) : (binOp .neq 9 (.string a) (.string a)).run Try.prog w = .ok (.bool false) w := by simp [go_sem]
def allocs : World → List (TypeId × Value) → World
  | W, [] => W
  | W, (t, v) :: l => allocs (W.alloc (.cells #[v] t)) l
theorem allocs_bxs : ∀ (l : List (TypeId × Value)) (W : World), Bxs (allocs W l) W.heap.size l ∧ Below W.heap.size W (allocs W l) ∧ (allocs W l).heap.size = W.heap.size + l.length
  | [], W => ⟨fun k t v h => by simp at h, Below.refl _ _, rfl⟩
  | (t, v) :: l, W => by
    obtain ⟨h1, h2, h3⟩ := allocs_bxs l (W.alloc (.cells #[v] t))
    have hsz : (W.alloc (.cells #[v] t)).heap.size = W.heap.size + 1 := by simp
    rw [hsz] at h1 h2 h3
    refine ⟨fun k t' v' hk => ?_, ((Below.refl _ W).alloc (Nat.le_refl _) _).trans (h2.mono (by omega)), by rw [allocs, h3, List.length_cons]; omega⟩
    cases k with
    | zero =>
      simp only [List.getElem?_cons_zero, Option.some.injEq, Prod.mk.injEq] at hk
      obtain ⟨rfl, rfl⟩ := hk
      have hb : Boxed (W.alloc (.cells #[v] t)) W.heap.size t v := Boxed.new W t v
      exact (h2.block W.heap.size (by omega)).trans hb
    | succ k =>
      simp only [List.getElem?_cons_succ] at hk
      have := h1 k t' v' hk
      rw [show W.heap.size + 1 + k = W.heap.size + (k + 1) by omega] at this
      exact this
abbrev bxC (s B : ByteArray) (av ov : Value) (p tok : Nat) (lst : Bool) : List (TypeId × Value) := [(9, .string s), (26, .slice none 0 0), (27, .slice none 0 0), (4, .bool false), (26, av), (27, ov), (3, .int .i64 (p : Int)), (3, .int .i64 (tok : Int)), (4, .bool lst), (9, .string B)]
abbrev bxD (s B : ByteArray) (av ov : Value) (p tok : Nat) (x y z : Bool) : List (TypeId × Value) := [(9, .string s), (26, if x = true then av else .slice none 0 0), (27, if y = true then ov else .slice none 0 0), (4, .bool z), (26, av), (27, ov), (3, .int .i64 (p : Int)), (3, .int .i64 (tok : Int)), (4, .bool true), (9, .string B)]
/-- the last token has no low half -/
theorem tok_byte (s : ByteArray) (cs : List Lz.Cp) (h : Lz.tru (Sums.bl s) 0 cs) (tok : Nat) (ht : tok = tokP (partsC s cs)) : tok < (packC s cs).size ∧ ∃ m, (Sums.bl (packC s cs)).getD tok 0 = 16 * m := by
  have e : tok = (Lz.enc (Lz.pcs (Sums.bl s) 0 cs)).length := by rw [ht, partsC, tokP_snoc]
  have hb := packC_bl s cs h
  refine ⟨?_, min (Sums.bl (lastT s cs)).length 15, ?_⟩
  · rw [← Sums.bl_length, hb, List.length_append, e]
    simp [Lz.lits]
  · rw [hb, e, List.getD_eq_getElem?_getD, List.getElem?_append_right (Nat.le_refl _), Nat.sub_self]
    simp [Lz.lits]
theorem row_base {w : World} {d d' n size : Nat} {e : TypeId} {v : Value} {xs : List Value} (h : w.ownsRow d e size v n xs) (hd : d' ≤ d) : w.ownsRow d' e size v n xs := by
  refine ⟨h.1, ?_⟩
  rcases h.2 with h0 | ⟨g, cap, cur, rfl, h1, h2⟩
  · exact .inl h0
  · exact .inr ⟨g, cap, cur, rfl, by omega, h2⟩
/-- the part's own block is none of the row's -/
def Fr (b : Nat) (V : World) (X : Nat) : Prop := b + 10 ≤ V.heap.size ∧ ∀ (vv : Value) (z : Nat × Nat), V.heap[b + 5]? = some (.cells #[vv] 27 z) → vv.ownBlock ≠ some X
theorem Fr.ab {b X : Nat} {V Y : World} {row : Option Nat} (h : Fr b V X) (hg : V.grownBy Y row) (hr : Turn (b + 10) V row) : Fr b Y X := by
  have h1 := h.1
  refine ⟨Nat.le_trans h.1 hg.size, fun vv z hv => h.2 vv z ?_⟩
  rw [← hg.block (b + 5) (by omega) (fun e => by have := (hr _ e.symm).1; omega)]
  exact hv
theorem fr_new {b : Nat} {w0 V : World} {l : List (TypeId × Value)} {av : Value} {na : Nat} {xa : List Value} {ov : Value} {no : Nat} {xo : List Value} (h : Cq b (b + 10) w0 l av na xa ov no xo V) (h5 : l[5]? = some (27, ov)) (o : Obj) : Fr b (V.alloc o) V.heap.size := by
  have hs := h.siz
  refine ⟨by simp; omega, fun vv z hv => ?_⟩
  rw [Below.heap_alloc _ _ _ (by omega)] at hv
  have hb : V.heap[b + 5]? = some (.cells #[ov] 27 (0, 0)) := h.bx 5 _ _ h5
  rw [hb] at hv
  simp only [Option.some.injEq, Obj.cells.injEq] at hv
  have : ov = vv := by simpa using hv.1
  subst this
  intro e
  have := (h.ro.lt _ e).2
  omega
set_option maxRecDepth 100000 in
set_option maxHeartbeats 4000000 in
theorem copies_any (s : ByteArray) (cs : List Lz.Cp) (w : World) (hs : s.size ≤ 4294967296) (h : Lz.tru (Sums.bl s) 0 cs) (hpb : (packC s cs).size ≤ 140737488355328) :
    Calls Try.prog 7 #[.string s, .string (packC s cs)] w fun e w' => ∃ av ov, e = .returned (.tuple #[av, ov, .bool true]) ∧ w'.ownsRow w.heap.size 3 1 av cs.length (atv cs) ∧ w'.ownsRow w.heap.size 32 3 ov cs.length (pqv (cpP (partsC s cs))) ∧ Below w.heap.size w w' := by
  refine (callsIn_wide (n := 6)).1 ?_
  have hptL : ptL (packC s cs) = partsC s cs := packC_parts s cs h (by omega)
  have hcl : 4 * cs.length ≤ s.size := by
    have h1 := tru_len (Sums.bl s) cs 0 h
    have h2 := Lz.restOf_le (Sums.bl s) cs 0 (Nat.zero_le _) h
    rw [Sums.bl_length] at h2
    omega
  obtain ⟨B, hB⟩ : ∃ B, packC s cs = B := ⟨_, rfl⟩
  rw [hB] at hptL hpb ⊢
  have HB := Hid.mk' hB
  clear hB
  obtain ⟨b, hb⟩ : ∃ b, w.heap.size = b := ⟨_, rfl⟩
  have hnf := nil_func
  refine callsIn_of_wp_marks Try.func7 rfl trivial ?_ rfl
  simp only [Try.ntmps7, List.size_toArray, List.length_cons, List.length_nil, Nat.reduceAdd, Nat.reduceSub, Array.replicate_succ, Array.replicate_zero, List.push_toArray, List.append_toArray, List.nil_append, List.cons_append]
  iterate 300 (first | go_values | gi_big_skip | (refine skip_call (Eq.refl false) (Eq.refl none) (by kernel_rfl) ?_) | gi_guarded | gi_step | gi_upon | go_simp | skip)
  refine ⟨trivial, ?_⟩
  refine (callsIn_wide.2 (parts_any B _)).mono ?_
  rintro e w' ⟨rfl, rfl⟩
  iterate 300 (first | go_values | gi_big_skip | (refine skip_call (Eq.refl false) (Eq.refl none) (by kernel_rfl) ?_) | gi_guarded | gi_step | gi_upon | go_simp | skip)
  obtain ⟨W7, hW7⟩ : ∃ W7, allocs w (bxC s B (.slice none 0 0) (.slice none 0 0) 0 0 false) = W7 := ⟨_, rfl⟩
  have hq7 : Cq b (b + 10) w (bxC s B (.slice none 0 0) (.slice none 0 0) 0 0 false) (.slice none 0 0) 0 [] (.slice none 0 0) 0 [] W7 ∧ W7.heap.size = b + 10 := by
    obtain ⟨a1, a2, a3⟩ := allocs_bxs (bxC s B (.slice none 0 0) (.slice none 0 0) 0 0 false) w
    rw [hW7, hb] at a1 a2 a3
    exact ⟨⟨a1, World.ownsRow_nil _ _ _ _, World.ownsRow_nil _ _ _ _, a2, by rw [a3]; exact Nat.le_refl _, Nat.le_refl _⟩, a3⟩
  have hW7' : ((((((((((w.alloc (.cells #[.string s] 9)).alloc (.cells #[.slice none 0 0] 26)).alloc (.cells #[.slice none 0 0] 27)).alloc (.cells #[.bool false] 4)).alloc (.cells #[.slice none 0 0] 26)).alloc (.cells #[.slice none 0 0] 27)).alloc (.cells #[.int .i64 0] 3)).alloc (.cells #[.int .i64 0] 3)).alloc (.cells #[.bool false] 4)).alloc (.cells #[.string B] 9)) = W7 := hW7
  rw [hW7']
  clear hW7 hW7'
  obtain ⟨hq7, hz7⟩ := hq7
  simp only [Nat.add_assoc, Nat.reduceAdd]
  rename_i K6 hK6
  have HK6 := Hid.mk' hK6
  clear hK6
  have hcz : ∀ (pre : List Pt) (X Y : World) (row : Option Nat), (∃ av ov, Cq b (b + 10) w (bxC s B av ov (if pre.length ≤ cs.length then Lz.restOf 0 (cs.take pre.length) else s.size) (tokP pre) (decide (cs.length < pre.length))) av (min pre.length cs.length) (atv (cs.take pre.length)) ov (min pre.length cs.length) (pqv (cpP pre)) X) → X.grownBy Y row → Turn W7.heap.size X row → (∃ av ov, Cq b (b + 10) w (bxC s B av ov (if pre.length ≤ cs.length then Lz.restOf 0 (cs.take pre.length) else s.size) (tokP pre) (decide (cs.length < pre.length))) av (min pre.length cs.length) (atv (cs.take pre.length)) ov (min pre.length cs.length) (pqv (cpP pre)) Y) := by
    rintro pre X Y row ⟨av, ov, h1⟩ hg hr
    rw [hz7] at hr
    exact ⟨av, ov, h1.ab hg hr⟩
  refine wpIn_rangeN rfl (by omega) (gf := 26) (lb := #[.pointer (some ⟨b + 9, 0, none⟩)]) rfl trivial (enters_of Try.func26 (by kernel_rfl) rfl)
    (parts_seqN 5 (b + 9) B hpb W7 (by omega) (hq7.cell 9 9 (.string B) rfl).1) (fun _ h => h.cells) KpP.t (fun W k o o' _ h h1 => KpP.put W k o o' h h1) (Below.refl _ _) (fun _ => rfl)
    (fun pre V => ∃ av ov, Cq b (b + 10) w (bxC s B av ov (if pre.length ≤ cs.length then Lz.restOf 0 (cs.take pre.length) else s.size) (tokP pre) (decide (cs.length < pre.length))) av (min pre.length cs.length) (atv (cs.take pre.length)) ov (min pre.length cs.length) (pqv (cpP pre)) V) (fun cd pre V => False)
    (fun pre X Y row h hg hr => hcz pre X Y row h hg hr)
    (fun cd pre X Y row h hg hr => h)
    ⟨.slice none 0 0, .slice none 0 0, by simpa [Lz.restOf, atv, cpP, pqv, tokP] using hq7⟩ (fun x a' V => ∃ X, a' = { tmps := #[.string s, .string B, .pointer (some ⟨b, 0, none⟩), undef, .pointer (some ⟨b + 1, 0, none⟩), .pointer (some ⟨b + 2, 0, none⟩), .pointer (some ⟨b + 3, 0, none⟩), .pointer (some ⟨b + 4, 0, none⟩), .pointer (some ⟨b + 5, 0, none⟩), .pointer (some ⟨b + 6, 0, none⟩), .pointer (some ⟨b + 7, 0, none⟩), .pointer (some ⟨b + 8, 0, none⟩), .func (.func 26) #[] #[.pointer (some ⟨b + 9, 0, none⟩)], .int .i64 (x.1 : Int), .pointer (some ⟨X, 0, none⟩), undef, .string B, .func (.func 26) #[] #[.pointer (some ⟨b + 9, 0, none⟩)], .func (.func 26) #[] #[.pointer (some ⟨b + 9, 0, none⟩)], .bool false, .func (.func 26) #[] #[.pointer (some ⟨b + 9, 0, none⟩)], .int .i64 (x.1 : Int), .agg #[.string x.2.1, .int .i64 (x.2.2.1 : Int), .int .i64 (x.2.2.2 : Int)], undef, undef, undef, undef, undef, undef, undef, undef, undef, undef, undef, undef, undef, undef, undef, undef, undef, undef, undef, undef, undef, undef, undef, undef, undef, undef, undef, undef, undef, undef, undef, undef, undef, undef, undef, undef, undef, undef, undef, undef, undef, undef, undef, undef, undef, undef, undef, undef, undef, undef, undef, undef, undef, undef, undef, undef, undef, undef, undef, undef, undef, undef, undef, undef, undef, undef, undef, undef, undef, undef, undef, undef, undef, undef, undef, undef, undef, undef, undef, undef, undef, undef, undef, undef, undef, undef, undef, undef, undef, undef, undef, undef, undef, undef, undef, undef, undef, undef, undef, undef, undef, undef, undef, undef, undef, undef, undef, undef, undef, undef, undef, undef, undef, undef, undef, undef, undef, undef, undef, undef, undef, undef, undef, undef], defers := [] } ∧ Sb V X x ∧ Fr b V X) (fun x a' _ X Y row h hg hr => by obtain ⟨Z, rfl, hZ, hF⟩ := h; exact ⟨Z, rfl, cells_ab hZ hg hr (by decide), hF.ab hg (by rw [hz7] at hr; exact hr)⟩) ?assign ?body ?done ?stop
  case assign =>
    rintro l pre x V K ⟨av, ov, hi⟩ hK
    simp only [encQ]
    iterate 300 (first | go_values | gi_big_skip | (refine skip_call (Eq.refl false) (Eq.refl none) (by kernel_rfl) ?_) | gi_guarded | gi_step | gi_upon | go_simp | skip)
    exact hK _ _ (kept_new _ _ _) (kp_new _ _) ⟨av, ov, hi.new _⟩ ⟨_, rfl, World.alloc_heap_new V _, fr_new hi rfl _⟩
  case stop =>
    rintro D cd pre V hD hpre hx
    exact hx.elim
  case done =>
    rintro D xs V hD rfl ⟨av, ov, hcq⟩ hdf
    rw [hz7] at hD
    have hpl : (partsC s cs).length = cs.length + 1 := partsC_length s cs
    rw [hptL, hpl, if_neg (by omega), show decide (cs.length < cs.length + 1) = true by simp, Nat.min_eq_right (by omega), List.take_of_length_le (by omega)] at hcq
    obtain ⟨tok, htok⟩ : ∃ tok, tokP (partsC s cs) = tok := ⟨_, rfl⟩
    rw [htok] at hcq
    obtain ⟨tb, htb⟩ : ∃ tb, tb = (Sums.bl B).getD tok 0 := ⟨_, rfl⟩
    obtain ⟨ht1, m, ht2⟩ := tok_byte s cs h tok htok.symm
    rw [HB.out] at ht1 ht2
    rw [← htb] at ht2
    have hidx := idx_any B tok tb ht1 htb
    have hss : ((s.size : Int) == (s.size : Int)) = true := by simp
    have htI : (tok : Int) < (B.size : Int) := by omega
    have hrem : (tb : Int) % 16 = 0 := by omega
    have hrem2 : Int.tmod (tb : Int) 16 = 0 := by rw [Int.tmod_eq_emod_of_nonneg (by omega)]; exact hrem
    have hrem3 : IntKind.u8.wrap 0 = 0 := rfl
    obtain ⟨n, hn⟩ : ∃ n, cs.length = n := ⟨_, rfl⟩
    rw [hn] at hcq
    obtain ⟨ab, ac, rfl⟩ := row_shape' hcq.ra
    obtain ⟨ob, oc, rfl⟩ := row_shape' hcq.ro
    have HCQ := Hid.mk' hcq
    have HDF := Hid.mk' hdf
    clear hcq hdf
    refine HK6.out _ _ ?_
    iterate 300 (first | (with_reducible refine stop_reg 28 ?_) | go_values | gi_big_skip | (refine skip_call (Eq.refl false) (Eq.refl none) (by kernel_rfl) ?_) | gi_guarded | gi_step | gi_upon | go_simp | skip)
    refine Hid.mk' ?_
    rename_i K11 hK11
    have HK11 := Hid.mk' hK11
    clear hK11
    refine region_done (by kernel_rfl) (fun kz => (#[.slice ab n ac, .slice ob n oc, .bool true, .bool true, .int .i64 (s.size : Int), .string s, .int .i64 (s.size : Int), .bool true, .bool true, .bool true, .int .i64 (tok : Int), .string B, .int .i64 (B.size : Int), .bool true, .bool true, .bool true, .string B, .int .i64 (tok : Int), .int .u8 (tb : Int), .int .u8 0, .bool true, .bool true, undef, undef, undef] : Array Value).getD kz undef) (fun u => { tmps := #[.string s, .string B, .pointer (some ⟨b, 0, none⟩), undef, .pointer (some ⟨b + 1, 0, none⟩), .pointer (some ⟨b + 2, 0, none⟩), .pointer (some ⟨b + 3, 0, none⟩), .pointer (some ⟨b + 4, 0, none⟩), .pointer (some ⟨b + 5, 0, none⟩), .pointer (some ⟨b + 6, 0, none⟩), .pointer (some ⟨b + 7, 0, none⟩), .pointer (some ⟨b + 8, 0, none⟩), .func (.func 26) #[] #[.pointer (some ⟨b + 9, 0, none⟩)], undef, undef, undef, .string B, .func (.func 26) #[] #[.pointer (some ⟨b + 9, 0, none⟩)], .func (.func 26) #[] #[.pointer (some ⟨b + 9, 0, none⟩)], .bool false, .func (.func 26) #[] #[.pointer (some ⟨b + 9, 0, none⟩)], undef, undef, undef, undef, undef, undef, undef, undef, undef, undef, undef, undef, undef, undef, undef, undef, undef, undef, undef, undef, undef, undef, undef, undef, undef, undef, undef, undef, undef, undef, undef, undef, undef, undef, undef, undef, undef, undef, undef, undef, undef, undef, undef, undef, undef, undef, undef, undef, undef, undef, undef, undef, undef, undef, undef, undef, undef, undef, undef, undef, undef, undef, undef, undef, undef, undef, undef, undef, undef, undef, undef, undef, undef, undef, undef, undef, undef, undef, undef, undef, undef, undef, undef, undef, undef, undef, undef, undef, undef, undef, undef, undef, undef, undef, undef, undef, undef, undef, undef, undef, undef, undef, undef, undef, u 0, u 1, u 2, u 3, u 4, u 5, u 6, u 7, u 8, u 9, u 10, u 11, u 12, u 13, u 14, u 15, u 16, u 17, u 18, u 19, u 20, u 21], defers := [{ target := .collected D, args := #[] }] }) (fun k => undef) _ (fun L X => Cq b (b + 10) w (bxD s B (.slice ab n ac) (.slice ob n oc) s.size tok (L 22) (L 23) (L 24)) (.slice ab n ac) n (atv cs) (.slice ob n oc) n (pqv (cpP (partsC s cs))) X ∧ X.heap[D]? = some (.deferred (some []))) ?_ (deps_of' (by kernel_rfl)) ?_ ?_ ?_
    · intro L hL
      simp only [hL]
      exact ⟨HCQ.out.drew, HDF.out⟩
    · intro f1 f2 hfg
      simp only [hfg 0 (by decide), hfg 1 (by decide), hfg 2 (by decide), hfg 3 (by decide), hfg 4 (by decide), hfg 5 (by decide), hfg 6 (by decide), hfg 7 (by decide), hfg 8 (by decide), hfg 9 (by decide), hfg 10 (by decide), hfg 11 (by decide), hfg 12 (by decide), hfg 13 (by decide), hfg 14 (by decide), hfg 15 (by decide), hfg 16 (by decide), hfg 17 (by decide), hfg 18 (by decide), hfg 19 (by decide), hfg 20 (by decide), hfg 21 (by decide)]
    · intro L X hX i0 hi0 hL0 o ho hdone u hdeps KK hKK
      have c0 := (hX.1.cell 0 _ _ rfl).1
      simp only [Nat.add_zero] at c0
      have c4 := (hX.1.cell 4 _ _ rfl).1
      have c5 := (hX.1.cell 5 _ _ rfl).1
      have c6 := (hX.1.cell 6 _ _ rfl).1
      have c7 := (hX.1.cell 7 _ _ rfl).1
      have c8 := (hX.1.cell 8 _ _ rfl).1
      obtain ⟨c1, f1⟩ := hX.1.cell 1 _ _ rfl
      obtain ⟨c2, f2⟩ := hX.1.cell 2 _ _ rfl
      obtain ⟨c3, f3⟩ := hX.1.cell 3 _ _ rfl
      have hKX0 : i0 < 22 → _ := fun hlt => hKK X (fun L' h' => by
        have a1 := h' 22
        have a2 := h' 23
        have a3 := h' 24
        rw [if_neg (by omega)] at a1 a2 a3
        rw [a1, a2, a3]
        exact hX)
      have hK22 : i0 = 22 → _ := fun hlt => hKK (X.setCell ⟨b + 1, 0, none⟩ (.slice ab n ac)) (fun L' h' => by
        have a1 := h' 22
        have a2 := h' 23
        have a3 := h' 24
        subst hlt
        simp only [reduceIte, Nat.reduceEqDiff] at a1 a2 a3
        rw [a1, a2, a3]
        refine ⟨?_, ((grown_set X (b + 1) _).block D (Array.getElem?_eq_some_iff.1 hX.2).1 (fun e => by simp only [Option.some.injEq] at e; omega)).trans hX.2⟩
        have hst := hX.1.set 1 _ _ (.slice ab n ac) rfl
        simp only [List.set_cons_succ, List.set_cons_zero] at hst
        exact hst)
      have hK23 : i0 = 23 → _ := fun hlt => hKK (X.setCell ⟨b + 2, 0, none⟩ (.slice ob n oc)) (fun L' h' => by
        have a1 := h' 22
        have a2 := h' 23
        have a3 := h' 24
        subst hlt
        simp only [reduceIte, Nat.reduceEqDiff] at a1 a2 a3
        rw [a1, a2, a3]
        refine ⟨?_, ((grown_set X (b + 2) _).block D (Array.getElem?_eq_some_iff.1 hX.2).1 (fun e => by simp only [Option.some.injEq] at e; omega)).trans hX.2⟩
        have hst := hX.1.set 2 _ _ (.slice ob n oc) rfl
        simp only [List.set_cons_succ, List.set_cons_zero] at hst
        exact hst)
      have hK24 : i0 = 24 → _ := fun hlt => hKK (X.setCell ⟨b + 3, 0, none⟩ (.bool true)) (fun L' h' => by
        have a1 := h' 22
        have a2 := h' 23
        have a3 := h' 24
        subst hlt
        simp only [reduceIte, Nat.reduceEqDiff] at a1 a2 a3
        rw [a1, a2, a3]
        refine ⟨?_, ((grown_set X (b + 3) _).block D (Array.getElem?_eq_some_iff.1 hX.2).1 (fun e => by simp only [Option.some.injEq] at e; omega)).trans hX.2⟩
        have hst := hX.1.set 3 _ _ (.bool true) rfl
        simp only [List.set_cons_succ, List.set_cons_zero] at hst
        exact hst)
      rcases (show i0 = 0 ∨ i0 = 1 ∨ i0 = 2 ∨ i0 = 3 ∨ i0 = 4 ∨ i0 = 5 ∨ i0 = 6 ∨ i0 = 7 ∨ i0 = 8 ∨ i0 = 9 ∨ i0 = 10 ∨ i0 = 11 ∨ i0 = 12 ∨ i0 = 13 ∨ i0 = 14 ∨ i0 = 15 ∨ i0 = 16 ∨ i0 = 17 ∨ i0 = 18 ∨ i0 = 19 ∨ i0 = 20 ∨ i0 = 21 ∨ i0 = 22 ∨ i0 = 23 ∨ i0 = 24 by have : i0 < 25 := hi0; omega) with rfl | rfl | rfl | rfl | rfl | rfl | rfl | rfl | rfl | rfl | rfl | rfl | rfl | rfl | rfl | rfl | rfl | rfl | rfl | rfl | rfl | rfl | rfl | rfl | rfl
      case inr.inr.inr.inr.inr.inr.inr.inr.inr.inr.inr.inr.inr.inr.inr.inr.inr.inr.inr.inr.inr.inr.inl =>
        have hKX := hK22 rfl
        simp at ho; subst ho; simp [Region.binds] at hdeps
        simp [wpOpIn, Region.wanted, yielded, Oper.wpIn, Oper.semAt_some, execOp, Oper.uponIn, go_sem, hdeps, c0, c4, c5, c6, c7, c8, c1, f1, c2, f2, c3, f3, hidx, hss, htI, hrem, hrem2, hrem3]
        first | exact hKX | (simp [upd, hdeps] at hKX; exact hKX)
      case inr.inr.inr.inr.inr.inr.inr.inr.inr.inr.inr.inr.inr.inr.inr.inr.inr.inr.inr.inr.inr.inr.inr.inl =>
        have hKX := hK23 rfl
        simp at ho; subst ho; simp [Region.binds] at hdeps
        simp [wpOpIn, Region.wanted, yielded, Oper.wpIn, Oper.semAt_some, execOp, Oper.uponIn, go_sem, hdeps, c0, c4, c5, c6, c7, c8, c1, f1, c2, f2, c3, f3, hidx, hss, htI, hrem, hrem2, hrem3]
        first | exact hKX | (simp [upd, hdeps] at hKX; exact hKX)
      case inr.inr.inr.inr.inr.inr.inr.inr.inr.inr.inr.inr.inr.inr.inr.inr.inr.inr.inr.inr.inr.inr.inr.inr =>
        have hKX := hK24 rfl
        simp at ho; subst ho; simp [Region.binds] at hdeps
        simp [wpOpIn, Region.wanted, yielded, Oper.wpIn, Oper.semAt_some, execOp, Oper.uponIn, go_sem, hdeps, c0, c4, c5, c6, c7, c8, c1, f1, c2, f2, c3, f3, hidx, hss, htI, hrem, hrem2, hrem3]
        first | exact hKX | (simp [upd, hdeps] at hKX; exact hKX)
      all_goals (have hKX := hKX0 (by decide); simp at ho; subst ho; simp [Region.binds] at hdeps; simp [wpOpIn, Region.wanted, yielded, Oper.wpIn, Oper.semAt_some, execOp, Oper.uponIn, go_sem, hdeps, c0, c4, c5, c6, c7, c8, c1, f1, c2, f2, c3, f3, hidx, hss, htI, hrem, hrem2, hrem3]; first | exact hKX | (simp [upd, hdeps] at hKX; exact hKX))
    · intro L X hall hX
      have a1 := hall 22 (by decide)
      have a2 := hall 23 (by decide)
      have a3 := hall 24 (by decide)
      rw [a1, a2, a3] at hX
      have hD2 : D < X.heap.size := (Array.getElem?_eq_some_iff.1 hX.2).1
      have hq : ∀ k, k ≠ D → (X.putObj D (.deferred none)).heap[k]? = X.heap[k]? := fun k hk => World.putObj_heap_other hk
      have b1 := (show Boxed (X.putObj D (.deferred none)) (b + 1) 26 (.slice ab n ac) from (hq (b + 1) (by omega)).trans (hX.1.bx 1 _ _ rfl)).cell
      have b2 := (show Boxed (X.putObj D (.deferred none)) (b + 2) 27 (.slice ob n oc) from (hq (b + 2) (by omega)).trans (hX.1.bx 2 _ _ rfl)).cell
      have b3 := (show Boxed (X.putObj D (.deferred none)) (b + 3) 4 (.bool true) from (hq (b + 3) (by omega)).trans (hX.1.bx 3 _ _ rfl)).cell
      have hgD : X.grownBy (X.putObj D (.deferred none)) (some D) := ⟨rfl, rfl, rfl, by simp, fun k _ hne => hq k (fun e => hne (by rw [e]))⟩
      have rA := row_base (d' := b) (hX.1.ra.kept hgD (ne_of fun k hk e => by
        obtain ⟨c1, z1, h1⟩ := row_type hX.1.ra k hk
        cases e
        rw [hX.2] at h1
        cases h1)) (by omega)
      have rO := row_base (d' := b) (hX.1.ro.kept hgD (ne_of fun k hk e => by
        obtain ⟨c1, z1, h1⟩ := row_type hX.1.ro k hk
        cases e
        rw [hX.2] at h1
        cases h1)) (by omega)
      have hbl : Below b w (X.putObj D (.deferred none)) := hX.1.bel.trans ⟨rfl, rfl, rfl, by simp, fun k hk => hq k (by omega)⟩
      have HE := Hid.mk' hX.2
      have HX := Hid.mk' (And.intro rA (And.intro rO hbl))
      refine HK11.out _ _ ?_
      clear hX rA rO hbl hgD hq
      iterate 300 (first | go_values | gi_big_skip | (refine skip_call (Eq.refl false) (Eq.refl none) (by kernel_rfl) ?_) | gi_guarded | gi_step | gi_upon | go_simp | skip)
      refine ⟨by simp, .inl ⟨_, _, rfl, run_takeDeferred HE.out, ?_⟩⟩
      refine ⟨.tuple #[.slice ab n ac, .slice ob n oc, .bool true], ?_, _, _, rfl, HX.out.1, HX.out.2.1, HX.out.2.2⟩
      simp [results, Try.f7, go_sem, b1, b2, b3]
  case body =>
    rintro l pre x a' W2 hl ⟨rl, hrl⟩ ⟨av, ov, hcq⟩ ⟨X, rfl, hsb, hfr⟩ hpre
    have hXo : ov.ownBlock ≠ some X := hfr.2 ov (0, 0) (hcq.bx 5 _ _ rfl)
    clear hfr
    rw [hptL] at hpre
    obtain ⟨j, hj⟩ : ∃ j, pre.length = j := ⟨_, rfl⟩
    have hx : (partsC s cs)[j]? = some x := by
      obtain ⟨t, ht⟩ := hpre
      rw [← ht, ← hj]
      simp
    have hjl : j ≤ cs.length := by
      have := (List.getElem?_eq_some_iff.1 hx).1
      rw [partsC_length] at this
      omega
    have hpi := part_is s cs h j x hx
    rw [hj, if_pos hjl, show decide (cs.length < j) = false by simp; omega, Nat.min_eq_left hjl] at hcq
    obtain ⟨p, hp⟩ : ∃ p, Lz.restOf 0 (cs.take j) = p := ⟨_, rfl⟩
    rw [hp] at hcq
    obtain ⟨xa, xt, xo, xl⟩ := x
    obtain ⟨⟨hl1, hl2⟩, his⟩ := hpi
    rw [hp] at hl1 hl2 his
    simp only at hl1 hl2 his
    obtain ⟨q, hq⟩ : ∃ q, p + xt.size = q := ⟨_, rfl⟩
    rw [hq] at hl1 hl2 his
    have cS := (hcq.cell 0 9 (.string s) rfl).1
    have cP := (hcq.cell 6 3 (.int .i64 (p : Int)) rfl).1
    have cL := (hcq.cell 8 4 (.bool false) rfl).1
    obtain ⟨x1, x2, x3⟩ := hsb.cells
    simp only [Nat.add_zero] at cS
    simp only at x1 x2 x3
    have hqI : (p : Int) + (xt.size : Int) = (q : Int) := by omega
    have hqs : ¬ (s.size : Int) < (q : Int) := by omega
    have hqsN : q ≤ s.size := by omega
    have hpq : p ≤ q := by omega
    have hpqI : (p : Int) ≤ (q : Int) := by omega
    have hpN : (0 : Int) ≤ (p : Int) := by omega
    have hwr : IntKind.i64.wrap (q : Int) = (q : Int) := by rw [IntKind.wrap_i64]; omega
    have hext : s.extract p q = xt := hl2
    have hnq := str_nq xt
    have HQ := Hid.mk' hq
    have HJ := Hid.mk' hj
    have HIS := Hid.mk' his
    have HPP := Hid.mk' hp
    have HCQ := Hid.mk' hcq
    have HSB := Hid.mk' hsb
    clear hcq hsb hx hj hpre hrl his hp hq hl2
    iterate 300 (first | (with_reducible refine stop_reg 12 ?_) | go_values | gi_big_skip | (refine skip_call (Eq.refl false) (Eq.refl none) (by kernel_rfl) ?_) | gi_guarded | gi_step | gi_upon | go_simp | skip)
    refine Hid.mk' ?_
    rename_i K7 hK7
    have HK7 := Hid.mk' hK7
    clear hK7
    refine region_kept (by kernel_rfl) (fun kz => (#[.bool false, .bool false, .int .i64 (p : Int), .pointer (some ⟨X, 0, none⟩), .string xt, .int .i64 (xt.size : Int), .int .i64 (q : Int), .string s, .int .i64 (s.size : Int), .bool false, .bool false, .bool false, .pointer (some ⟨X, 0, none⟩), .string xt, .string s, .int .i64 (p : Int), .int .i64 (p : Int), .pointer (some ⟨X, 0, none⟩), .string xt, .int .i64 (xt.size : Int), .int .i64 (q : Int), .string xt, .bool false, .bool false] : Array Value).getD kz undef) (fun u => { tmps := #[.string s, .string B, .pointer (some ⟨b, 0, none⟩), undef, .pointer (some ⟨b + 1, 0, none⟩), .pointer (some ⟨b + 2, 0, none⟩), .pointer (some ⟨b + 3, 0, none⟩), .pointer (some ⟨b + 4, 0, none⟩), .pointer (some ⟨b + 5, 0, none⟩), .pointer (some ⟨b + 6, 0, none⟩), .pointer (some ⟨b + 7, 0, none⟩), .pointer (some ⟨b + 8, 0, none⟩), .func (.func 26) #[] #[.pointer (some ⟨b + 9, 0, none⟩)], .int .i64 (xa : Int), .pointer (some ⟨X, 0, none⟩), undef, .string B, .func (.func 26) #[] #[.pointer (some ⟨b + 9, 0, none⟩)], .func (.func 26) #[] #[.pointer (some ⟨b + 9, 0, none⟩)], .bool false, .func (.func 26) #[] #[.pointer (some ⟨b + 9, 0, none⟩)], .int .i64 (xa : Int), .agg #[.string xt, .int .i64 (xo : Int), .int .i64 (xl : Int)], u 0, u 1, u 2, u 3, u 4, u 5, u 6, u 7, u 8, u 9, u 10, u 11, u 12, u 13, u 14, u 15, u 16, u 17, u 18, u 19, u 20, u 21, u 22, u 23, undef, undef, undef, undef, undef, undef, undef, undef, undef, undef, undef, undef, undef, undef, undef, undef, undef, undef, undef, undef, undef, undef, undef, undef, undef, undef, undef, undef, undef, undef, undef, undef, undef, undef, undef, undef, undef, undef, undef, undef, undef, undef, undef, undef, undef, undef, undef, undef, undef, undef, undef, undef, undef, undef, undef, undef, undef, undef, undef, undef, undef, undef, undef, undef, undef, undef, undef, undef, undef, undef, undef, undef, undef, undef, undef, undef, undef, undef, undef, undef, undef, undef, undef, undef, undef, undef, undef, undef, undef, undef, undef, undef, undef, undef, undef, undef, undef, undef, undef, undef], defers := [] }) (fun k => undef) _ (fun X => X = { W2 with drawn := W2.drawn + 1 }) (rfl) (deps_of' (by kernel_rfl)) ?_ ?_ ?_
    · intro f1 f2 hfg
      simp only [hfg 0 (by decide), hfg 1 (by decide), hfg 2 (by decide), hfg 3 (by decide), hfg 4 (by decide), hfg 5 (by decide), hfg 6 (by decide), hfg 7 (by decide), hfg 8 (by decide), hfg 9 (by decide), hfg 10 (by decide), hfg 11 (by decide), hfg 12 (by decide), hfg 13 (by decide), hfg 14 (by decide), hfg 15 (by decide), hfg 16 (by decide), hfg 17 (by decide), hfg 18 (by decide), hfg 19 (by decide), hfg 20 (by decide), hfg 21 (by decide), hfg 22 (by decide), hfg 23 (by decide)]
    · intro X0 hX i0 hi0 o ho u hdeps KK hKK
      subst hX
      have hKX := hKK _ rfl
      rcases (show i0 = 0 ∨ i0 = 1 ∨ i0 = 2 ∨ i0 = 3 ∨ i0 = 4 ∨ i0 = 5 ∨ i0 = 6 ∨ i0 = 7 ∨ i0 = 8 ∨ i0 = 9 ∨ i0 = 10 ∨ i0 = 11 ∨ i0 = 12 ∨ i0 = 13 ∨ i0 = 14 ∨ i0 = 15 ∨ i0 = 16 ∨ i0 = 17 ∨ i0 = 18 ∨ i0 = 19 ∨ i0 = 20 ∨ i0 = 21 ∨ i0 = 22 ∨ i0 = 23 by have : i0 < 24 := hi0; omega) with rfl | rfl | rfl | rfl | rfl | rfl | rfl | rfl | rfl | rfl | rfl | rfl | rfl | rfl | rfl | rfl | rfl | rfl | rfl | rfl | rfl | rfl | rfl | rfl
      all_goals (simp at ho; subst ho; simp [Region.binds] at hdeps; simp [wpOpIn, Region.wanted, yielded, Oper.wpIn, Oper.semAt_some, execOp, Oper.uponIn, go_sem, hdeps, cS, cP, cL, x1, x2, x3, hqI, hqs, hqsN, hpq, hpqI, hext, hnq, hwr, hpN]; first | exact hKX | (simp [upd, hdeps] at hKX; exact hKX))
    · intro X0 hX
      subst hX
      refine HK7.out _ _ ?_
      obtain ⟨W9, hW9⟩ : ∃ W9, ({ W2 with drawn := W2.drawn + 1 } : World) = W9 := ⟨_, rfl⟩
      have h9 : W9.heap = W2.heap := by rw [← hW9]
      have hc9 : Cq b (b + 10) w (bxC s B av ov p (tokP pre) false) av j (atv (cs.take j)) ov j (pqv (cpP pre)) W9 := by rw [← hW9]; exact HCQ.out.drew
      have hs9 : Sb W9 X (xa, xt, xo, xl) := by
        have := HSB.out
        unfold Sb at this ⊢
        rw [h9]
        exact this
      have kp9 : ∀ B, KeptW B WrP W2 W9 := fun B => ⟨by rw [h9]; exact Nat.le_refl _, fun i o _ hi _ => by rw [h9]; exact hi⟩
      have kq9 : KpP W2 W9 := ⟨by rw [h9]; exact Nat.le_refl _, fun i o hi _ => by rw [h9]; exact hi⟩
      rw [hW9]
      clear hW9 cS cP cL x1 x2 x3
      have hA1 := hc9.set 6 3 (.int .i64 (p : Int)) (.int .i64 (q : Int)) rfl
      have hA2 := hA1.set 7 3 (.int .i64 (tokP pre : Int)) (.int .i64 (xa : Int)) rfl
      have hA3 := fun (bb : Bool) => hA2.set 8 4 (.bool false) (.bool bb) rfl
      simp only [List.set_cons_succ, List.set_cons_zero] at hA1 hA2 hA3
      have n6 : X ≠ b + 6 := hs9.ne (hc9.bx 6 3 _ rfl) (by decide)
      have n7 : X ≠ b + 7 := hs9.ne (hc9.bx 7 3 _ rfl) (by decide)
      have n8 : X ≠ b + 8 := hs9.ne (hc9.bx 8 4 _ rfl) (by decide)
      have hS1 := hs9.other n6 (.int .i64 (q : Int))
      have hS2 := hS1.other n7 (.int .i64 (xa : Int))
      have hS3 := fun (bb : Bool) => hS2.other n8 (.bool bb)
      have d1 := (hc9.cell 6 3 _ rfl).1
      have d2 := (hc9.cell 6 3 _ rfl).2
      have d3 := hs9.cells.1
      have f7 := hc9.cell 7 3 _ rfl
      have f8 := hc9.cell 8 4 _ rfl
      obtain ⟨f7a, f7b⟩ := f7
      obtain ⟨f8a, f8b⟩ := f8
      have d10 := hs9.cells.2.1
      have d11 := hs9.cells.2.2
      simp only at d10 d11
      have d4 := (hA1.cell 7 3 _ rfl).1
      have d5 := (hA1.cell 7 3 _ rfl).2
      have d6 := (hA2.cell 8 4 _ rfl).1
      have d7 := (hA2.cell 8 4 _ rfl).2
      have d8 := hS2.cells.2.2
      have d9 := fun bb => ((hA3 bb).cell 8 4 _ rfl).1
      simp only at d3 d8
      have kq3 : ∀ bb, KpP W2 (((W9.setCell ⟨b + 6, 0, none⟩ (.int .i64 (q : Int))).setCell ⟨b + 7, 0, none⟩ (.int .i64 (xa : Int))).setCell ⟨b + 8, 0, none⟩ (.bool bb)) := fun bb => ((kq9.t (kp_set (hc9.bx 6 3 _ rfl) (by decide) _)).t (kp_set (hA1.bx 7 3 _ rfl) (by decide) _)).t (kp_set (hA2.bx 8 4 _ rfl) (by decide) _)
      have kp3 : ∀ B bb, KeptW B WrP W2 (((W9.setCell ⟨b + 6, 0, none⟩ (.int .i64 (q : Int))).setCell ⟨b + 7, 0, none⟩ (.int .i64 (xa : Int))).setCell ⟨b + 8, 0, none⟩ (.bool bb)) := fun B bb => (((kp9 B).trans (kept_set B (hc9.bx 6 3 _ rfl) (by decide) _)).trans (kept_set B (hA1.bx 7 3 _ rfl) (by decide) _)).trans (kept_set B (hA2.bx 8 4 _ rfl) (by decide) _)
      have HA3 := Hid.mk' hA3
      have HS3 := Hid.mk' hS3
      have HKQ := Hid.mk' kq3
      have HKP := Hid.mk' kp3
      clear hA1 hA2 hA3 hS1 hS2 hS3 hc9 hs9 kp9 kq9 kq3 kp3 HCQ HSB
      rcases HIS.out with ⟨c, hcj, rfl, rfl, hqa, htr, hre⟩ | ⟨hje, rfl, rfl, hqs2⟩
      case inr =>
        have hz0 : ((0 : Int) == 0) = true := rfl
        have HRES : Hid (∀ B', KeptW B' WrP W2 (((W9.setCell ⟨b + 6, 0, none⟩ (.int .i64 (q : Int))).setCell ⟨b + 7, 0, none⟩ (.int .i64 (xa : Int))).setCell ⟨b + 8, 0, none⟩ (.bool true)) ∧ KpP W2 (((W9.setCell ⟨b + 6, 0, none⟩ (.int .i64 (q : Int))).setCell ⟨b + 7, 0, none⟩ (.int .i64 (xa : Int))).setCell ⟨b + 8, 0, none⟩ (.bool true)) ∧ ∃ av ov, Cq b (b + 10) w (bxC s B av ov (if (pre ++ [(xa, xt, 0, 0)]).length ≤ cs.length then Lz.restOf 0 (cs.take (pre ++ [(xa, xt, 0, 0)]).length) else s.size) (tokP (pre ++ [(xa, xt, 0, 0)])) (decide (cs.length < (pre ++ [(xa, xt, 0, 0)]).length))) av (min (pre ++ [(xa, xt, 0, 0)]).length cs.length) (atv (cs.take (pre ++ [(xa, xt, 0, 0)]).length)) ov (min (pre ++ [(xa, xt, 0, 0)]).length cs.length) (pqv (cpP (pre ++ [(xa, xt, 0, 0)]))) (((W9.setCell ⟨b + 6, 0, none⟩ (.int .i64 (q : Int))).setCell ⟨b + 7, 0, none⟩ (.int .i64 (xa : Int))).setCell ⟨b + 8, 0, none⟩ (.bool true))) := by
          intro B'
          refine ⟨HKP.out B' true, HKQ.out true, av, ov, ?_⟩
          have hl : (pre ++ [(xa, xt, 0, 0)]).length = cs.length + 1 := by rw [List.length_append, HJ.out, hje]; rfl
          have e1 : cpP (pre ++ [((xa, xt, 0, 0) : Pt)]) = cpP pre := by simp [cpP]
          rw [hl, if_neg (by omega), tokP_snoc, show decide (cs.length < cs.length + 1) = true by simp, Nat.min_eq_right (by omega), e1, List.take_of_length_le (by omega), ← hqs2]
          have := HA3.out true
          rw [hje, List.take_length] at this
          exact this
        clear HA3 HS3 HKQ HKP hqs2 hje
        iterate 300 (first | go_values | gi_big_skip | (refine skip_call (Eq.refl false) (Eq.refl none) (by kernel_rfl) ?_) | gi_guarded | gi_step | gi_upon | go_simp | skip)
        exact HRES.out _
      case inl =>
        obtain ⟨t1, t2, t3, t4, t5, t6, t7⟩ := htr
        rw [Sums.bl_length] at t5 t6
        have hz0 : ((c.cnt : Int) == 0) = false := by simp; omega
        have g1 : ¬ (c.cnt : Int) < 4 := by omega
        have g2 : ¬ (c.off : Int) < 1 := by omega
        have g3 : ¬ (65535 : Int) < (c.off : Int) := by omega
        have g4 : ¬ (q : Int) < (c.off : Int) := by omega
        have g5 : ¬ (s.size : Int) - 12 < (q : Int) := by omega
        have g6 : ¬ (s.size : Int) - 5 < (q : Int) + (c.cnt : Int) := by omega
        have HC := Hid.mk' (And.intro hcj (And.intro hqa hre))
        have HT7 := Hid.mk' t7
        obtain ⟨A3, hA3e⟩ : ∃ A3, ((W9.setCell ⟨b + 6, 0, none⟩ (.int .i64 (q : Int))).setCell ⟨b + 7, 0, none⟩ (.int .i64 (xa : Int))).setCell ⟨b + 8, 0, none⟩ (.bool false) = A3 := ⟨_, rfl⟩
        have hca := HA3.out false
        have hsa := HS3.out false
        have kqa := HKQ.out false
        have kpa := fun B' => HKP.out B' false
        rw [hA3e] at hca hsa kqa
        simp only [hA3e] at kpa
        have eS := (hca.cell 0 9 (.string s) rfl).1
        simp only [Nat.add_zero] at eS
        have e6 := (hca.cell 6 3 _ rfl).1
        have e8 := (hca.cell 8 4 _ rfl).1
        obtain ⟨y1, y2, y3⟩ := hsa.cells
        simp only at y1 y2 y3
        have HCA := Hid.mk' hca
        have HSA := Hid.mk' hsa
        have HKQA := Hid.mk' kqa
        have HKPA := Hid.mk' kpa
        clear hcj hqa hre t7 HA3 HS3 HKQ HKP hca hsa kqa kpa
        iterate 300 (first | (with_reducible refine stop_reg 20 ?_) | go_values | gi_big_skip | (refine skip_call (Eq.refl false) (Eq.refl none) (by kernel_rfl) ?_) | gi_guarded | gi_step | gi_upon | go_simp | skip)
        refine Hid.mk' ?_
        iterate 5 (first | go_values | gi_step | gi_upon | skip)
        rename_i K8 hK8 K9 hK9
        refine hK9 _ _ ?_
        clear hK9 K9
        have HK8 := Hid.mk' hK8
        clear hK8
        have HST : Hid (Cq b (b + 10) w (bxC s B av ov q xa false) av j (atv (cs.take j)) ov j (pqv (cpP pre)) A3 ∧ Sb A3 X (xa, xt, c.off, c.cnt) ∧ KpP W2 A3 ∧ ∀ B', KeptW B' WrP W2 A3) := ⟨HCA.out, HSA.out, HKQA.out, HKPA.out⟩
        clear HCA HSA HKQA HKPA eS e6 e8 y1 y2 y3
        iterate 1 (first | go_values | gi_step | gi_upon | skip)
        gi_loopw [15] (fun kv wi => ∃ k : Nat, kv = .int .i64 (k : Int) ∧ k ≤ c.cnt ∧ (Cq b (b + 10) w (bxC s B av ov q xa false) av j (atv (cs.take j)) ov j (pqv (cpP pre)) wi ∧ Sb wi X (xa, xt, c.off, c.cnt) ∧ KpP W2 wi ∧ ∀ B', KeptW B' WrP W2 wi)) (fun kv _ => c.cnt - (intOf kv).toNat)
        case atStart => exact ⟨0, rfl, Nat.zero_le _, HST.out⟩
        case round =>
          obtain ⟨k, rfl, hk, hcw, hsw, kqw, kpw⟩ := hrel
          clear HST
          have eS := (hcw.cell 0 9 (.string s) rfl).1
          simp only [Nat.add_zero] at eS
          have e6 := (hcw.cell 6 3 _ rfl).1
          obtain ⟨y1, y2, y3⟩ := hsw.cells
          simp only at y1 y2 y3
          have HCW := Hid.mk' hcw
          have HSW := Hid.mk' hsw
          have HKQW := Hid.mk' kqw
          have HKPW := Hid.mk' kpw
          clear hcw hsw kqw kpw
          by_cases hkc : k < c.cnt
          · have hkI : (k : Int) < (c.cnt : Int) := by omega
            obtain ⟨r, hr⟩ : ∃ r, q + k = r := ⟨_, rfl⟩
            have hrI : (q : Int) + (k : Int) = (r : Int) := by omega
            obtain ⟨d, hd⟩ : ∃ d, r - c.off = d := ⟨_, rfl⟩
            have hdI : (r : Int) - (c.off : Int) = (d : Int) := by omega
            obtain ⟨z, hz⟩ : ∃ z, z = (Sums.bl s).getD r 0 := ⟨_, rfl⟩
            have hz2 : z = (Sums.bl s).getD d 0 := by rw [hz, ← hd, ← hr, HC.out.2.1]; exact HT7.out k hkc
            have hix1 := idx_any s r z (by omega) hz
            have hix2 := idx_any s d z (by omega) hz2
            have hzn : ((z : Int) != (z : Int)) = false := by simp
            have HZ := Hid.mk' (And.intro hz (And.intro hr hd))
            have hrs : r < s.size := by omega
            have hwr1 : IntKind.i64.wrap (r : Int) = (r : Int) := by rw [IntKind.wrap_i64]; omega
            have hwd1 : IntKind.i64.wrap (d : Int) = (d : Int) := by rw [IntKind.wrap_i64]; omega
            have hds : d < s.size := by omega
            clear hz hz2 hr hd
            iterate 300 (first | (with_reducible refine stop_reg 23 ?_) | go_values | gi_big_skip | (refine skip_call (Eq.refl false) (Eq.refl none) (by kernel_rfl) ?_) | gi_guarded | gi_step | gi_upon | go_simp | skip)
            refine Hid.mk' ?_
            rename_i K10 hK10
            have HK10 := Hid.mk' hK10
            clear hK10
            refine region_kept (by kernel_rfl) (fun kz => (#[.string s, .int .i64 (q : Int), .int .i64 (k : Int), .int .i64 (r : Int), .int .u8 (z : Int), .string s, .int .i64 (q : Int), .int .i64 (k : Int), .int .i64 (r : Int), .pointer (some ⟨X, 1, none⟩), .int .i64 (c.off : Int), .int .i64 (d : Int), .int .u8 (z : Int), .bool false] : Array Value).getD kz undef) (fun u => { tmps := #[.string s, .string B, .pointer (some ⟨b, 0, none⟩), undef, .pointer (some ⟨b + 1, 0, none⟩), .pointer (some ⟨b + 2, 0, none⟩), .pointer (some ⟨b + 3, 0, none⟩), .pointer (some ⟨b + 4, 0, none⟩), .pointer (some ⟨b + 5, 0, none⟩), .pointer (some ⟨b + 6, 0, none⟩), .pointer (some ⟨b + 7, 0, none⟩), .pointer (some ⟨b + 8, 0, none⟩), .func (.func 26) #[] #[.pointer (some ⟨b + 9, 0, none⟩)], .int .i64 (xa : Int), .pointer (some ⟨X, 0, none⟩), .int .i64 (k : Int), .string B, .func (.func 26) #[] #[.pointer (some ⟨b + 9, 0, none⟩)], .func (.func 26) #[] #[.pointer (some ⟨b + 9, 0, none⟩)], .bool false, .func (.func 26) #[] #[.pointer (some ⟨b + 9, 0, none⟩)], .int .i64 (xa : Int), .agg #[.string xt, .int .i64 (c.off : Int), .int .i64 (c.cnt : Int)], .bool false, .bool false, .int .i64 (p : Int), .pointer (some ⟨X, 0, none⟩), .string xt, .int .i64 (xt.size : Int), .int .i64 (q : Int), .string s, .int .i64 (s.size : Int), .bool false, .bool false, .bool false, .pointer (some ⟨X, 0, none⟩), .string xt, .string s, .int .i64 (p : Int), .int .i64 (p : Int), .pointer (some ⟨X, 0, none⟩), .string xt, .int .i64 (xt.size : Int), .int .i64 (q : Int), .string xt, .bool false, .bool false, .int .i64 (p : Int), .pointer (some ⟨X, 0, none⟩), .string xt, .int .i64 (xt.size : Int), .int .i64 (q : Int), .int .i64 (xa : Int), .pointer (some ⟨X, 2, none⟩), .int .i64 (c.cnt : Int), .bool false, .bool false, .pointer (some ⟨X, 2, none⟩), .int .i64 (c.cnt : Int), .bool false, .bool false, .pointer (some ⟨X, 1, none⟩), .int .i64 (c.off : Int), .bool false, .bool false, .bool false, .pointer (some ⟨X, 1, none⟩), .int .i64 (c.off : Int), .bool false, .bool false, .bool false, .pointer (some ⟨X, 1, none⟩), .int .i64 (c.off : Int), .int .i64 (q : Int), .bool false, .bool false, .bool false, .int .i64 (q : Int), .string s, .int .i64 (s.size : Int), .int .i64 ((s.size : Int) - 12), .bool false, .bool false, .bool false, .int .i64 (q : Int), .pointer (some ⟨X, 2, none⟩), .int .i64 (c.cnt : Int), .int .i64 ((q : Int) + (c.cnt : Int)), .string s, .int .i64 (s.size : Int), .int .i64 ((s.size : Int) - 5), .bool false, .bool false, .int .i64 (k : Int), .pointer (some ⟨X, 2, none⟩), .int .i64 (c.cnt : Int), .bool true, u97, u98, u 0, u 1, u 2, u 3, u 4, u 5, u 6, u 7, u 8, u 9, u 10, u 11, u 12, u 13, undef, undef, undef, undef, undef, undef, undef, undef, undef, undef, undef, undef, undef, undef, undef, undef, undef, undef, undef, undef, undef, undef, undef, undef, undef, undef, undef, undef, undef, undef, undef, undef, undef, undef], defers := [] }) (fun k => (#[u99, u100, u101, u102, u103, u104, u105, u106, u107, u108, u109, u110, u111, u112] : Array Value).getD k undef) _ (fun X => X = { wr with drawn := wr.drawn + 1 }) (rfl) (deps_of' (by kernel_rfl)) ?_ ?_ ?_
            · intro f1 f2 hfg
              simp only [hfg 0 (by decide), hfg 1 (by decide), hfg 2 (by decide), hfg 3 (by decide), hfg 4 (by decide), hfg 5 (by decide), hfg 6 (by decide), hfg 7 (by decide), hfg 8 (by decide), hfg 9 (by decide), hfg 10 (by decide), hfg 11 (by decide), hfg 12 (by decide), hfg 13 (by decide)]
            · intro X0 hX i0 hi0 o ho u hdeps KK hKK
              subst hX
              have hKX := hKK _ rfl
              rcases (show i0 = 0 ∨ i0 = 1 ∨ i0 = 2 ∨ i0 = 3 ∨ i0 = 4 ∨ i0 = 5 ∨ i0 = 6 ∨ i0 = 7 ∨ i0 = 8 ∨ i0 = 9 ∨ i0 = 10 ∨ i0 = 11 ∨ i0 = 12 ∨ i0 = 13 by have : i0 < 14 := hi0; omega) with rfl | rfl | rfl | rfl | rfl | rfl | rfl | rfl | rfl | rfl | rfl | rfl | rfl | rfl
              all_goals (simp at ho; subst ho; simp [Region.binds] at hdeps; simp [wpOpIn, Region.wanted, yielded, Oper.wpIn, Oper.semAt_some, execOp, Oper.uponIn, go_sem, hdeps, eS, e6, y1, y2, y3, hrI, hdI, hix1, hix2, hzn, hwr1, hwd1]; first | exact hKX | (simp [upd, hdeps] at hKX; exact hKX))
            · intro X0 hX
              subst hX
              refine HK10.out _ _ ?_
              iterate 300 (first | go_values | gi_big_skip | (refine skip_call (Eq.refl false) (Eq.refl none) (by kernel_rfl) ?_) | gi_guarded | gi_step | gi_upon | go_simp | skip)
              go_roundw
              case rel =>
                refine ⟨k + 1, by simp, by omega, HCW.out.drew, HSW.out, HKQW.out.t ⟨Nat.le_refl _, fun i o hi _ => hi⟩, fun B' => (HKPW.out B').trans ⟨Nat.le_refl _, fun i o _ hi _ => hi⟩⟩
              case measure =>
                simp [intOf]
                omega
          · have hkI : ¬ (k : Int) < (c.cnt : Int) := by omega
            iterate 300 (first | (with_reducible refine stop_reg 25 ?_) | go_values | gi_big_skip | (refine skip_call (Eq.refl false) (Eq.refl none) (by kernel_rfl) ?_) | gi_guarded | gi_step | gi_upon | go_simp | skip)
            refine HK8.out _ _ ?_
            obtain ⟨ab, ac, rfl⟩ := row_shape' HCW.out.ra
            obtain ⟨ob, oc, rfl⟩ := row_shape' HCW.out.ro
            have e4 := (HCW.out.cell 4 _ _ rfl).1
            have hjc : j < cs.length := (List.getElem?_eq_some_iff.1 HC.out.1).1
            obtain ⟨i1, hi1, hy0, hy1, hy2⟩ := info_parts infoI
            obtain ⟨i2, hi2, hx0, hx1, hx2⟩ := info_parts infoQ
            gi_wp2_with (gi_at_builtin; refine stopApp _ _ _ _ rfl ?_)
            apply Hid.mk'
            refine wpListIn_append_own _ rfl _ _ 26 rfl (b + 10) 3 i1 (.int .i64 0) 1 8 Try.underlying26 hi1 hy0 hy1 hy2 rfl (by decide) _ _ _ rfl (HCW.out.new _).ra ⟨wr.heap.size, 0, none⟩ 1 1 [.int .i64 (q : Int)] rfl rfl (int_news _ _ _ rfl) (int_one _) (by unfold maxLen; omega) (by omega) (HCW.out.new _).siz ?_
            intro v4 w4 hown4 hgrow4 _
            have hg4 := (HCW.out.new _).growA hgrow4 hown4
            have hs3 : Sb (wr.alloc (.cells #[.int .i64 (q : Int)] 3)) X (xa, xt, c.off, c.cnt) := (Below.heap_alloc _ _ _ (Array.getElem?_eq_some_iff.1 HSW.out).1).trans HSW.out
            have hs4 : Sb w4 X (xa, xt, c.off, c.cnt) := (hgrow4.block X (Array.getElem?_eq_some_iff.1 hs3).1 (fun e => own_ty (HCW.out.new _).ra hs3 (by decide) e.symm)).trans hs3
            have kq4 : KpP W2 w4 := (HKQW.out.t (kp_new _ _)).t (kp_own (HCW.out.new _).ra hgrow4 (by decide))
            have kp4 : ∀ B', KeptW B' WrP W2 w4 := fun B' => ((HKPW.out B').trans (kept_new _ _ _)).trans (kept_own B' (HCW.out.new _).ra hgrow4 (by decide))
            obtain ⟨ab4, ac4, rfl⟩ := row_shape' hown4
            have hg5 := hg4.set 4 _ _ (.slice ab4 (j + 1) ac4) rfl
            have n4 : X ≠ b + 4 := hs4.ne (hg4.bx 4 _ _ rfl) (by decide)
            have hs5 := hs4.other n4 (.slice ab4 (j + 1) ac4)
            have kq5 := kq4.t (kp_set (hg4.bx 4 _ _ rfl) (by decide) (.slice ab4 (j + 1) ac4))
            have kp5 := fun B' => (kp4 B').trans (kept_set B' (hg4.bx 4 _ _ rfl) (by decide) (.slice ab4 (j + 1) ac4))
            have f4 := (hg4.cell 4 _ _ rfl).2
            have f4b := (hg4.cell 4 _ _ rfl).1
            simp only [List.set_cons_succ, List.set_cons_zero] at hg5
            have HG5 := Hid.mk' hg5
            have HS5 := Hid.mk' hs5
            have HKQ5 := Hid.mk' kq5
            have HKP5 := Hid.mk' kp5
            clear hg4 hs3 hs4 kq4 kp4 hg5 hs5 kq5 kp5 hown4 hgrow4 e4 e6 eS y1 y2 y3
            iterate 300 (first | (with_reducible refine stop_reg 26 ?_) | go_values | gi_big_skip | (refine skip_call (Eq.refl false) (Eq.refl none) (by kernel_rfl) ?_) | gi_guarded | gi_step | gi_upon | go_simp | skip)
            refine Hid.mk' ?_
            obtain ⟨W5, hW5⟩ : ∃ W5, w4.setCell ⟨b + 4, 0, none⟩ (.slice ab4 (j + 1) ac4) = W5 := ⟨_, rfl⟩
            rw [hW5] at HG5 HS5 HKQ5 ⊢
            simp only [hW5] at HKP5
            clear hW5 f4 f4b
            have e5 := (HG5.out.cell 5 _ _ rfl).1
            obtain ⟨y1, y2, y3⟩ := HS5.out.cells
            simp only at y1 y2 y3
            gi_wp2_with (gi_at_builtin; refine stopApp _ _ _ _ rfl ?_)
            apply Hid.mk'
            refine wpListIn_append_own _ rfl _ _ 27 rfl (b + 10) 32 i2 _ 3 32 Try.underlying27 hi2 hx0 hx1 hx2 rfl (by decide) _ _ _ rfl (HG5.out.new _).ro ⟨W5.heap.size, 0, none⟩ 1 1 [.string xt, .int .i64 (c.off : Int), .int .i64 (c.cnt : Int)] rfl rfl (three_news _ _ _ _ _ rfl) (three_one _ _ _) (by unfold maxLen; omega) (by omega) (HG5.out.new _).siz ?_
            intro v6 w6 hown6 hgrow6 _
            have hg6 := (HG5.out.new _).growO hgrow6 hown6
            have hs5 : Sb (W5.alloc (.cells #[.string xt, .int .i64 (c.off : Int), .int .i64 (c.cnt : Int)] 32)) X (xa, xt, c.off, c.cnt) := (Below.heap_alloc _ _ _ (Array.getElem?_eq_some_iff.1 HS5.out).1).trans HS5.out
            have hs6 : Sb w6 X (xa, xt, c.off, c.cnt) := (hgrow6.block X (Array.getElem?_eq_some_iff.1 hs5).1 (fun e => hXo e.symm)).trans hs5
            have kq6 : KpP W2 w6 := (HKQ5.out.t (kp_new _ _)).t (kp_own (HG5.out.new _).ro hgrow6 (by decide))
            have kp6 : ∀ B', KeptW B' WrP W2 w6 := fun B' => ((HKP5.out B').trans (kept_new _ _ _)).trans (kept_own B' (HG5.out.new _).ro hgrow6 (by decide))
            obtain ⟨ob6, oc6, rfl⟩ := row_shape' hown6
            have hg7 := hg6.set 5 _ _ (.slice ob6 (j + 1) oc6) rfl
            have n5 : X ≠ b + 5 := hs6.ne (hg6.bx 5 _ _ rfl) (by decide)
            have hs7 := hs6.other n5 (.slice ob6 (j + 1) oc6)
            have kq7 := kq6.t (kp_set (hg6.bx 5 _ _ rfl) (by decide) (.slice ob6 (j + 1) oc6))
            have kp7 := fun B' => (kp6 B').trans (kept_set B' (hg6.bx 5 _ _ rfl) (by decide) (.slice ob6 (j + 1) oc6))
            have f5 := (hg6.cell 5 _ _ rfl).2
            have f5b := (hg6.cell 5 _ _ rfl).1
            simp only [List.set_cons_succ, List.set_cons_zero] at hg7
            have HG7 := Hid.mk' hg7
            have HS7 := Hid.mk' hs7
            have HKQ7 := Hid.mk' kq7
            have HKP7 := Hid.mk' kp7
            clear hg6 hs5 hs6 kq6 kp6 hg7 hs7 kq7 kp7 hown6 hgrow6 e5 y1 y2 y3
            iterate 300 (first | (with_reducible refine stop_reg 27 ?_) | go_values | gi_big_skip | (refine skip_call (Eq.refl false) (Eq.refl none) (by kernel_rfl) ?_) | gi_guarded | gi_step | gi_upon | go_simp | skip)
            refine Hid.mk' ?_
            obtain ⟨W7, hW7⟩ : ∃ W7, w6.setCell ⟨b + 5, 0, none⟩ (.slice ob6 (j + 1) oc6) = W7 := ⟨_, rfl⟩
            rw [hW7] at HG7 HS7 HKQ7 ⊢
            simp only [hW7] at HKP7
            clear hW7 f5 f5b
            have e6 := (HG7.out.cell 6 _ _ rfl).1
            have e6f := (HG7.out.cell 6 _ _ rfl).2
            obtain ⟨y1, y2, y3⟩ := HS7.out.cells
            simp only at y1 y2 y3
            have hg8 := HG7.out.set 6 _ _ (.int .i64 ((q : Int) + (c.cnt : Int))) rfl
            have kq8 := HKQ7.out.t (kp_set (HG7.out.bx 6 _ _ rfl) (by decide) (.int .i64 ((q : Int) + (c.cnt : Int))))
            have kp8 := fun B' => (HKP7.out B').trans (kept_set B' (HG7.out.bx 6 _ _ rfl) (by decide) (.int .i64 ((q : Int) + (c.cnt : Int))))
            simp only [List.set_cons_succ, List.set_cons_zero] at hg8
            have HRES : Hid (∀ B', KeptW B' WrP W2 (W7.setCell ⟨b + 6, 0, none⟩ (.int .i64 ((q : Int) + (c.cnt : Int)))) ∧ KpP W2 (W7.setCell ⟨b + 6, 0, none⟩ (.int .i64 ((q : Int) + (c.cnt : Int)))) ∧ ∃ av ov, Cq b (b + 10) w (bxC s B av ov (if (pre ++ [(xa, xt, c.off, c.cnt)]).length ≤ cs.length then Lz.restOf 0 (cs.take (pre ++ [(xa, xt, c.off, c.cnt)]).length) else s.size) (tokP (pre ++ [(xa, xt, c.off, c.cnt)])) (decide (cs.length < (pre ++ [(xa, xt, c.off, c.cnt)]).length))) av (min (pre ++ [(xa, xt, c.off, c.cnt)]).length cs.length) (atv (cs.take (pre ++ [(xa, xt, c.off, c.cnt)]).length)) ov (min (pre ++ [(xa, xt, c.off, c.cnt)]).length cs.length) (pqv (cpP (pre ++ [(xa, xt, c.off, c.cnt)]))) (W7.setCell ⟨b + 6, 0, none⟩ (.int .i64 ((q : Int) + (c.cnt : Int))))) := by
              intro B'
              refine ⟨kp8 B', kq8, .slice ab4 (j + 1) ac4, .slice ob6 (j + 1) oc6, ?_⟩
              obtain ⟨hcj, hqa, hre⟩ := HC.out
              have hl : (pre ++ [(xa, xt, c.off, c.cnt)]).length = j + 1 := by rw [List.length_append, HJ.out]; rfl
              have e1 : cpP (pre ++ [((xa, xt, c.off, c.cnt) : Pt)]) = cpP pre ++ [((xa, xt, c.off, c.cnt) : Pt)] := by simp [cpP]; omega
              have e2 : cs.take (j + 1) = cs.take j ++ [c] := by rw [List.take_add_one, hcj]; rfl
              have e3 : pqv (cpP (pre ++ [((xa, xt, c.off, c.cnt) : Pt)])) = pqv (cpP pre) ++ [.string xt, .int .i64 (c.off : Int), .int .i64 (c.cnt : Int)] := by rw [e1, pqv_append]; rfl
              have e4 : atv (cs.take (j + 1)) = atv (cs.take j) ++ [.int .i64 (q : Int)] := by rw [e2, atv, List.map_append, hqa]; rfl
              have e5 : ((Lz.restOf 0 (cs.take (j + 1)) : Nat) : Int) = (q : Int) + (c.cnt : Int) := by rw [hre, hqa]; omega
              rw [hl, if_pos (by omega), tokP_snoc, show decide (cs.length < j + 1) = false by simp; omega, Nat.min_eq_left (by omega), e3, e4]
              show Cq b (b + 10) w [(9, .string s), (26, .slice none 0 0), (27, .slice none 0 0), (4, .bool false), (26, .slice ab4 (j + 1) ac4), (27, .slice ob6 (j + 1) oc6), (3, .int .i64 ((Lz.restOf 0 (cs.take (j + 1)) : Nat) : Int)), (3, .int .i64 (xa : Int)), (4, .bool false), (9, .string B)] _ _ _ _ _ _ _
              rw [e5]
              exact hg8
            clear hg8 kq8 kp8 HG7 HS7 HKQ7 HKP7
            iterate 300 (first | go_values | gi_big_skip | (refine skip_call (Eq.refl false) (Eq.refl none) (by kernel_rfl) ?_) | gi_guarded | gi_step | gi_upon | go_simp | skip)
            exact HRES.out _
end Go.Proofs.Ytchjmhgalbkjkab
