/-
  dragnetlaw7.ManyFirst, for every input. Conditions: as it says.
-/
import Derived.Test.YtlejfeapnnioeaaMnR
import Derived.Test.YtlejfeapnnioeaaRngS
import Derived.Test.YtlejfeapnnioeaaRngQ
import Derived.Stop.RegionWithIn
namespace Go.Proofs.Ytlejfeapnnioeaa
open Go.RowKit Go.Shelf BigFrame
set_option linter.unusedVariables false
attribute [local go_sem] Oper.semAt_some
/-- a list of texts that fits makes a set -/
theorem new_fit (p : Option Addr) (cap : Nat) (L : List ByteArray) (fold : Bool) (w : World) (h : StrAt w p L) (hf : Mn.Fit fold L) (h0 : 0 < L.length) (hcap : L.length ≤ cap) (hcm : cap ≤ 9223372036854775807) :
    Calls Try.prog 9 #[.slice p L.length cap, .bool fold] w fun e w' => ∃ sb, e = .returned (.tuple #[.pointer (some ⟨sb, 0, none⟩), .int .i64 0, .int .i64 0]) ∧ ManyM w.heap.size sb (Mn.wds fold L) fold w' ∧ Below w.heap.size w w' := by
  have hg := hf.good h0
  refine (new_any p cap L fold w h h0 hg.few hcap hcm (fun x hx => by have := (hf.siz x hx).2; omega)).mono ?_
  rintro e w' ⟨hB, h⟩
  rcases h with ⟨k, hk, h1, _⟩ | ⟨_, sb, rfl, hm⟩
  · rw [hg.none_ k hk] at h1
    cases h1
  · exact ⟨sb, rfl, hm, hB⟩
theorem fit_cap {w : World} {B n : Nat} {p : Option Addr} {cap : Nat} {xs : List Value} (h : w.ownsRow B 9 1 (.slice p n cap) n xs) (h0 : 0 < n) : ∃ g, p = some ⟨g, 0, none⟩ ∧ n ≤ cap ∧ cap ≤ maxLen ∧ g < w.heap.size := by
  rcases h.2 with ⟨_, h1⟩ | ⟨g, cap', cur, h1, h2, h3, h4, h5, _⟩
  · omega
  · simp only [Value.slice.injEq] at h1
    obtain ⟨rfl, _, rfl⟩ := h1
    exact ⟨g, rfl, h4, h5, (Array.getElem?_eq_some_iff.1 h3).1⟩
theorem fst_is {W : List (List Nat)} (T : List Nat) (k0 : Nat) (hk : k0 ≤ T.length) : Mn.Fs W T k0 (Mn.fstF (Mn.nsOf W) W (T.drop k0) [] k0 0 (-1)).1 (Mn.fstF (Mn.nsOf W) W (T.drop k0) [] k0 0 (-1)).2 := by
  have h := Mn.fst_right (Mn.nsOf_tr W) (Mn.nsOf_word (W := W)) T k0 (T.drop k0) k0 0 (-1) rfl (Nat.le_refl _) hk (Mn.Fi.start W T k0)
  have e : (T.take k0).drop k0 = [] := List.drop_eq_nil_of_le (by rw [List.length_take]; omega)
  rw [e] at h
  have e2 : Mn.suf (Mn.nsOf W) [] = [] := by rfl
  rw [e2] at h
  exact h
theorem fst_far {W : List (List Nat)} (T : List Nat) (k0 : Nat) (hk : T.length < k0) : Mn.Fs W T k0 (Mn.fstF (Mn.nsOf W) W (T.drop k0) [] k0 0 (-1)).1 (Mn.fstF (Mn.nsOf W) W (T.drop k0) [] k0 0 (-1)).2 := by
  rw [List.drop_eq_nil_of_le (by omega)]
  unfold Mn.fstF
  refine ⟨fun _ a j ha ho => ?_, fun v hv => ?_, by simp⟩
  · have := Mn.occ_len ho
    omega
  · simp only at hv
    omega
/-- what First tells, and what the law reckons -/
def FirstIs (W : List (List Nat)) (T : List Nat) (frm : Int) (pv wv : Int) (ok : Bool) : Prop :=
  (ok = false ∧ pv = 0 ∧ wv = 0 ∧ Mn.lsF frm (fun j => (W.getD j []).length) (Mn.allF W T) = (-1, 0)) ∨ ∃ a v : Nat, ok = true ∧ pv = (a : Int) ∧ wv = (v : Int) ∧ Mn.Occ W T a v ∧ Mn.lsF frm (fun j => (W.getD j []).length) (Mn.allF W T) = ((a : Int), (W.getD v []).length)
theorem first_fit (B sb : Nat) (W : List (List Nat)) (fold : Bool) (s : ByteArray) (frm : Int) (w : World) (h : ManyM B sb W fold w) (hw : Wok W) (hs : s.size ≤ 1125899906842624) (h1 : -9223372036854775808 ≤ frm) (h2 : frm ≤ 9223372036854775807) :
    Calls Try.prog 18 #[.pointer (some ⟨sb, 0, none⟩), .string s, .int .i64 frm] w fun e w' => ∃ pv wv ok, e = .returned (.tuple #[.int .i64 pv, .int .i64 wv, .bool ok]) ∧ FirstIs W (tx fold s) frm pv wv ok ∧ Below w.heap.size w w' := by
  refine (firstM_any B sb W fold s frm w h hw hs h1 h2).mono ?_
  rintro e w' ⟨rfl, n, rfl⟩
  have hF : Mn.Fs W (tx fold s) frm.toNat (Mn.fstF (Mn.nsOf W) W ((tx fold s).drop frm.toNat) [] frm.toNat 0 (-1)).1 (Mn.fstF (Mn.nsOf W) W ((tx fold s).drop frm.toNat) [] frm.toNat 0 (-1)).2 := by
    by_cases hk : frm.toNat ≤ (tx fold s).length
    · exact fst_is _ _ hk
    · exact fst_far _ _ (by omega)
  obtain ⟨⟨a, f⟩, hR⟩ : ∃ R, Mn.fstF (Mn.nsOf W) W ((tx fold s).drop frm.toNat) [] frm.toNat 0 (-1) = R := ⟨_, rfl⟩
  rw [hR] at hF ⊢
  obtain ⟨l1, l2⟩ := Mn.first_ls hw.nod hF
  have hB : Below w.heap.size w (w.drewN n) := (Below.refl _ w).drewN' n
  unfold fstV
  by_cases hf : f = -1
  · rw [if_pos hf]
    exact ⟨0, 0, false, rfl, .inl ⟨rfl, rfl, rfl, l1 hf⟩, hB⟩
  · rw [if_neg hf]
    have hge := hF.ge
    simp only at hge
    obtain ⟨v, rfl⟩ := Int.eq_ofNat_of_zero_le (show 0 ≤ f by omega)
    exact ⟨_, _, true, rfl, .inr ⟨a, v, rfl, rfl, rfl, (hF.some_ v rfl).2.1, l2 v rfl⟩, hB⟩
structure Mf0 (b : Nat) (frm : Int) (w V : World) : Prop where
  bf : V.heap[b]? = some (.cells #[.int .i64 frm] 3 (0, 0))
  br : V.heap[b + 1]? = some (.cells #[.bool false] 4 (0, 0))
  bel : Below b w V
  siz : b + 2 ≤ V.heap.size
theorem Mf0.start (w : World) (b : Nat) (hb : w.heap.size = b) (frm : Int) : Mf0 b frm w ((w.alloc (.cells #[.int .i64 frm] 3)).alloc (.cells #[.bool false] 4)) := by
  subst hb
  have n1 := heap_alloc_new w (.cells #[.int .i64 frm] 3)
  have n2 := heap_alloc_new (w.alloc (.cells #[.int .i64 frm] 3)) (.cells #[.bool false] 4)
  rw [World.size_alloc] at n2
  exact ⟨(Below.heap_alloc _ _ _ (by simp)).trans n1, n2, ((Below.refl _ w).alloc (Nat.le_refl _) _).alloc (by simp) _, by simp⟩
theorem Mf0.keep {b : Nat} {frm : Int} {w V V' : World} (h : Mf0 b frm w V) (hb : Below V.heap.size V V') : Mf0 b frm w V' := by
  have hs := h.siz
  exact ⟨(hb.block b (by omega)).trans h.bf, (hb.block (b + 1) (by omega)).trans h.br, h.bel.trans ⟨hb.os, hb.tape, hb.output, hb.size, fun k hk => hb.block k (by omega)⟩, Nat.le_trans hs hb.size⟩
/-- the words are made -/
structure Mf1 (b : Nat) (frm : Int) (w : World) (B gw m c : Nat) (L : List ByteArray) (V : World) : Prop extends Mf0 b frm w V where
  bw : V.heap[B]? = some (.cells #[.slice (some ⟨gw, 0, none⟩) m c] 22 (0, 0))
  str : StrAt V (some ⟨gw, 0, none⟩) L
  lo : b + 2 ≤ B
  hi : B < V.heap.size
  gl : gw < B
theorem Mf1.keep {b : Nat} {frm : Int} {w V V' : World} {B gw m c : Nat} {L : List ByteArray} (h : Mf1 b frm w B gw m c L V) (hb : Below V.heap.size V V') : Mf1 b frm w B gw m c L V' := by
  exact ⟨h.toMf0.keep hb, (hb.block B h.hi).trans h.bw, h.str.keep hb, h.lo, Nat.lt_of_lt_of_le h.hi hb.size, h.gl⟩
theorem Mf1.of {b : Nat} {frm : Int} {w V V2 : World} {gw m c B1 : Nat} {L : List ByteArray} (h : Mf0 b frm w V) (hb : Below V.heap.size V V2) (hr : V2.ownsRow B1 9 1 (.slice (some ⟨gw, 0, none⟩) m c) m (strL L)) (hm : m = L.length) (h0 : 0 < m) : Mf1 b frm w V2.heap.size gw m c L (V2.alloc (.cells #[.slice (some ⟨gw, 0, none⟩) m c] 22)) := by
  have hk := h.keep hb
  have ha : Below V2.heap.size V2 (V2.alloc (.cells #[.slice (some ⟨gw, 0, none⟩) m c] 22)) := (Below.refl _ V2).alloc (Nat.le_refl _) _
  obtain ⟨g, hg, _, _, hlt⟩ := fit_cap hr h0
  cases hg
  exact ⟨hk.keep ha, heap_alloc_new V2 _, (str_at hr hm).keep ha, hk.siz, by simp, hlt⟩
theorem Mf1.cf {b : Nat} {frm : Int} {w V : World} {B gw m c : Nat} {L : List ByteArray} (h : Mf1 b frm w B gw m c L V) : V.cell? ⟨b, 0, none⟩ = some (.int .i64 frm) := by simp [World.cell?, h.bf]
def ManyA (sb : Nat) (W : List (List Nat)) (fold : Bool) (w : World) : Prop := ∃ B, ManyM B sb W fold w
theorem many_any {B sb : Nat} {W : List (List Nat)} {fold : Bool} {w : World} (h : ManyM B sb W fold w) : ManyA sb W fold w := ⟨B, h⟩
theorem manyA_keep {sb : Nat} {W : List (List Nat)} {fold : Bool} {w w' : World} (h : ManyA sb W fold w) (hb : Below w.heap.size w w') : ManyA sb W fold w' := by
  obtain ⟨B, h⟩ := h
  exact ⟨B, h.keep hb⟩
theorem first_fitA (sb : Nat) (W : List (List Nat)) (fold : Bool) (s : ByteArray) (frm : Int) (w : World) (h : ManyA sb W fold w) (hw : Wok W) (hs : s.size ≤ 1125899906842624) (h1 : -9223372036854775808 ≤ frm) (h2 : frm ≤ 9223372036854775807) :
    Calls Try.prog 18 #[.pointer (some ⟨sb, 0, none⟩), .string s, .int .i64 frm] w fun e w' => ∃ pv wv ok, e = .returned (.tuple #[.int .i64 pv, .int .i64 wv, .bool ok]) ∧ FirstIs W (tx fold s) frm pv wv ok ∧ Below w.heap.size w w' := by
  obtain ⟨B, h⟩ := h
  exact first_fit B sb W fold s frm w h hw hs h1 h2
/-- what the law knows in the range over all -/
structure FsI (T : Nat) (W : World) (r : Int × Nat) (V : World) : Prop where
  kp : ∀ i, i < T + 4 → i ≠ T → i ≠ T + 1 → V.heap[i]? = W.heap[i]?
  bl : V.heap[T]? = some (.cells #[.int .i64 r.1] 3 (0, 0))
  bz : V.heap[T + 1]? = some (.cells #[.int .i64 (r.2 : Int)] 3 (0, 0))
  bel : Below T W V
  siz : T + 4 ≤ V.heap.size
theorem FsI.ab {T : Nat} {W : World} {r : Int × Nat} {X Y : World} {row : Option Nat} (h : FsI T W r X) (hg : X.grownBy Y row) (hr : ∀ k, row = some k → T + 4 ≤ k) : FsI T W r Y := by
  have hs := h.siz
  have k : ∀ i, i < T + 4 → Y.heap[i]? = X.heap[i]? := fun i hi => hg.block i (by omega) (fun e => by have := hr i e.symm; omega)
  exact ⟨fun i h1 h2 h3 => (k i h1).trans (h.kp i h1 h2 h3), (k _ (by omega)).trans h.bl, (k _ (by omega)).trans h.bz, h.bel.trans ⟨hg.os, hg.tape, hg.output, hg.size, fun i hi => k i (by omega)⟩, Nat.le_trans hs hg.size⟩
theorem nil_all (fn : Fn) (first cap : Array Value) (w : World) : (binOp .eql 49 (.func fn first cap) .nilFunc).run Try.prog w = .ok (.bool false) w := by kernel_rfl
theorem k_to {K : Act → World → Prop} {a a' : Act} {V : World} (h : K a V) (e : a = a') : K a' V := e ▸ h
theorem wp_act {F : Fence} {n : Nat} {P : Program} {c : Code} {Q : Exit → Act → World → Prop} {a a' : Act} {V : World} (e : a = a') (h : Code.wpIn F n P c Q a' V) : Code.wpIn F n P c Q a V := e ▸ h
theorem stop_reg (id : Nat) {F : Fence} {n : Nat} {P : Program} {Q : Exit → Act → World → Prop} {a : Act} {w : World} {ops : Array Oper} {d : Bool} (h : Hid (Code.wpIn F n P (.region id ops d) Q a w)) : Code.wpIn F n P (.region id ops d) Q a w := h.out
theorem lsS_no {frm : Int} {ln : Nat → Nat} {r : Int × Nat} {a z v : Nat} (hz : ln v = z) (h : ¬ (frm ≤ (a : Int) ∧ (r.1 < 0 ∨ (a : Int) < r.1 ∨ ((a : Int) = r.1 ∧ r.2 < z)))) : Mn.lsS frm ln r (a + z, v) = r := by
  unfold Mn.lsS
  simp only
  rw [hz, show ((a + z : Nat) : Int) - (z : Int) = (a : Int) by omega, if_neg h]
theorem lsS_yes {frm : Int} {ln : Nat → Nat} {r : Int × Nat} {a z v : Nat} (hz : ln v = z) (h : frm ≤ (a : Int) ∧ (r.1 < 0 ∨ (a : Int) < r.1 ∨ ((a : Int) = r.1 ∧ r.2 < z))) : Mn.lsS frm ln r (a + z, v) = ((a : Int), z) := by
  unfold Mn.lsS
  simp only
  rw [hz, show ((a + z : Nat) : Int) - (z : Int) = (a : Int) by omega, if_pos h]
theorem FsI.drewN {T : Nat} {W : World} {r : Int × Nat} {V : World} (h : FsI T W r V) (k : Nat) : FsI T W r (V.drewN k) := ⟨h.kp, h.bl, h.bz, h.bel.drewN' k, h.siz⟩
theorem FsI.put {T : Nat} {W : World} {r : Int × Nat} {V : World} (h : FsI T W r V) (a z : Nat) : FsI T W ((a : Int), z) ((V.setCell ⟨T, 0, none⟩ (.int .i64 (a : Int))).setCell ⟨T + 1, 0, none⟩ (.int .i64 (z : Int))) := by
  have o2 : ∀ i, i ≠ T → i ≠ T + 1 → ((V.setCell ⟨T, 0, none⟩ (.int .i64 (a : Int))).setCell ⟨T + 1, 0, none⟩ (.int .i64 (z : Int))).heap[i]? = V.heap[i]? := fun i h1 h2 => (set_heap _ (T + 1) i 0 _ h2).trans (set_heap V T i 0 _ h1)
  refine ⟨fun i h1 h2 h3 => (o2 i h2 h3).trans (h.kp i h1 h2 h3), ?_, ?_, mb_set (mb_set h.bel (Nat.le_refl _) _ _) (by omega) _ _, by simpa [World.setCell] using h.siz⟩
  · refine (set_heap _ (T + 1) T 0 _ (by omega)).trans ?_
    have := h.bl
    simp [World.setCell, Array.getElem?_modify] at this ⊢
    simp [this]
  · have hz : (V.setCell ⟨T, 0, none⟩ (.int .i64 (a : Int))).heap[T + 1]? = some (.cells #[.int .i64 (r.2 : Int)] 3 (0, 0)) := (set_heap V T (T + 1) 0 _ (by omega)).trans h.bz
    simp [World.setCell, Array.getElem?_modify] at hz ⊢
    simp [hz]
theorem mf_fin {T : Nat} {w5 : World} {r : Int × Nat} {V : World} (hi : FsI T w5 r V) {b : Nat} {frm : Int} {w : World} {B gw m c : Nat} {L : List ByteArray} (h5 : Mf1 b frm w B gw m c L w5) (hBT : B < T) {D : Nat} (hD : T + 4 ≤ D) (hdf : V.heap[D]? = some (.deferred (some []))) (X : World) (e1 : X.heap = V.heap) (e2 : X.os = V.os) (e3 : X.tape = V.tape) (e4 : X.output = V.output) :
    (X.setCell ⟨b + 1, 0, none⟩ (.bool true)).heap[D]? = some (.deferred (some [])) ∧ ((X.setCell ⟨b + 1, 0, none⟩ (.bool true)).putObj D (.deferred none)).cell? ⟨b + 1, 0, none⟩ = some (.bool true) ∧ Below b w ((X.setCell ⟨b + 1, 0, none⟩ (.bool true)).putObj D (.deferred none)) := by
  have hlo := h5.lo
  have hbr : X.heap[b + 1]? = some (.cells #[.bool false] 4 (0, 0)) := by
    rw [e1]
    exact (hi.kp (b + 1) (by omega) (by omega) (by omega)).trans h5.br
  have hd : (X.setCell ⟨b + 1, 0, none⟩ (.bool true)).heap[D]? = some (.deferred (some [])) := (set_heap X (b + 1) D 0 _ (by omega)).trans (by rw [e1]; exact hdf)
  have hc : (X.setCell ⟨b + 1, 0, none⟩ (.bool true)).cell? ⟨b + 1, 0, none⟩ = some (.bool true) := by
    simp [World.setCell, World.cell?, Array.getElem?_modify, hbr]
  have hDl : D < (X.setCell ⟨b + 1, 0, none⟩ (.bool true)).heap.size := (Array.getElem?_eq_some_iff.1 hd).1
  have hBX : Below b w X := by
    have h1 := h5.bel.trans ⟨hi.bel.os, hi.bel.tape, hi.bel.output, hi.bel.size, fun k hk => hi.bel.block k (by omega)⟩
    exact ⟨e2.trans h1.os, e3.trans h1.tape, e4.trans h1.output, by rw [e1]; exact h1.size, fun k hk => by rw [e1]; exact h1.block k hk⟩
  refine ⟨hd, (World.cell?_of_block (a := ⟨b + 1, 0, none⟩) (World.putObj_heap_other (fun e => by simp only at e; omega))).trans hc, ?_⟩
  exact (mb_set hBX (by omega) _ _).trans ((Below.refl b _).grown (grownBy_putObj' _ D (.deferred none)) (by have := hi.siz; have := congrArg Array.size e1; simp [World.setCell]; omega) (fun k e => by cases e; omega))
theorem ext_part (s : ByteArray) (i k : Nat) : Sums.bl (s.extract i (i + k)) = ((Sums.bl s).drop i).take k := by
  rw [Sums.bl_extract, List.drop_take]
  congr 1
  omega
theorem occ_ext {fold : Bool} {L : List ByteArray} {s x : ByteArray} {a v : Nat} (h : Mn.Occ (Mn.wds fold L) (tx fold s) a v) (hx : L.getD v ByteArray.empty = x) : v < L.length ∧ ((Mn.wds fold L).getD v []).length = x.size ∧ a + x.size ≤ s.size ∧ Mn.fd fold (s.extract a (a + x.size)) = Mn.fd fold x := by
  obtain ⟨_, h1, h2, h3⟩ := Mn.occ_get h
  have hl := (Mn.occ_len h).1
  have hv : v < L.length := by
    have := (List.getElem?_eq_some_iff.1 h1).1
    rwa [Mn.wds_len] at this
  have e1 : (Mn.wds fold L).getD v [] = Sums.bl (Mn.fd fold x) := by
    rw [List.getD_eq_getElem?_getD, Mn.wds_get fold L v hv, hx]
    rfl
  have e2 : ((Mn.wds fold L).getD v []).length = x.size := by rw [e1, Sums.bl_length, Mn.fd_size]
  rw [e2, tx_len] at hl
  refine ⟨hv, e2, hl, Sums.bl_inj ?_⟩
  have h4 := List.prefix_iff_eq_take.1 h2
  rw [e2] at h4
  rw [Mn.bl_fd, ext_part, List.map_take, List.map_drop, ← e1, h4]
  rfl
theorem sl_run (s : ByteArray) (a z : Nat) (h : a + z ≤ s.size) (W : World) : (Instr.slice 9 (.string s) (some (.int .i64 (a : Int))) (some (.int .i64 ((a : Int) + (z : Int)))) none).run Try.prog W = .ok (.string (s.extract a (a + z))) W := by
  have e1 : ((a : Int) + (z : Int)).toNat = a + z := by omega
  have e3 : (a : Int) + (z : Int) ≤ (s.size : Int) := by omega
  have e4 : (0 : Int) ≤ (a : Int) + (z : Int) := by omega
  simp [go_sem, Instr.slice, e1, e3, e4]
/-- the post, and no panic -/
def noP (Q : Exit → Act → World → Prop) : Exit → Act → World → Prop := fun e a w => match e with | .panic _ => False | e => Q e a w
theorem noP_le (Q : Exit → Act → World → Prop) (e : Exit) (a : Act) (w : World) (h : noP Q e a w) : Q e a w := by
  cases e <;> first | exact h | exact h.elim
theorem mf_all (w4 : World) (T sb : Nat) (s : ByteArray) (hT : w4.heap.size = T) (w5 : World) (h : w5 = (((w4.alloc (.cells #[.int .i64 (-1)] 3)).alloc (.cells #[.int .i64 0] 3)).alloc (.cells #[.pointer (some ⟨sb, 0, none⟩)] 25)).alloc (.cells #[.string s] 9)) :
    FsI T w5 (-1, 0) w5 ∧ w5.heap.size = T + 4 ∧ w5.heap[T + 2]? = some (.cells #[.pointer (some ⟨sb, 0, none⟩)] 25 (0, 0)) ∧ w5.heap[T + 3]? = some (.cells #[.string s] 9 (0, 0)) ∧ Below T w4 w5 := by
  obtain ⟨V1, hV1⟩ : ∃ V1, w4.alloc (.cells #[.int .i64 (-1)] 3) = V1 := ⟨_, rfl⟩
  have n1 := heap_alloc_new w4 (.cells #[.int .i64 (-1)] 3)
  rw [hV1] at n1 h
  have z1 : V1.heap.size = T + 1 := by rw [← hV1, ← hT]; simp
  obtain ⟨V2, hV2⟩ : ∃ V2, V1.alloc (.cells #[.int .i64 0] 3) = V2 := ⟨_, rfl⟩
  have n2 := heap_alloc_new V1 (.cells #[.int .i64 0] 3)
  rw [hV2] at n2 h
  have z2 : V2.heap.size = T + 2 := by rw [← hV2]; simp [z1]
  obtain ⟨V3, hV3⟩ : ∃ V3, V2.alloc (.cells #[.pointer (some ⟨sb, 0, none⟩)] 25) = V3 := ⟨_, rfl⟩
  have n3 := heap_alloc_new V2 (.cells #[.pointer (some ⟨sb, 0, none⟩)] 25)
  rw [hV3] at n3 h
  have z3 : V3.heap.size = T + 3 := by rw [← hV3]; simp [z2]
  have n4 := heap_alloc_new V3 (.cells #[.string s] 9)
  rw [← h] at n4
  have z4 : w5.heap.size = T + 4 := by rw [h]; simp [z3]
  rw [hT] at n1
  rw [z1] at n2
  rw [z2] at n3
  rw [z3] at n4
  have k4 : ∀ i, i < T + 3 → w5.heap[i]? = V3.heap[i]? := fun i hi => by rw [h]; exact Below.heap_alloc _ _ _ (by omega)
  have k3 : ∀ i, i < T + 2 → V3.heap[i]? = V2.heap[i]? := fun i hi => by rw [← hV3]; exact Below.heap_alloc _ _ _ (by omega)
  have k2 : ∀ i, i < T + 1 → V2.heap[i]? = V1.heap[i]? := fun i hi => by rw [← hV2]; exact Below.heap_alloc _ _ _ (by omega)
  have hB : Below T w4 w5 := by
    rw [h, ← hV3, ← hV2, ← hV1, ← hT]
    exact ((((Below.refl _ w4).alloc (Nat.le_refl _) _).alloc (by simp) _).alloc (by simp; omega) _).alloc (by simp; omega) _
  exact ⟨⟨fun _ _ _ _ => rfl, ((k4 _ (by omega)).trans ((k3 _ (by omega)).trans (k2 _ (by omega)))).trans n1, ((k4 _ (by omega)).trans (k3 _ (by omega))).trans n2, Below.refl _ _, by omega⟩, z4, (k4 _ (by omega)).trans n3, n4, hB⟩
/-- the lengths of the words, as the law reads them -/
def lnW (W : List (List Nat)) (j : Nat) : Nat := (W.getD j []).length
set_option maxRecDepth 100000 in
set_option maxHeartbeats 4000000 in
theorem manyFirst_any (p : Option Addr) (cap : Nat) (R : List ByteArray) (fold : Bool) (s : ByteArray) (frm : Int) (w : World) (h : StrAt w p R) (hl : R.length ≤ 140737488351232) (hR : ∀ x ∈ R, x.size ≤ 140737488351232) (hs : s.size ≤ 140737488351232) (h1 : -9223372036854775808 ≤ frm) (h2 : frm ≤ 9223372036854775807) :
    Calls Try.prog 5 #[.slice p R.length cap, .bool fold, .string s, .int .i64 frm] w fun e w' => e = .returned (.bool true) ∧ Below w.heap.size w w' := by
  refine (callsIn_wide (n := 6)).1 ?_
  obtain ⟨b, hb⟩ : ∃ b, w.heap.size = b := ⟨_, rfl⟩
  obtain ⟨n, hn⟩ : ∃ n, R.length = n := ⟨_, rfl⟩
  obtain ⟨L, hL⟩ : ∃ L, Mn.fitL fold R = L := ⟨_, rfl⟩
  have HFL := Hid.mk' (Mn.fitL_fit fold R)
  rw [hL] at HFL
  obtain ⟨m, hm⟩ : ∃ m, L.length = m := ⟨_, rfl⟩
  have HFI := Hid.mk' (fun w h => fits_any p cap R fold w h (by omega) (fun x hx => by have := hR x hx; omega))
  rw [hn, hL, hm] at HFI
  have HS := Hid.mk' h
  have HM := Hid.mk' hm
  rw [hn]
  clear h hR hL hn hl hm
  refine callsIn_of_wp_marks Try.func5 rfl trivial ?_ rfl
  simp only [Try.ntmps5, List.size_toArray, List.length_cons, List.length_nil, Nat.reduceAdd, Nat.reduceSub, Array.replicate_succ, Array.replicate_zero, List.push_toArray, List.append_toArray, List.nil_append, List.cons_append]
  have H0 := Hid.mk' (Mf0.start w b hb frm)
  have HWK := Hid.mk' (Wok.of (HFL.out.1.good HFL.out.2))
  have HNW := Hid.mk' (fun p c w h h1 h2 => new_fit p c L fold w h HFL.out.1 HFL.out.2 (by rw [HM.out]; exact h1) h2)
  rw [HM.out] at HNW
  have hs50 : s.size ≤ 1125899906842624 := by omega
  gi_wp2_with (first
    | (refine ⟨trivial, ?_⟩; gi_at_call 7; refine (callsIn_wide.2 (shown_any _)).mono ?_; rintro e w1 ⟨rfl, hb1⟩; have HX1 := Hid.mk' (H0.out.keep hb1); have HS1 := Hid.mk' (HS.out.keep (by rw [hb]; exact HX1.out.bel)); clear hb1 H0)
    | (refine ⟨trivial, ?_⟩; gi_at_call 17; refine (callsIn_wide.2 (HFI.out w1 HS1.out)).mono ?_; rintro e w2 ⟨q, c, rfl, hr2, hb2⟩; obtain ⟨gw, rfl, hc1, hc2, _⟩ := fit_cap hr2 (by rw [← HM.out]; exact HFL.out.2); have HX2 := Hid.mk' (Mf1.of HX1.out hb2 hr2 HM.out.symm (by rw [← HM.out]; exact HFL.out.2)); have HCP := Hid.mk' (And.intro hc1 hc2); obtain ⟨B, hB⟩ : ∃ B, w2.heap.size = B := ⟨_, rfl⟩; rw [hB] at HX2; clear hr2 hb2 HX1 hc1 hc2 HFI HS1)
    | (refine ⟨trivial, ?_⟩; gi_at_call 9; refine (callsIn_wide.2 (HNW.out _ _ _ HX2.out.str HCP.out.1 HCP.out.2)).mono ?_; rintro e w3 ⟨sb, rfl, hm3, hb3⟩; have HX3 := Hid.mk' (HX2.out.keep hb3); have HM3 := Hid.mk' (many_any hm3); have c3 := HX3.out.cf; clear hm3 hb3 HX2 HNW)
    | (refine ⟨trivial, ?_⟩; gi_at_call 18; refine (callsIn_wide.2 (first_fitA sb _ fold s frm w3 HM3.out HWK.out hs50 h1 h2)).mono ?_; rintro e w4 ⟨pv, wv, ok, rfl, hfi, hb4⟩; have HX4 := Hid.mk' (HX3.out.keep hb4); have HM4 := Hid.mk' (manyA_keep HM3.out hb4); have HFI := Hid.mk' hfi; clear hfi hb4 HX3 HM3 c3)
    | (refine ⟨trivial, ?_⟩; gi_at_call 19; refine (callsIn_wide.2 (all_any sb s _)).mono ?_; rintro e w5 ⟨rfl, hw5⟩; obtain ⟨T, hT⟩ : ∃ T, w4.heap.size = T := ⟨_, rfl⟩; have HW5 := Hid.mk' (mf_all w4 T sb s hT w5 hw5); have hnl := nil_all (.func 35) #[] #[.pointer (some ⟨T + 3, 0, none⟩), .pointer (some ⟨T + 2, 0, none⟩)] w5; simp only [World.size_alloc, hT, Nat.add_assoc, Nat.reduceAdd]; clear hw5))
  have HX5 := Hid.mk' (HX4.out.keep (by rw [hT]; exact HW5.out.2.2.2.2))
  obtain ⟨B5, g, cn, g2, cw, h4⟩ := HM4.out
  have hgl : g < T := by rw [← hT]; exact h4.gB.2
  have hg2l : g2 < T := by rw [← hT]; exact (h4.wrd.lt g2 rfl).2
  have hsbl : sb < T := by rw [← hT]; exact h4.lt
  have HM5 := Hid.mk' (h4.keep (w' := w5) (by rw [hT]; exact HW5.out.2.2.2.2))
  have HI0 := Hid.mk' HW5.out.1
  have hz5 := HW5.out.2.1
  have HBS := Hid.mk' (And.intro HW5.out.2.2.1 HW5.out.2.2.2.1)
  have HB5 := Hid.mk' HX5.out
  have hwb : B < T := by rw [← hT]; exact HX4.out.hi
  have hnod := HWK.out.nod
  clear h4 HM4 HX4 HW5 hnl
  refine wpIn_rangeS rfl (by omega) (gf := 35) (lb := #[.pointer (some ⟨T + 3, 0, none⟩), .pointer (some ⟨T + 2, 0, none⟩)]) rfl trivial (enters_of Try.func35 (by kernel_rfl) rfl)
    (all_seqN 5 (by omega) (T + 3) (T + 2) B5 sb g g2 cn cw (Mn.wds fold L) fold s HWK.out hs50 w5 (by simp [World.cell?, HBS.out.2]) (by simp [World.cell?, HBS.out.1]) HM5.out) (fun _ h => h.elim) KpB.t (fun V k o o' hk _ _ i hi => World.putObj_heap_other (by rw [hz5] at hk; rcases hi with rfl | rfl | rfl | rfl | rfl <;> omega)) (Below.refl _ _) (fun _ => rfl)
    (fun pre V => FsI T w5 (Mn.lsF frm (lnW (Mn.wds fold L)) pre) V) (fun _ _ _ => False)
    (fun pre X Y row hX hg hr => hX.ab hg (fun r e => by have := (hr r e).1; omega))
    (fun c pre X Y row hX hg hr => hX)
    HI0.out (fun _ _ _ => rfl) (fun x => [(20, .int .i64 (x.1 : Int)), (21, .int .i64 (x.2 : Int))]) ?assign ?body ?done ?stop
  case assign =>
    intro l pre x V K hK
    simp only [encM] at hK ⊢
    gi_wp2
    refine k_to hK ?_
    simp
  case stop => exact fun D c pre V hD hpre h => h.elim
  case done =>
    rintro D xs V hD rfl hi hdf
    have hfi := HFI.out
    have hi : FsI T w5 (Mn.lsF frm (fun j => ((Mn.wds fold L).getD j []).length) (Mn.allF (Mn.wds fold L) (tx fold s))) V := hi
    rcases hfi with ⟨rfl, rfl, rfl, e⟩ | ⟨a, v, rfl, rfl, rfl, hoc, e⟩
    · rw [e] at hi
      have cL : V.cell? ⟨T, 0, none⟩ = some (.int .i64 (-1)) := by simp [World.cell?, hi.bl]
      have hbr := (hi.kp (b + 1) (by have := HX5.out.lo; omega) (by have := HX5.out.lo; omega) (by have := HX5.out.lo; omega)).trans HX5.out.br
      have cR : V.cell? ⟨b + 1, 0, none⟩ = some (.bool false) := by simp [World.cell?, hbr]
      have fR : V.frozen? ⟨b + 1, 0, none⟩ = false := by simp [World.frozen?, hbr]
      have FIN := Hid.mk' (mf_fin hi HX5.out hwb (by omega) hdf V rfl rfl rfl rfl)
      clear hi
      gi_wp2
      refine ⟨by simp, .inl ⟨_, _, rfl, run_takeDeferred FIN.out.1, ?_⟩⟩
      refine ⟨.bool true, ?_, rfl, by rw [hb]; exact FIN.out.2.2⟩
      simp [results, Try.f5, go_sem, FIN.out.2.1]
    · obtain ⟨x, hx⟩ : ∃ x, L.getD v ByteArray.empty = x := ⟨_, rfl⟩
      obtain ⟨hvL, hln, has, hex⟩ := occ_ext hoc hx
      rw [e, hln] at hi
      have cL : V.cell? ⟨T, 0, none⟩ = some (.int .i64 (a : Int)) := by simp [World.cell?, hi.bl]
      have cZ : V.cell? ⟨T + 1, 0, none⟩ = some (.int .i64 (x.size : Int)) := by simp [World.cell?, hi.bz]
      have hlo := HX5.out.lo
      have hbr := (hi.kp (b + 1) (by omega) (by omega) (by omega)).trans HX5.out.br
      have cR : V.cell? ⟨b + 1, 0, none⟩ = some (.bool false) := by simp [World.cell?, hbr]
      have fR : V.frozen? ⟨b + 1, 0, none⟩ = false := by simp [World.frozen?, hbr]
      have hkB : ∀ i, i < T → V.heap[i]? = w5.heap[i]? := fun i h => hi.kp i (by omega) (by omega) (by omega)
      have cW : V.cell? ⟨B, 0, none⟩ = some (.slice (some ⟨gw, 0, none⟩) m c) := (World.cell?_of_block (a := ⟨B, 0, none⟩) (hkB B hwb)).trans (by simp [World.cell?, HX5.out.bw])
      have cX : V.cell? ⟨gw, v, none⟩ = some (.string x) := (World.cell?_of_block (a := ⟨gw, v, none⟩) (hkB gw (by have := HX5.out.gl; omega))).trans (by
        obtain ⟨g9, o9, h9, h10⟩ := HX5.out.str v hvL
        cases h9
        rw [hx, Nat.zero_add] at h10
        exact h10)
      have hvm : v < m := by rw [← HM.out]; exact hvL
      have hv0 : ¬ (v : Int) < 0 := by omega
      have hvmI : (v : Int) < (m : Int) := by omega
      have hvmN : ¬ (m : Int) ≤ (v : Int) := by omega
      have hasN : ¬ (s.size : Int) < (a : Int) + (x.size : Int) := by omega
      have hasI : (a : Int) + (x.size : Int) ≤ (s.size : Int) := by omega
      have haz : (a : Int) ≤ (a : Int) + (x.size : Int) := by omega
      have hxs := HFL.out.1.siz x (by rw [← hx, List.getD_eq_getElem?_getD, List.getElem?_eq_getElem hvL]; exact List.getElem_mem _)
      have hwr : IntKind.i64.wrap ((a : Int) + (x.size : Int)) = (a : Int) + (x.size : Int) := by rw [IntKind.wrap_i64]; omega
      have FIN := Hid.mk' (fun k => mf_fin hi HX5.out hwb (by omega) hdf (V.drewN k) rfl rfl rfl rfl)
      have HEX := Hid.mk' hex
      clear hi hbr hkB hex hoc e hln hx hdf HFI
      iterate 120 (first | (with_reducible refine stop_reg 23 ?_) | go_values | gi_guarded | gi_step | gi_upon | go_simp | skip)
      apply Hid.mk'
      gi_big_quiet_th (fail)
      cases fold
      · iterate 120 (first | (with_reducible refine stop_reg 27 ?_) | go_values | gi_guarded | gi_step | gi_upon | go_simp | skip)
        apply Hid.mk'
        have hex2 : s.extract a (a + x.size) = x := HEX.out
        have hsl := fun W => sl_run s a x.size has W
        rw [hex2] at hsl
        obtain ⟨V2, hV2⟩ : ∃ V2, V.drewN nq = V2 := ⟨_, rfl⟩
        have d1 : V2.cell? ⟨T + 1, 0, none⟩ = some (.int .i64 (x.size : Int)) := by rw [← hV2]; exact cZ
        have d2 : V2.cell? ⟨B, 0, none⟩ = some (.slice (some ⟨gw, 0, none⟩) m c) := by rw [← hV2]; exact cW
        have d3 : V2.cell? ⟨gw, v, none⟩ = some (.string x) := by rw [← hV2]; exact cX
        have d4 : V2.cell? ⟨b + 1, 0, none⟩ = some (.bool false) := by rw [← hV2]; exact cR
        have d5 : V2.frozen? ⟨b + 1, 0, none⟩ = false := by rw [← hV2]; exact fR
        rw [hV2]
        clear cZ cW cX cR fR cL
        gi_region
        all_goals
          gi_wp2
          subst hV2
          refine ⟨by simp, .inl ⟨_, _, rfl, run_takeDeferred (FIN.out (nq + 1)).1, ?_⟩⟩
          refine ⟨.bool true, ?_, rfl, (FIN.out (nq + 1)).2.2⟩
          have hfc : ((((V.drewN nq).setCell ⟨b + 1, 0, none⟩ (.bool true)).drew).putObj D (.deferred none)).cell? ⟨b + 1, 0, none⟩ = some (.bool true) := (FIN.out (nq + 1)).2.1
          simp [results, Try.f5, go_sem, hfc]
      · iterate 120 (first | (with_reducible refine stop_reg 26 ?_) | go_values | gi_guarded | gi_step | gi_upon | go_simp | skip)
        apply Hid.mk'
        have hsl := fun W => sl_run s a x.size has W
        obtain ⟨y, hy⟩ : ∃ y, s.extract a (a + x.size) = y := ⟨_, rfl⟩
        have hsm : Swar.sameL y x = true := by
          rw [Swar.same_eq, ← hy]
          exact decide_eq_true HEX.out
        have hys : y.size ≤ 1125899906842624 := by
          rw [← hy, ByteArray.size_extract]
          omega
        have HSF := Hid.mk' (fun w => sameFold_any y x w hys (by omega))
        rw [hsm] at HSF
        rw [hy] at hsl
        obtain ⟨V2, hV2⟩ : ∃ V2, V.drewN nq = V2 := ⟨_, rfl⟩
        have d1 : V2.cell? ⟨T + 1, 0, none⟩ = some (.int .i64 (x.size : Int)) := by rw [← hV2]; exact cZ
        have d2 : V2.cell? ⟨B, 0, none⟩ = some (.slice (some ⟨gw, 0, none⟩) m c) := by rw [← hV2]; exact cW
        have d3 : V2.cell? ⟨gw, v, none⟩ = some (.string x) := by rw [← hV2]; exact cX
        have d4 : V2.cell? ⟨b + 1, 0, none⟩ = some (.bool false) := by rw [← hV2]; exact cR
        have d5 : V2.frozen? ⟨b + 1, 0, none⟩ = false := by rw [← hV2]; exact fR
        rw [hV2]
        clear cZ cW cX cR fR cL hsm hys hy
        refine Code.wpIn_mono (noP_le _) ?_
        gi_region_with (first | (refine ⟨trivial, ?_⟩; gi_at_call 20; refine (callsIn_wide.2 (HSF.out _)).mono ?_; rintro e w9 ⟨rfl, n9, rfl⟩) | (gi_at_call 20; refine (callsIn_wide.2 (HSF.out _)).mono ?_; rintro e w9 ⟨rfl, n9, rfl⟩))
        all_goals
          simp only [noP]
          gi_wp2
          subst hV2
          rw [World.drewN_drewN]
          refine ⟨by simp, .inl ⟨_, _, rfl, run_takeDeferred (FIN.out (nq + (1 + n9))).1, ?_⟩⟩
          refine ⟨.bool true, ?_, rfl, by rw [hb]; exact (FIN.out (nq + (1 + n9))).2.2⟩
          have hfc := (FIN.out (nq + (1 + n9))).2.1
          simp [results, Try.f5, go_sem, hfc]
  case body =>
    rintro l pre ⟨q, v⟩ V hl ⟨rr, hrr⟩ hi hpre
    have hmem : (q, v) ∈ Mn.allF (Mn.wds fold L) (tx fold s) := hpre.subset (by simp)
    obtain ⟨hql, hoc⟩ := Mn.all_occ hnod hmem
    have hlt := Mn.all_lt hnod hmem
    rw [Mn.wds_len, HM.out, tx_len] at hlt
    obtain ⟨hvm, hqs⟩ := hlt
    obtain ⟨x, hx⟩ : ∃ x, L.getD v ByteArray.empty = x := ⟨_, rfl⟩
    have hxl : lnW (Mn.wds fold L) v = x.size := by
      unfold lnW
      rw [List.getD_eq_getElem?_getD, Mn.wds_get fold L v (by have := HM.out; omega), Option.getD_some, Sums.bl_length, Mn.fd_size, hx]
    have hql2 : x.size ≤ q := by rw [← hxl]; exact hql
    have hmB := HFL.out.1.len
    rw [HM.out] at hmB
    have hvmI : (v : Int) < (m : Int) := by omega
    have hvmN : ¬ (m : Int) ≤ (v : Int) := by omega
    have hqlN : ¬ (q : Int) < (x.size : Int) := by omega
    have hN := Mn.lsF_snoc frm (lnW (Mn.wds fold L)) pre (q, v)
    obtain ⟨r, hr⟩ : ∃ r, Mn.lsF frm (lnW (Mn.wds fold L)) pre = r := ⟨_, rfl⟩
    rw [hr] at hi hN
    have hkB : ∀ i, i < T → V.heap[i]? = w5.heap[i]? := fun i h => hi.kp i (by omega) (by omega) (by omega)
    have cW : V.cell? ⟨B, 0, none⟩ = some (.slice (some ⟨gw, 0, none⟩) m c) := (World.cell?_of_block (a := ⟨B, 0, none⟩) (hkB B hwb)).trans (by simp [World.cell?, HX5.out.bw])
    have hgwT : gw < T := by have := HX5.out.gl; omega
    have cX : V.cell? ⟨gw, v, none⟩ = some (.string x) := (World.cell?_of_block (a := ⟨gw, v, none⟩) (hkB gw hgwT)).trans (by
      obtain ⟨g9, o9, h9, h10⟩ := HX5.out.str v (by have := HM.out; omega)
      cases h9
      rw [hx, Nat.zero_add] at h10
      exact h10)
    have cF : V.cell? ⟨b, 0, none⟩ = some (.int .i64 frm) := (World.cell?_of_block (a := ⟨b, 0, none⟩) (hkB b (by have := HX5.out.lo; omega))).trans HX5.out.cf
    have cL : V.cell? ⟨T, 0, none⟩ = some (.int .i64 r.1) := by simp [World.cell?, hi.bl]
    have cZ : V.cell? ⟨T + 1, 0, none⟩ = some (.int .i64 (r.2 : Int)) := by simp [World.cell?, hi.bz]
    have fL : V.frozen? ⟨T, 0, none⟩ = false := by simp [World.frozen?, hi.bl]
    have fZ : V.frozen? ⟨T + 1, 0, none⟩ = false := by simp [World.frozen?, hi.bz]
    obtain ⟨at_, hat⟩ : ∃ a : Nat, q = a + x.size := ⟨q - x.size, by omega⟩
    subst hat
    have hatI : ((at_ + x.size : Nat) : Int) - (x.size : Int) = (at_ : Int) := by omega
    have HI := Hid.mk' hi
    have HN := Hid.mk' hN
    have HXL := Hid.mk' hxl
    clear hi hN hxl hmem hoc hql hpre hr hkB hx
    have HNO : Hid (¬ (frm ≤ (at_ : Int) ∧ (r.1 < 0 ∨ (at_ : Int) < r.1 ∨ ((at_ : Int) = r.1 ∧ r.2 < x.size))) → Mn.lsF frm (lnW (Mn.wds fold L)) (pre ++ [(at_ + x.size, v)]) = r) := fun h => by rw [HN.out]; exact lsS_no HXL.out h
    have HYS : Hid ((frm ≤ (at_ : Int) ∧ (r.1 < 0 ∨ (at_ : Int) < r.1 ∨ ((at_ : Int) = r.1 ∧ r.2 < x.size))) → Mn.lsF frm (lnW (Mn.wds fold L)) (pre ++ [(at_ + x.size, v)]) = ((at_ : Int), x.size)) := fun h => by rw [HN.out]; exact lsS_yes HXL.out h
    obtain ⟨r1, r2⟩ := r
    simp only at cL cZ HNO HYS
    clear HN HXL
    apply wp_act
    case e => simp [encM]; rfl
    iterate 120 (first | (with_reducible refine stop_reg 18 ?_) | go_values | gi_guarded | gi_step | gi_upon | go_simp | skip)
    apply Hid.mk'
    by_cases hyes : frm ≤ (at_ : Int) ∧ (r1 < 0 ∨ (at_ : Int) < r1 ∨ ((at_ : Int) = r1 ∧ r2 < x.size))
    · have HE := Hid.mk' (HYS.out hyes)
      obtain ⟨g1, g2⟩ := hyes
      rcases (show r1 < 0 ∨ (¬ r1 < 0 ∧ (at_ : Int) < r1) ∨ (r1 = (at_ : Int) ∧ ¬ (at_ : Int) < 0 ∧ ¬ (at_ : Int) < (at_ : Int) ∧ (r2 : Int) < (x.size : Int)) by omega) with a1 | ⟨a1, a2⟩ | ⟨rfl, a1, a2, a3⟩
      all_goals
        refine wpIn_region_quiet_rnd (F := Fence.wide) l rfl (by kernel_rfl) (by kernel_rfl) (by kernel_rfl) ?_
        repeat (gi_big_quiet_step (fail))
        refine wpQuietIn_nil ?_
        intro _ hwq0
        obtain ⟨nq, hwq1⟩ := hwq0
        subst hwq1
        have cW2 : ((V.drewN nq).setCell ⟨T, 0, none⟩ (.int .i64 (at_ : Int))).cell? ⟨B, 0, none⟩ = some (.slice (some ⟨gw, 0, none⟩) m c) := (World.cell?_of_block (a := ⟨B, 0, none⟩) (set_heap (V.drewN nq) T B 0 _ (by omega))).trans cW
        have cX2 : ((V.drewN nq).setCell ⟨T, 0, none⟩ (.int .i64 (at_ : Int))).cell? ⟨gw, v, none⟩ = some (.string x) := (World.cell?_of_block (a := ⟨gw, v, none⟩) (set_heap (V.drewN nq) T gw 0 _ (by omega))).trans cX
        have fL2 : (V.drewN nq).frozen? ⟨T, 0, none⟩ = false := fL
        have cL2 : (V.drewN nq).cell? ⟨T, 0, none⟩ = _ := cL
        have cZ2 : ((V.drewN nq).setCell ⟨T, 0, none⟩ (.int .i64 (at_ : Int))).cell? ⟨T + 1, 0, none⟩ = some (.int .i64 (r2 : Int)) := (World.cell?_of_block (a := ⟨T + 1, 0, none⟩) (set_heap (V.drewN nq) T (T + 1) 0 _ (by omega))).trans cZ
        have fZ2 : ((V.drewN nq).setCell ⟨T, 0, none⟩ (.int .i64 (at_ : Int))).frozen? ⟨T + 1, 0, none⟩ = false := (World.frozen?_of_block (a := ⟨T + 1, 0, none⟩) (set_heap (V.drewN nq) T (T + 1) 0 _ (by omega))).trans fZ
        have HP := Hid.mk' ((HI.out.drewN nq).put at_ x.size)
        gi_wp2
        refine ⟨⟨by simp [World.setCell], fun k o hk ho _ => ((set_heap _ (T + 1) k 0 _ (by omega)).trans (set_heap _ T k 0 _ (by omega))).trans ho⟩, fun i hi => (set_heap _ (T + 1) i 0 _ (by rcases hi with rfl | rfl | rfl | rfl | rfl <;> omega)).trans (set_heap _ T i 0 _ (by rcases hi with rfl | rfl | rfl | rfl | rfl <;> omega)), ?_⟩
        show FsI T w5 (Mn.lsF frm (lnW (Mn.wds fold L)) (pre ++ [(at_ + x.size, v)])) _
        rw [HE.out]
        exact HP.out
    · have HE := Hid.mk' (HNO.out hyes)
      rcases (show ¬ frm ≤ (at_ : Int) ∨ (frm ≤ (at_ : Int) ∧ r1 = (at_ : Int) ∧ ¬ (at_ : Int) < 0 ∧ ¬ (at_ : Int) < (at_ : Int) ∧ ¬ (r2 : Int) < (x.size : Int)) ∨ (frm ≤ (at_ : Int) ∧ ¬ r1 < 0 ∧ ¬ (at_ : Int) < r1 ∧ ¬ (at_ : Int) = r1) by omega) with a1 | ⟨g1, rfl, a1, a2, a3⟩ | ⟨g1, a1, a2, a3⟩
      all_goals
        clear hyes
        try have a3B := beq_eq_false_iff_ne.2 a3
        refine wpIn_region_quiet_rnd (F := Fence.wide) l rfl (by kernel_rfl) (by kernel_rfl) (by kernel_rfl) ?_
        repeat (gi_big_quiet_step (fail))
        refine wpQuietIn_nil ?_
        intro _ hwq0
        obtain ⟨nq, hwq1⟩ := hwq0
        subst hwq1
        gi_wp2
        refine ⟨⟨Nat.le_refl _, fun _ _ _ h _ => h⟩, fun _ _ => rfl, ?_⟩
        show FsI T w5 (Mn.lsF frm (lnW (Mn.wds fold L)) (pre ++ [(at_ + x.size, v)])) _
        rw [HE.out]
        exact HI.out.drewN nq
end Go.Proofs.Ytlejfeapnnioeaa
