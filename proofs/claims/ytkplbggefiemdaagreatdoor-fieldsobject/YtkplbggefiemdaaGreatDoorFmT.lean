/-
  fields.All and Get. Conditions: as each says.
-/
import Derived.Test.YtkplbggefiemdaaGreatDoorFmQ
import Derived.Test.YtkplbggefiemdaaGreatDoorRngS
namespace Go.Proofs.YtkplbggefiemdaaGreatDoor
open Go.RowKit Go.Shelf
set_option linter.unusedVariables false
set_option linter.unusedSimpArgs false
attribute [local go_sem] Oper.semAt_some
def prV (l : List (List Nat × List Nat)) : List Value := l.flatMap fun x => [.string (nums x.1), .string (nums x.2)]
theorem f_to {K : Act → World → Prop} {a a' : Act} {V : World} (h : K a V) (e : a = a') : K a' V := e ▸ h
theorem f_act {F : Fence} {n : Nat} {P : Program} {c : Code} {Q : Exit → Act → World → Prop} {a a' : Act} {V : World} (e : a = a') (h : Code.wpIn F n P c Q a' V) : Code.wpIn F n P c Q a V := e ▸ h
theorem f_reg (id : Nat) {F : Fence} {n : Nat} {P : Program} {ops : Array Oper} {any : Bool} {Q : Exit → Act → World → Prop} {a : Act} {w : World} (h : Hid ((Code.region id ops any).wpIn F n P Q a w)) : (Code.region id ops any).wpIn F n P Q a w := h.out
theorem f_cell {V : World} {a : Nat} {x : Value} {t : TypeId} {z : Nat × Nat} (h : V.heap[a]? = some (.cells #[x] t z)) : V.cell? ⟨a, 0, none⟩ = some x := by simp [World.cell?, h]
theorem f_frozen {V : World} {a : Nat} {x : Value} {t : TypeId} (h : V.heap[a]? = some (.cells #[x] t (0, 0))) : V.frozen? ⟨a, 0, none⟩ = false := by simp [World.frozen?, h]
theorem f_set {V : World} {a : Nat} {x y : Value} {t : TypeId} (h : V.heap[a]? = some (.cells #[x] t (0, 0))) : (V.setCell ⟨a, 0, none⟩ y).heap[a]? = some (.cells #[y] t (0, 0)) := by
  simp [World.setCell, Array.getElem?_modify] at h ⊢
  simp [h]
theorem f_other (V : World) (a k : Nat) (y : Value) (h : k ≠ a) : (V.setCell ⟨a, 0, none⟩ y).heap[k]? = V.heap[k]? := Below.heap_setCell _ _ _ _ h
theorem own_cells {w : World} {B e n sz : Nat} {v : Value} {xs : List Value} (h : w.ownsRow B e sz v n xs) {k : Nat} (hk : v.ownBlock = some k) : ∃ cur, w.heap[k]? = some (.cells cur e (0, 0)) := by
  rcases h.2 with ⟨rfl, _⟩ | ⟨g, cap, cur, rfl, _, h3, _⟩
  · cases hk
  · simp only [Value.ownBlock, Option.some.injEq] at hk
    subst hk
    exact ⟨cur, h3⟩
/-- the list, as far as it has come -/
structure LsF (b N : Nat) (w : World) (pre : List (List Nat × List Nat)) (V : World) : Prop where
  row : ∃ p c, V.heap[b]? = some (.cells #[.slice p pre.length c] 23 (0, 0)) ∧ V.ownsRow N 29 2 (.slice p pre.length c) pre.length (prV pre)
  bel : Below b w V
  siz : N ≤ V.heap.size
theorem LsF.ab {b N : Nat} {w : World} {pre : List (List Nat × List Nat)} {X Y : World} {row : Option Nat} (h : LsF b N w pre X) (hbN : b < N) (hg : X.grownBy Y row) (hr : ∀ r, row = some r → N ≤ r ∧ ∃ o : Obj, X.heap[r]? = some o ∧ (o.isCells = false ∨ noP o)) : LsF b N w pre Y := by
  have hs := h.siz
  have k : ∀ i, i < N → Y.heap[i]? = X.heap[i]? := fun i hi => hg.block i (by omega) (fun e => by have := (hr i e.symm).1; omega)
  obtain ⟨p, c, h1, h2⟩ := h.row
  refine ⟨⟨p, c, (k b hbN).trans h1, own_keptO h2 fun i hi => ?_⟩, h.bel.trans ⟨hg.os, hg.tape, hg.output, hg.size, fun i hi => k i (by omega)⟩, Nat.le_trans hs hg.size⟩
  obtain ⟨cur, hcur⟩ := own_cells h2 hi
  refine hg.block i (Array.getElem?_eq_some_iff.1 hcur).1 fun e => ?_
  obtain ⟨_, ob, h3, h4⟩ := hr i e.symm
  rw [hcur] at h3
  cases h3
  rcases h4 with h4 | h4
  · cases h4
  · exact h4
def PvA (A U : ByteArray) (vr : Value) (j : Nat) (v : Value) : Prop := if j = 0 then v = vr else if j = 1 then v = .string A else if j = 2 then v = .string A else if j = 3 then v = .string U else if j = 4 then v = .string U else v = .agg #[.string A, .string U]
/-- what is known within the region that appends a field -/
structure AI (V : World) (b N m : Nat) (A U : ByteArray) (vr : Value) (xs : List Value) (L : Nat → Bool) (f : Nat → Value) (Z : World) : Prop where
  e : ∀ j, j < 6 → L j = true → PvA A U vr j (f j)
  dd : (L 2 = true → L 1 = true) ∧ (L 4 = true → L 3 = true) ∧ (L 5 = true → L 2 = true ∧ L 4 = true) ∧ (L 6 = true → L 5 = true)
  p7 : L 7 = true → ∀ k, k < 7 → L k = true
  p8 : L 8 = true → L 7 = true
  a : L 7 = false → Below V.heap.size V Z ∧ (L 6 = true → ∃ b6, f 6 = .slice (some ⟨b6, 0, none⟩) 1 1 ∧ b6 < Z.heap.size ∧ Z.heap[b6]? = some (.cells #[.string A, .string U] 29 (0, 0)))
  c : L 7 = true → ∃ p' c' X, f 7 = .slice p' (m + 1) c' ∧ X.ownsRow N 29 2 (.slice p' (m + 1) c') (m + 1) (xs ++ [.string A, .string U]) ∧ V.heap.size ≤ X.heap.size ∧ (∀ k, k < V.heap.size → vr.ownBlock ≠ some k → X.heap[k]? = V.heap[k]?) ∧ (X.os = V.os ∧ X.tape = V.tape ∧ X.output = V.output) ∧ Z = (if L 8 = true then X.setCell ⟨b, 0, none⟩ (f 7) else X)
theorem AI.pure {V : World} {b N m : Nat} {A U : ByteArray} {vr : Value} {xs : List Value} {L : Nat → Bool} {f : Nat → Value} {Z Y : World} (h : AI V b N m A U vr xs L f Z) (j : Nat) (hj : j < 6) (h7 : L 7 = false) (v : Value) (hv : PvA A U vr j v) (hb : Below Z.heap.size Z Y) (hd : (j = 2 → L 1 = true) ∧ (j = 4 → L 3 = true) ∧ (j = 5 → L 2 = true ∧ L 4 = true)) : ∀ L2 : Nat → Bool, (∀ k, L2 k = if k = j then true else L k) → AI V b N m A U vr xs L2 (upd f j v) Y := by
  intro L2 hL2
  have hn : ∀ k, k ≠ j → L2 k = L k := fun k hk => by rw [hL2, if_neg hk]
  have h27 : L2 7 = false := (hn 7 (by omega)).trans h7
  have up : ∀ k, L k = true → L2 k = true := fun k hk => by rw [hL2]; split <;> first | rfl | exact hk
  have hdd : (L2 2 = true → L2 1 = true) ∧ (L2 4 = true → L2 3 = true) ∧ (L2 5 = true → L2 2 = true ∧ L2 4 = true) ∧ (L2 6 = true → L2 5 = true) := by
    refine ⟨fun x => ?_, fun x => ?_, fun x => ?_, fun x => up _ (h.dd.2.2.2 ((hn 6 (by omega)).symm.trans x))⟩
    · by_cases q : 2 = j
      · exact up _ (hd.1 q.symm)
      · exact up _ (h.dd.1 ((hn 2 q).symm.trans x))
    · by_cases q : 4 = j
      · exact up _ (hd.2.1 q.symm)
      · exact up _ (h.dd.2.1 ((hn 4 q).symm.trans x))
    · by_cases q : 5 = j
      · exact ⟨up _ (hd.2.2 q.symm).1, up _ (hd.2.2 q.symm).2⟩
      · have := h.dd.2.2.1 ((hn 5 q).symm.trans x)
        exact ⟨up _ this.1, up _ this.2⟩
  refine ⟨fun k hk hl => ?_, hdd, fun x => (by rw [h27] at x; cases x), fun x => ?_, fun _ => ⟨(h.a h7).1.trans ⟨hb.os, hb.tape, hb.output, hb.size, fun i hi => hb.block i (by have := (h.a h7).1.size; omega)⟩, fun x => ?_⟩, fun x => (by rw [h27] at x; cases x)⟩
  · unfold upd
    by_cases e : k = j
    · subst e
      simp only [if_true]
      exact hv
    · simp only [e, if_false]
      exact h.e k hk ((hn k e).symm.trans hl)
  · have := h.p8 ((hn 8 (by omega)).symm.trans x)
    rw [h7] at this
    cases this
  · obtain ⟨b6, q1, q2, q3⟩ := (h.a h7).2 ((hn 6 (by omega)).symm.trans x)
    refine ⟨b6, ?_, Nat.lt_of_lt_of_le q2 hb.size, (hb.block b6 q2).trans q3⟩
    unfold upd
    rw [if_neg (by omega)]
    exact q1
theorem AI.s6 {V : World} {b N m : Nat} {A U : ByteArray} {vr : Value} {xs : List Value} {L : Nat → Bool} {f : Nat → Value} {Z : World} (h : AI V b N m A U vr xs L f Z) (h7 : L 7 = false) (h5 : L 5 = true) : ∀ L2 : Nat → Bool, (∀ k, L2 k = if k = 6 then true else L k) → AI V b N m A U vr xs L2 (upd f 6 (.slice (some ⟨Z.heap.size, 0, none⟩) 1 1)) (Z.alloc (.cells #[.string A, .string U] 29)) := by
  intro L2 hL2
  have hn : ∀ k, k ≠ 6 → L2 k = L k := fun k hk => by rw [hL2, if_neg hk]
  have h27 : L2 7 = false := (hn 7 (by omega)).trans h7
  have up : ∀ k, L k = true → L2 k = true := fun k hk => by rw [hL2]; split <;> first | rfl | exact hk
  have hdd : (L2 2 = true → L2 1 = true) ∧ (L2 4 = true → L2 3 = true) ∧ (L2 5 = true → L2 2 = true ∧ L2 4 = true) ∧ (L2 6 = true → L2 5 = true) := ⟨fun x => up _ (h.dd.1 ((hn 2 (by decide)).symm.trans x)), fun x => up _ (h.dd.2.1 ((hn 4 (by decide)).symm.trans x)), fun x => ⟨up _ (h.dd.2.2.1 ((hn 5 (by decide)).symm.trans x)).1, up _ (h.dd.2.2.1 ((hn 5 (by decide)).symm.trans x)).2⟩, fun x => up _ h5⟩
  refine ⟨fun k hk hl => ?_, hdd, fun x => (by rw [h27] at x; cases x), fun x => ?_, fun _ => ⟨(h.a h7).1.alloc (h.a h7).1.size _, fun x => ⟨Z.heap.size, ?_, by simp, heap_alloc_new Z _⟩⟩, fun x => (by rw [h27] at x; cases x)⟩
  · unfold upd
    rw [if_neg (by omega)]
    exact h.e k hk ((hn k (by omega)).symm.trans hl)
  · have := h.p8 ((hn 8 (by omega)).symm.trans x)
    rw [h7] at this
    cases this
  · unfold upd
    rw [if_pos rfl]
theorem AI.s7 {V : World} {b N m : Nat} {A U : ByteArray} {vr : Value} {xs : List Value} {L : Nat → Bool} {f : Nat → Value} {Z X : World} {p' : Option Addr} {c' : Nat} (h : AI V b N m A U vr xs L f Z) (h7 : L 7 = false) (hall : ∀ k, k < 7 → L k = true) (hown : X.ownsRow N 29 2 (.slice p' (m + 1) c') (m + 1) (xs ++ [.string A, .string U])) (hg : Z.grownBy X vr.ownBlock) : ∀ L2 : Nat → Bool, (∀ k, L2 k = if k = 7 then true else L k) → AI V b N m A U vr xs L2 (upd f 7 (.slice p' (m + 1) c')) X := by
  intro L2 hL2
  have hn : ∀ k, k ≠ 7 → L2 k = L k := fun k hk => by rw [hL2, if_neg hk]
  have h27 : L2 7 = true := by rw [hL2, if_pos rfl]
  have h8 : L 8 = false := by
    cases h8 : L 8
    · rfl
    · have := h.p8 h8
      rw [h7] at this
      cases this
  have hb := (h.a h7).1
  have hbs := hb.size
  have up : ∀ k, L k = true → L2 k = true := fun k hk => by rw [hL2]; split <;> first | rfl | exact hk
  have hdd : (L2 2 = true → L2 1 = true) ∧ (L2 4 = true → L2 3 = true) ∧ (L2 5 = true → L2 2 = true ∧ L2 4 = true) ∧ (L2 6 = true → L2 5 = true) := ⟨fun x => up _ (h.dd.1 ((hn 2 (by decide)).symm.trans x)), fun x => up _ (h.dd.2.1 ((hn 4 (by decide)).symm.trans x)), fun x => ⟨up _ (h.dd.2.2.1 ((hn 5 (by decide)).symm.trans x)).1, up _ (h.dd.2.2.1 ((hn 5 (by decide)).symm.trans x)).2⟩, fun x => up _ (h.dd.2.2.2 ((hn 6 (by decide)).symm.trans x))⟩
  refine ⟨fun k hk hl => ?_, hdd, fun _ k hk => (hn k (by omega)).trans (hall k hk), fun _ => h27, fun x => (by rw [h27] at x; cases x), fun _ => ⟨p', c', X, ?_, hown, Nat.le_trans hb.size hg.size, fun k hk hne => (hg.block k (by omega) (fun e => hne e.symm)).trans (hb.block k hk), ⟨hg.os.trans hb.os, hg.tape.trans hb.tape, hg.output.trans hb.output⟩, ?_⟩⟩
  · unfold upd
    rw [if_neg (by omega)]
    exact h.e k hk ((hn k (by omega)).symm.trans hl)
  · unfold upd
    rw [if_pos rfl]
  · rw [hn 8 (by omega), h8, if_neg (by decide)]
theorem AI.s8 {V : World} {b N m : Nat} {A U : ByteArray} {vr : Value} {xs : List Value} {L : Nat → Bool} {f : Nat → Value} {Z : World} {u : Value} (h : AI V b N m A U vr xs L f Z) (h7 : L 7 = true) (h8 : L 8 = false) : ∀ L2 : Nat → Bool, (∀ k, L2 k = if k = 8 then true else L k) → AI V b N m A U vr xs L2 (upd f 8 u) (Z.setCell ⟨b, 0, none⟩ (f 7)) := by
  intro L2 hL2
  have hn : ∀ k, k ≠ 8 → L2 k = L k := fun k hk => by rw [hL2, if_neg hk]
  have h28 : L2 8 = true := by rw [hL2, if_pos rfl]
  have h27 : L2 7 = true := (hn 7 (by omega)).trans h7
  obtain ⟨p', c', X, q1, q2, q3, q4, q5, q6⟩ := h.c h7
  rw [h8, if_neg (by decide)] at q6
  have e7 : upd f 8 u 7 = f 7 := by unfold upd; rw [if_neg (by decide)]
  have up : ∀ k, L k = true → L2 k = true := fun k hk => by rw [hL2]; split <;> first | rfl | exact hk
  have hdd : (L2 2 = true → L2 1 = true) ∧ (L2 4 = true → L2 3 = true) ∧ (L2 5 = true → L2 2 = true ∧ L2 4 = true) ∧ (L2 6 = true → L2 5 = true) := ⟨fun x => up _ (h.dd.1 ((hn 2 (by decide)).symm.trans x)), fun x => up _ (h.dd.2.1 ((hn 4 (by decide)).symm.trans x)), fun x => ⟨up _ (h.dd.2.2.1 ((hn 5 (by decide)).symm.trans x)).1, up _ (h.dd.2.2.1 ((hn 5 (by decide)).symm.trans x)).2⟩, fun x => up _ (h.dd.2.2.2 ((hn 6 (by decide)).symm.trans x))⟩
  refine ⟨fun k hk hl => ?_, hdd, fun _ k hk => (hn k (by omega)).trans (h.p7 h7 k hk), fun _ => h27, fun x => (by rw [h27] at x; cases x), fun _ => ⟨p', c', X, e7.trans q1, q2, q3, q4, q5, ?_⟩⟩
  · unfold upd
    rw [if_neg (by omega)]
    exact h.e k hk ((hn k (by omega)).symm.trans hl)
  · rw [h28, if_pos rfl, e7, q6]
theorem infoP2 : (Tryz.prog.info? 29).map (fun i => (i.zero, i.size, i.bytes)) = some (some (.agg #[.string ⟨#[]⟩, .string ⟨#[]⟩]), 2, 32) := by kernel_rfl
theorem build_two (a b : ByteArray) (w : World) : (Instr.buildSlice 23 1 #[(0, .agg #[.string a, .string b])]).run Tryz.prog w = .ok (.slice (some ⟨w.heap.size, 0, none⟩) 1 1) (w.alloc (.cells #[.string a, .string b] 29)) := by
  obtain ⟨i0, hi, hz0, hz1, _⟩ := info_parts infoP2
  refine run_buildSlice w 23 29 1 _ #[.string a, .string b] i0 (.agg #[.string ⟨#[]⟩, .string ⟨#[]⟩]) Tryz.underlying23 hi hz0 (by rw [hz1]; decide) (by rw [hz1]; decide) ?_
  rw [hz1]
  kernel_rfl
theorem append_two (w : World) (B : Nat) (v : Value) (n : Nat) (xs : List Value) (a b : ByteArray) (h : w.ownsRow B 29 2 v n xs) (b5 : Nat) (h5 : w.heap[b5]? = some (.cells #[.string a, .string b] 29 (0, 0))) (hn : n ≤ 1099511627776) (hB : B ≤ w.heap.size) (ty : TypeId) :
    ∃ v' w', (Builtin.append_ #[23, 23] ty #[v, .slice (some ⟨b5, 0, none⟩) 1 1]).run Tryz.prog w = .ok v' w' ∧ w'.ownsRow B 29 2 v' (n + 1) (xs ++ [.string a, .string b]) ∧ w.grownBy w' v.ownBlock := by
  obtain ⟨i0, hi, hz0, hz1, hz2⟩ := info_parts infoP2
  obtain ⟨v', w', a1, a2, a3, a4, a5⟩ := run_append_own_at (P := Tryz.prog) (w := w) B 23 ty 29 i0 (.agg #[.string ⟨#[]⟩, .string ⟨#[]⟩]) 2 32 Tryz.underlying23 hi hz0 hz1 hz2 rfl (by decide) v n xs h ⟨b5, 0, none⟩ 1 1 [.string a, .string b] rfl (fun j u hj => by
      have hj2 : (#[.string a, .string b] : Array Value)[j]? = some u := by
        have : (#[.string a, .string b] : Array Value).toList[j]? = some u := hj
        simpa using this
      have ha : (⟨b5, 0, none⟩ : Addr).add j = ⟨b5, j, none⟩ := by
        by_cases h0 : j = 0
        · subst h0; rfl
        · simp [Addr.add, h0]
      rw [ha]
      simp only [World.cell?, h5]
      simpa using hj2) (by simp [Value.oneCell']) (by unfold maxLen; omega) (by omega) hB
  exact ⟨v', w', a1, a2, a3⟩
theorem own_base {w : World} {B C e n sz : Nat} {v : Value} {xs : List Value} (h : w.ownsRow B e sz v n xs) (hC : C ≤ B) : w.ownsRow C e sz v n xs := ⟨h.1, h.2.imp id fun ⟨g, cap, cur, e1, e2, r⟩ => ⟨g, cap, cur, e1, Nat.le_trans hC e2, r⟩⟩
set_option maxRecDepth 100000 in
set_option maxHeartbeats 8000000 in
theorem all_fl (S : ByteArray) (L : List (List Nat × List Nat)) (w : World) (h : LineP S L) (hL : L.length ≤ 1099511627776) (hx : ∀ x ∈ L, x.1.length ≤ 281474976710656 ∧ x.2.length ≤ 281474976710656) (hw : RwT w) (hp : Pow w) (hut : UtT w) :
    Calls Tryz.prog 7 #[.string S] w fun e w' => ∃ v, e = .returned v ∧ w'.ownsRow (w.heap.size + 1) 29 2 v L.length (prV L) ∧ Below w.heap.size w w' := by
  refine (callsIn_wide (n := 6)).1 ?_
  obtain ⟨b, hb⟩ : ∃ b, w.heap.size = b := ⟨_, rfl⟩
  have HX0 := Hid.mk' (heap_alloc_new w (.cells #[.slice none 0 0] 23))
  have HB0 : Hid (Below b w (w.alloc (.cells #[.slice none 0 0] 23))) := Hid.mk' (by rw [← hb]; exact (Below.refl _ w).alloc (Nat.le_refl _) _)
  have HZ0 : Hid ((w.alloc (.cells #[.slice none 0 0] 23)).heap.size = b + 1) := Hid.mk' (by rw [World.size_alloc, hb])
  have HP := Hid.mk' (pairs_any S L (w.alloc (.cells #[.slice none 0 0] 23)) h (hw.below HB0.out (by rw [← hb]; exact hw.lt)) (hp.below HB0.out (by rw [← hb]; exact hp.size)) (hut.below HB0.out (by rw [← hb]; exact Nat.le_refl _)))
  have HL := Hid.mk' hL
  have HXX := Hid.mk' hx
  have HWB := Hid.mk' hb
  have H3 : Hid (5 < b) := Hid.mk' (by rw [← hb]; exact hp.size)
  rw [hb] at HX0 ⊢
  clear h hL hw hp hx hut
  refine callsIn_of_wp_marks Tryz.func7 rfl trivial ?_ rfl
  simp only [Tryz.ntmps7, List.size_toArray, List.length_cons, List.length_nil, Nat.reduceAdd, Nat.reduceSub, Array.replicate_succ, Array.replicate_zero, List.push_toArray, List.append_toArray, List.nil_append, List.cons_append]
  gi_wp2
  generalize w.alloc (.cells #[.slice none 0 0] 23) = w1 at HX0 HB0 HZ0 HP ⊢
  refine ⟨trivial, (callsIn_wide.2 HP.out).mono ?_⟩
  rintro e W2 ⟨gf, lb, D, rfl, hb2, hD1, hD2, hent, hseq⟩
  obtain ⟨N, hN⟩ : ∃ N, W2.heap.size = N := ⟨_, rfl⟩
  have hbN : b < N := by have := hb2.size; have := HZ0.out; omega
  have HI0 : Hid (LsF b N w [] W2) := Hid.mk' ⟨⟨none, 0, (hb2.block b (by have := HZ0.out; omega)).trans HX0.out, World.ownsRow_nil W2 N 29 2⟩, HB0.out.trans ⟨hb2.os, hb2.tape, hb2.output, hb2.size, fun j hj => hb2.block j (by have := HZ0.out; omega)⟩, by omega⟩
  have HD : Hid (∀ j, D j → j ≠ b ∧ j < N) := Hid.mk' (fun j hj => ⟨by have h1 := hD1 j hj; have := HZ0.out; have := H3.out; rw [HZ0.out] at h1; omega, by have := hD2 j hj; omega⟩)
  have HE := Hid.mk' hent
  have HQ := Hid.mk' hseq
  clear hb2 hD1 hD2 hent hseq HP HX0
  gi_wp2
  refine wpIn_rangeS rfl (by omega) (gf := gf) (lb := lb) rfl trivial HE.out (HQ.out 5) (fun _ h => h.elim) KpD.t
    (fun V k o o' hk ho hc => ⟨fun i cs t fz _ hi => (World.putObj_heap_other (fun e => by subst e; rw [ho] at hi; cases hi; cases hc)).trans hi, fun i hi => World.putObj_heap_other (by have := HD.out i hi; omega), (grownBy_putObj' V k o').size⟩) (Below.refl _ _) (fun _ => rfl)
    (LsF b N w) (fun _ _ _ => False)
    (fun pre X Y row hX hg hr => hX.ab hbN hg (fun r e => by have h := hr r e; rw [hN] at h; exact h))
    (fun c pre X Y row hX hg hr => hX)
    HI0.out (fun W => ⟨KpT.refl W, fun _ _ => rfl, Nat.le_refl _⟩) (fun x => [(4, .string (nums x.1)), (5, .string (nums x.2))]) ?assign ?body ?done ?stop
  case assign =>
    intro l pre x V K hK
    simp only [encP] at hK ⊢
    gi_wp2
    refine f_to hK ?_
    simp
  case stop => exact fun D c pre V hD hpre h => h.elim
  case done =>
    rintro E xs V hE rfl hi hdf
    obtain ⟨p, c, h1, h2⟩ := hi.row
    have c0 := f_cell h1
    obtain ⟨m, hm⟩ : ∃ m, xs.length = m := ⟨_, rfl⟩
    rw [hm] at h1 h2 c0
    have HM := Hid.mk' hm
    have HF := Hid.mk' (And.intro h2 (And.intro hi.bel hi.siz))
    clear h1 h2 hi hm
    gi_wp2
    refine ⟨by simp, .inl ⟨_, _, rfl, run_takeDeferred hdf, ?_⟩⟩
    have hDl : E < V.heap.size := (Array.getElem?_eq_some_iff.1 hdf).1
    refine ⟨.slice p m c, ?_, _, rfl, ?_, HF.out.2.1.trans ((Below.refl b V).grown (grownBy_putObj' V E (.deferred none)) (by have := HF.out.2.2; omega) (fun k e => by cases e; omega))⟩
    · simp [results, Tryz.f7, go_sem]
    · rw [HM.out]
      refine own_base (own_keptO HF.out.1 (fun k hk => World.putObj_heap_other (fun e => by
        subst e
        obtain ⟨cur, hcur⟩ := own_cells HF.out.1 hk
        rw [hdf] at hcur
        cases hcur))) (by omega)
  case body =>
    rintro l pre x V hl ⟨rr, hrr⟩ hi hpre
    have hxm := HXX.out x (hpre.subset (by simp))
    have hml : pre.length < 1099511627776 := by
      have h1 := hpre.length_le
      have h2 := HL.out
      simp only [List.length_append, List.length_cons, List.length_nil] at h1
      omega
    obtain ⟨p, c, h1, h2⟩ := hi.row
    obtain ⟨m, hm⟩ : ∃ m, pre.length = m := ⟨_, rfl⟩
    rw [hm] at h1 h2 hml
    have hAz : (nums x.1).size ≤ 281474976710656 := by rw [nums_size]; exact hxm.1
    have hUz : (nums x.2).size ≤ 281474976710656 := by rw [nums_size]; exact hxm.2
    have HPX : Hid (prV (pre ++ [x]) = prV pre ++ [.string (nums x.1), .string (nums x.2)]) := Hid.mk' (by unfold prV; rw [List.flatMap_append]; rfl)
    have HI := Hid.mk' (And.intro hi (And.intro h1 (And.intro h2 hm)))
    have HBV : Hid (b < V.heap.size ∧ ∀ k, (Value.slice p m c).ownBlock = some k → N ≤ k ∧ k < V.heap.size) := Hid.mk' ⟨(Array.getElem?_eq_some_iff.1 h1).1, fun k hk => own_row_lt h2 k hk⟩
    have HCB : Hid (∀ Z, Below V.heap.size V Z → Z.cell? ⟨b, 0, none⟩ = some (.slice p m c)) := Hid.mk' (fun Z hZ => f_cell ((hZ.block b HBV.out.1).trans h1))
    have HOZ : Hid (∀ Z, Below V.heap.size V Z → Z.ownsRow N 29 2 (.slice p m c) m (prV pre)) := Hid.mk' (fun Z hZ => own_keptO h2 fun k hk => hZ.block k (HBV.out.2 k hk).2)
    have HSZ := Hid.mk' hi.siz
    clear hi h1 h2 hm hpre hrr hxm
    apply f_act
    case e => simp [encP]; rfl
    generalize nums x.1 = A at hAz HPX ⊢
    generalize nums x.2 = U at hUz HPX ⊢
    have HCA := Hid.mk' (fun X => clone_any A X hAz)
    have HCU := Hid.mk' (fun X => clone_any U X hUz)
    iterate 40 (first | (with_reducible refine f_reg 5 ?_) | go_values | gi_guarded | gi_step | gi_upon | go_simp | skip)
    apply Hid.mk'
    refine region_rel (by kernel_rfl) (fun zz => { tmps := #[.string S, undef, .slice none 0 0, .pointer (some ⟨b, 0, none⟩), .string A, .string U, .string S, .func (.func gf) #[] lb, .string A, .string U, zz 0, zz 1, zz 2, zz 3, zz 4, zz 5, zz 6, zz 7, undef], defers := [] }) (fun _ => undef) _ (fun L' zz Z => AI V b N m A U (.slice p m c) (prV pre) L' zz Z) (fun L' hL => ⟨fun j _ x => (by rw [hL] at x; cases x), ⟨fun x => (by rw [hL] at x; cases x), fun x => (by rw [hL] at x; cases x), fun x => (by rw [hL] at x; cases x), fun x => (by rw [hL] at x; cases x)⟩, fun x => (by rw [hL] at x; cases x), fun x => (by rw [hL] at x; cases x), fun _ => ⟨⟨rfl, rfl, rfl, Nat.le_refl _, fun _ _ => rfl⟩, fun x => (by rw [hL] at x; cases x)⟩, fun x => (by rw [hL] at x; cases x)⟩) (deps_of' (by kernel_rfl)) ?_ ?_
    · intro L' zz Z hI i0 hi0 hL op ho hdone KK hKK
      have hlt : i0 < 9 := hi0
      have h7f : ∀ k, k < 7 → L' k = false → L' 7 = false := fun k hk hl => by
        cases h7 : L' 7
        · rfl
        · rw [hI.p7 h7 k hk] at hl
          cases hl
      rcases (show i0 = 0 ∨ i0 = 1 ∨ i0 = 2 ∨ i0 = 3 ∨ i0 = 4 ∨ i0 = 5 ∨ i0 = 6 ∨ i0 = 7 ∨ i0 = 8 by omega) with rfl | rfl | rfl | rfl | rfl | rfl | rfl | rfl | rfl
      · have h7 := h7f 0 (by decide) hL
        simp at ho; subst ho
        have c0 := HCB.out Z (hI.a h7).1
        have hKX := hKK _ Z (hI.pure 0 (by decide) h7 (.slice p m c) rfl (Below.refl _ _) ⟨fun q => (by omega), fun q => (by omega), fun q => (by omega)⟩)
        simp [wpOpIn, Region.wanted, yielded, Oper.wpIn, Oper.semAt_eq, execOp, Oper.uponIn, go_sem, c0]
        first | exact hKX | (simp [upd] at hKX; exact hKX) | (simp [upd] at hKX ⊢; exact hKX)
      · have h7 := h7f 1 (by decide) hL
        simp at ho; subst ho
        have hKX := hKK _ Z (hI.pure 1 (by decide) h7 (.string A) rfl (Below.refl _ _) ⟨fun q => (by omega), fun q => (by omega), fun q => (by omega)⟩)
        simp [wpOpIn, Region.wanted, yielded, Oper.wpIn, Oper.semAt_eq, execOp, Oper.uponIn, go_sem]
        first | exact hKX | (simp [upd] at hKX; exact hKX) | (simp [upd] at hKX ⊢; exact hKX)
      · have h7 := h7f 2 (by decide) hL
        simp at ho; subst ho; simp [Region.binds] at hdone
        have h1t : L' 1 = true := by simp [hdone]
        have e1 : zz 1 = .string A := hI.e 1 (by decide) h1t
        simp [wpOpIn, Oper.wpIn, Oper.uponIn, go_sem, e1]
        refine ⟨trivial, ?_⟩
        refine CallsIn.mono ((callsIn_wide.2 (HCA.out Z)).inRound l) ?_
        rintro e Y ⟨rfl, hb⟩
        have hKX := hKK _ Y (hI.pure 2 (by decide) h7 (.string A) rfl hb ⟨fun _ => h1t, fun q => (by omega), fun q => (by omega)⟩)
        first | exact hKX | (simp [upd, e1] at hKX; exact hKX) | (simp [upd, e1] at hKX ⊢; exact hKX)
      · have h7 := h7f 3 (by decide) hL
        simp at ho; subst ho
        have hKX := hKK _ Z (hI.pure 3 (by decide) h7 (.string U) rfl (Below.refl _ _) ⟨fun q => (by omega), fun q => (by omega), fun q => (by omega)⟩)
        simp [wpOpIn, Region.wanted, yielded, Oper.wpIn, Oper.semAt_eq, execOp, Oper.uponIn, go_sem]
        first | exact hKX | (simp [upd] at hKX; exact hKX) | (simp [upd] at hKX ⊢; exact hKX)
      · have h7 := h7f 4 (by decide) hL
        simp at ho; subst ho; simp [Region.binds] at hdone
        have h3t : L' 3 = true := by simp [hdone]
        have e3 : zz 3 = .string U := hI.e 3 (by decide) h3t
        simp [wpOpIn, Oper.wpIn, Oper.uponIn, go_sem, e3]
        refine ⟨trivial, ?_⟩
        refine CallsIn.mono ((callsIn_wide.2 (HCU.out Z)).inRound l) ?_
        rintro e Y ⟨rfl, hb⟩
        have hKX := hKK _ Y (hI.pure 4 (by decide) h7 (.string U) rfl hb ⟨fun q => (by omega), fun _ => h3t, fun q => (by omega)⟩)
        first | exact hKX | (simp [upd, e3] at hKX; exact hKX) | (simp [upd, e3] at hKX ⊢; exact hKX)
      · have h7 := h7f 5 (by decide) hL
        simp at ho; subst ho; simp [Region.binds] at hdone
        have h2t : L' 2 = true := by simp [hdone]
        have h4t : L' 4 = true := by simp [hdone]
        have e2 : zz 2 = .string A := hI.e 2 (by decide) h2t
        have e4 : zz 4 = .string U := hI.e 4 (by decide) h4t
        have hKX := hKK _ Z (hI.pure 5 (by decide) h7 (.agg #[.string A, .string U]) rfl (Below.refl _ _) ⟨fun q => (by omega), fun q => (by omega), fun _ => ⟨h2t, h4t⟩⟩)
        simp [wpOpIn, Region.wanted, yielded, Oper.wpIn, Oper.semAt_eq, execOp, Oper.uponIn, go_sem, e2, e4]
        first | exact hKX | (simp [upd, e2, e4] at hKX; exact hKX) | (simp [upd, e2, e4] at hKX ⊢; exact hKX)
      · have h7 := h7f 6 (by decide) hL
        simp at ho; subst ho; simp [Region.binds] at hdone
        have h5t : L' 5 = true := by simp [hdone]
        have e5 : zz 5 = .agg #[.string A, .string U] := hI.e 5 (by decide) h5t
        have hbz := build_two A U Z
        have hKX := hKK _ _ (hI.s6 h7 h5t)
        simp [wpOpIn, Region.wanted, yielded, Oper.wpIn, Oper.semAt_eq, execOp, Oper.uponIn, go_sem, e5, hbz]
        first | exact hKX | (simp [upd, e5] at hKX; exact hKX) | (simp [upd, e5] at hKX ⊢; exact hKX)
      · simp at ho; subst ho; simp [Region.binds] at hdone
        have h0t : L' 0 = true := by simp [hdone]
        have h6t : L' 6 = true := by simp [hdone]
        have e0 : zz 0 = .slice p m c := hI.e 0 (by decide) h0t
        have h5t := hI.dd.2.2.2 h6t
        obtain ⟨h2t, h4t⟩ := hI.dd.2.2.1 h5t
        have h1t := hI.dd.1 h2t
        have h3t := hI.dd.2.1 h4t
        have hall : ∀ k, k < 7 → L' k = true := fun k hk => by
          rcases (show k = 0 ∨ k = 1 ∨ k = 2 ∨ k = 3 ∨ k = 4 ∨ k = 5 ∨ k = 6 by omega) with rfl | rfl | rfl | rfl | rfl | rfl | rfl <;> assumption
        obtain ⟨hbz, h6⟩ := hI.a hL
        obtain ⟨b6, e6, h6l, h6c⟩ := h6 h6t
        obtain ⟨v', X, a1, a2, a3⟩ := append_two Z N (.slice p m c) m (prV pre) A U (HOZ.out Z hbz) b6 h6c (by omega) (Nat.le_trans HSZ.out hbz.size) 23
        obtain ⟨p', c', rfl⟩ := own_shape4 a2
        have hKX := hKK _ X (hI.s7 hL hall a2 a3)
        simp [wpOpIn, Region.wanted, yielded, Oper.wpIn, Oper.semAt_eq, execOp, Oper.uponIn, resolve, invoke, builtin, Act.eval, Act.put, e0, e6, a1]
        refine ⟨fun _ _ => trivial, ?_⟩
        first | exact hKX | (simp [upd, e0, e6] at hKX; exact hKX) | (simp [upd, e0, e6] at hKX ⊢; exact hKX)
      · simp at ho; subst ho; simp [Region.binds] at hdone
        have h7t : L' 7 = true := by simp [hdone]
        obtain ⟨p', c', X, e7, a2, a3, a4, a5, hZ⟩ := hI.c h7t
        rw [hL, if_neg (by decide)] at hZ
        have hbx : Z.heap[b]? = some (.cells #[.slice p m c] 23 (0, 0)) := by rw [hZ]; exact (a4 b HBV.out.1 (fun e => by have := (HBV.out.2 b e).1; omega)).trans HI.out.2.1
        have u0 := f_cell hbx
        have u1 := f_frozen hbx
        have hKX := hKK undef _ (hI.s8 h7t hL)
        rw [e7] at hKX
        simp [wpOpIn, Region.wanted, yielded, Oper.wpIn, Oper.semAt_eq, execOp, Oper.uponIn, go_sem, e7, u0, u1]
        first | exact hKX | (simp [upd, e7] at hKX; exact hKX) | (simp [upd, e7] at hKX ⊢; exact hKX)
    · intro L' zz Z hall hI
      obtain ⟨p', c', X, e7, a2, a3, a4, a5, hZ⟩ := hI.c (hall 7 (by decide))
      rw [hall 8 (by decide), if_pos rfl, e7] at hZ
      have hown := a2
      have hXb : X.heap[b]? = some (.cells #[.slice p m c] 23 (0, 0)) := (a4 b HBV.out.1 (fun e => by have := (HBV.out.2 b e).1; omega)).trans HI.out.2.1
      have hbl : ∀ k, k < N → k ≠ b → Z.heap[k]? = V.heap[k]? := fun k hk hne => by
        rw [hZ, f_other _ _ _ _ hne]
        exact a4 k (Nat.lt_of_lt_of_le hk HSZ.out) (fun e => by have := (HBV.out.2 k e).1; omega)
      have hZs : Z.heap.size = X.heap.size := by rw [hZ]; simp [World.setCell]
      have HN : Hid (LsF b N w (pre ++ [x]) Z) := Hid.mk' (by
        obtain ⟨h0, h1, h2, hm⟩ := HI.out
        refine ⟨⟨p', c', ?_, ?_⟩, h0.bel.trans ⟨?_, ?_, ?_, by rw [hZs]; exact a3, fun i hi => hbl i (by omega) (by omega)⟩, Nat.le_trans HSZ.out (by rw [hZs]; exact a3)⟩
        · rw [List.length_append, hm, hZ]
          exact f_set hXb
        · rw [List.length_append, hm, HPX.out]
          refine own_keptO a2 fun k hk => ?_
          rw [hZ]
          exact f_other _ _ _ _ (by have := (own_row_lt a2 k hk).1; omega)
        · rw [hZ]; exact a5.1
        · rw [hZ]; exact a5.2.1
        · rw [hZ]; exact a5.2.2)
      have HKD : Hid (KpD D V Z) := Hid.mk' ⟨fun k cs t fz ht hk => ?_, fun k hk => hbl k (HD.out k hk).2 (HD.out k hk).1, by rw [hZs]; exact a3⟩
      have HKW : Hid (KeptW W2.heap.size noP V Z) := Hid.mk' ⟨by rw [hZs]; exact a3, fun k o2 hk ho hc => ?_⟩
      · clear hI hall hZ e7 a2 a3 a4 a5 hown hXb hbl hZs
        gi_wp2
        exact ⟨HKW.out, HKD.out, HN.out⟩
      · have hkl := (Array.getElem?_eq_some_iff.1 ho).1
        rw [hZ, f_other _ _ _ _ (by omega), a4 k hkl (fun e => by
          obtain ⟨cur, hcur⟩ := own_cells HI.out.2.2.1 e
          rw [hcur] at ho
          cases ho
          rcases hc with hc | hc
          · cases hc
          · exact hc)]
        exact ho
      · have hkl := (Array.getElem?_eq_some_iff.1 hk).1
        have hkb : k ≠ b := fun e => by
          subst e
          rw [HI.out.2.1] at hk
          cases hk
          rcases ht with ht | ht | ht <;> revert ht <;> decide
        rw [hZ, f_other _ _ _ _ hkb, a4 k hkl (fun e => by
          obtain ⟨cur, hcur⟩ := own_cells HI.out.2.2.1 e
          rw [hcur] at hk
          cases hk
          rcases ht with ht | ht | ht <;> revert ht <;> decide)]
        exact hk
end Go.Proofs.YtkplbggefiemdaaGreatDoor

namespace Go.Proofs.YtkplbggefiemdaaGreatDoor
open Go.RowKit Go.Shelf
set_option linter.unusedVariables false
set_option linter.unusedSimpArgs false
attribute [local go_sem] Oper.semAt_some
/-- the first value of a name -/
def gtF : List (List Nat × List Nat) → List Nat → List Nat × Bool
  | [], _ => ([], false)
  | x :: r, k => if x.1 = k then (x.2, true) else gtF r k
theorem gt_none (k : List Nat) : ∀ l : List (List Nat × List Nat), (∀ x ∈ l, x.1 ≠ k) → gtF l k = ([], false)
  | [], _ => rfl
  | x :: r, h => by
    rw [gtF, if_neg (h x (by simp))]
    exact gt_none k r fun y hy => h y (List.mem_cons_of_mem _ hy)
theorem gt_some (k : List Nat) (x : List Nat × List Nat) (hx : x.1 = k) (r : List (List Nat × List Nat)) : ∀ l : List (List Nat × List Nat), (∀ y ∈ l, y.1 ≠ k) → gtF (l ++ x :: r) k = (x.2, true)
  | [], _ => by rw [List.nil_append, gtF, if_pos hx]
  | y :: l, h => by
    rw [List.cons_append, gtF, if_neg (h y (by simp))]
    exact gt_some k x hx r l fun z hz => h z (List.mem_cons_of_mem _ hz)
/-- as long as none has been found -/
structure GtI (b N : Nat) (K : ByteArray) (w : World) (pre : List (List Nat × List Nat)) (V : World) : Prop where
  k : V.heap[b]? = some (.cells #[.string K] 9 (0, 0))
  r : V.heap[b + 1]? = some (.cells #[.string ⟨#[]⟩] 9 (0, 0))
  t : V.heap[b + 1 + 1]? = some (.cells #[.bool false] 4 (0, 0))
  bel : Below b w V
  siz : N ≤ V.heap.size
  no : ∀ x ∈ pre, x.1 ≠ Sums.bl K
/-- behind the one that was looked for -/
structure GtX (b N : Nat) (K : ByteArray) (w : World) (pre : List (List Nat × List Nat)) (V : World) : Prop where
  ex : ∃ pre0 x, pre = pre0 ++ [x] ∧ x.1 = Sums.bl K ∧ (∀ y ∈ pre0, y.1 ≠ Sums.bl K) ∧ V.heap[b + 1]? = some (.cells #[.string (nums x.2)] 9 (0, 0))
  t : V.heap[b + 1 + 1]? = some (.cells #[.bool true] 4 (0, 0))
  bel : Below b w V
  siz : N ≤ V.heap.size
theorem GtI.ab {b N : Nat} {K : ByteArray} {w : World} {pre : List (List Nat × List Nat)} {X Y : World} {row : Option Nat} (h : GtI b N K w pre X) (hbN : b + 1 + 1 < N) (hg : X.grownBy Y row) (hr : ∀ r, row = some r → N ≤ r ∧ ∃ o : Obj, X.heap[r]? = some o ∧ (o.isCells = false ∨ noP o)) : GtI b N K w pre Y := by
  have hs := h.siz
  have k : ∀ i, i < N → Y.heap[i]? = X.heap[i]? := fun i hi => hg.block i (by omega) (fun e => by have := (hr i e.symm).1; omega)
  exact ⟨(k _ (by omega)).trans h.k, (k _ (by omega)).trans h.r, (k _ (by omega)).trans h.t, h.bel.trans ⟨hg.os, hg.tape, hg.output, hg.size, fun i hi => k i (by omega)⟩, Nat.le_trans hs hg.size, h.no⟩
theorem GtX.ab {b N : Nat} {K : ByteArray} {w : World} {pre : List (List Nat × List Nat)} {X Y : World} {row : Option Nat} (h : GtX b N K w pre X) (hbN : b + 1 + 1 < N) (hg : X.grownBy Y row) (hr : ∀ r, row = some r → N ≤ r ∧ ∃ o : Obj, X.heap[r]? = some o ∧ (o.isCells = false ∨ noP o)) : GtX b N K w pre Y := by
  have hs := h.siz
  have k : ∀ i, i < N → Y.heap[i]? = X.heap[i]? := fun i hi => hg.block i (by omega) (fun e => by have := (hr i e.symm).1; omega)
  obtain ⟨pre0, x, e1, e2, e3, e4⟩ := h.ex
  exact ⟨⟨pre0, x, e1, e2, e3, (k _ (by omega)).trans e4⟩, (k _ (by omega)).trans h.t, h.bel.trans ⟨hg.os, hg.tape, hg.output, hg.size, fun i hi => k i (by omega)⟩, Nat.le_trans hs hg.size⟩
theorem box3 (w : World) (o1 o2 o3 : Obj) (b : Nat) (hb : w.heap.size = b) : (((w.alloc o1).alloc o2).alloc o3).heap[b]? = some o1 ∧ (((w.alloc o1).alloc o2).alloc o3).heap[b + 1]? = some o2 ∧ (((w.alloc o1).alloc o2).alloc o3).heap[b + 1 + 1]? = some o3 ∧ (((w.alloc o1).alloc o2).alloc o3).heap.size = b + 3 ∧ Below b w (((w.alloc o1).alloc o2).alloc o3) := by
  subst hb
  obtain ⟨x1, x2, x3, x4, x5⟩ := al3 w o1 o2 o3
  exact ⟨x1, x2, x3, x4, x5⟩
set_option maxRecDepth 100000 in
set_option maxHeartbeats 8000000 in
theorem get_fl (S K : ByteArray) (L : List (List Nat × List Nat)) (w : World) (h : LineP S L) (hx : ∀ x ∈ L, x.2.length ≤ 281474976710656) (hxb : ∀ x ∈ L, ∀ z ∈ x.1, z < 256) (hw : RwT w) (hp : Pow w) (hut : UtT w) :
    Calls Tryz.prog 10 #[.string S, .string K] w fun e w' => e = .returned (.tuple #[.string (nums (gtF L (Sums.bl K)).1), .bool (gtF L (Sums.bl K)).2]) ∧ Below w.heap.size w w' := by
  refine (callsIn_wide (n := 6)).1 ?_
  obtain ⟨b, hb⟩ : ∃ b, w.heap.size = b := ⟨_, rfl⟩
  obtain ⟨x1, x2, x3, x4, x5⟩ := box3 w (.cells #[.string K] 9) (.cells #[.string ⟨#[]⟩] 9) (.cells #[.bool false] 4) b hb
  have HX0 := Hid.mk' (And.intro x1 (And.intro x2 (And.intro x3 (And.intro x4 x5))))
  have HP := Hid.mk' (pairs_any S L (((w.alloc (.cells #[.string K] 9)).alloc (.cells #[.string ⟨#[]⟩] 9)).alloc (.cells #[.bool false] 4)) h (hw.below x5 (by rw [← hb]; exact hw.lt)) (hp.below x5 (by rw [← hb]; exact hp.size)) (hut.below x5 (by rw [← hb]; exact Nat.le_refl _)))
  have HXX := Hid.mk' hx
  have HXB := Hid.mk' hxb
  have H3 : Hid (5 < b) := Hid.mk' (by rw [← hb]; exact hp.size)
  rw [hb]
  clear h hw hp hx hxb x1 x2 x3 x4 x5 hut
  refine callsIn_of_wp_marks Tryz.func10 rfl trivial ?_ rfl
  simp only [Tryz.ntmps10, List.size_toArray, List.length_cons, List.length_nil, Nat.reduceAdd, Nat.reduceSub, Array.replicate_succ, Array.replicate_zero, List.push_toArray, List.append_toArray, List.nil_append, List.cons_append]
  gi_wp2
  generalize ((w.alloc (.cells #[.string K] 9)).alloc (.cells #[.string ⟨#[]⟩] 9)).alloc (.cells #[.bool false] 4) = w1 at HX0 HP ⊢
  refine ⟨trivial, (callsIn_wide.2 HP.out).mono ?_⟩
  rintro e W2 ⟨gf, lb, D, rfl, hb2, hD1, hD2, hent, hseq⟩
  obtain ⟨N, hN⟩ : ∃ N, W2.heap.size = N := ⟨_, rfl⟩
  obtain ⟨x1, x2, x3, x4, x5⟩ := HX0.out
  have hbN : b + 1 + 1 < N := by have := hb2.size; omega
  have HI0 : Hid (GtI b N K w [] W2) := Hid.mk' ⟨(hb2.block b (by omega)).trans x1, (hb2.block (b + 1) (by omega)).trans x2, (hb2.block (b + 1 + 1) (by omega)).trans x3, x5.trans ⟨hb2.os, hb2.tape, hb2.output, hb2.size, fun j hj => hb2.block j (by omega)⟩, by omega, fun x hx => by cases hx⟩
  have HD : Hid (∀ j, D j → (j ≠ b ∧ j ≠ b + 1 ∧ j ≠ b + 1 + 1) ∧ j < N) := Hid.mk' (fun j hj => ⟨by have h1 := hD1 j hj; have := H3.out; omega, by have := hD2 j hj; omega⟩)
  have HE := Hid.mk' hent
  have HQ := Hid.mk' hseq
  clear hb2 hD1 hD2 hent hseq HP HX0 x1 x2 x3 x4 x5
  gi_wp2
  refine wpIn_rangeS rfl (by omega) (gf := gf) (lb := lb) rfl trivial HE.out (HQ.out 5) (fun _ h => h.elim) KpD.t
    (fun V k o o' hk ho hc => ⟨fun i cs t fz _ hi => (World.putObj_heap_other (fun e => by subst e; rw [ho] at hi; cases hi; cases hc)).trans hi, fun i hi => World.putObj_heap_other (by have := HD.out i hi; omega), (grownBy_putObj' V k o').size⟩) (Below.refl _ _) (fun _ => rfl)
    (GtI b N K w) (fun c pre V => c = .ret ∧ GtX b N K w pre V)
    (fun pre X Y row hX hg hr => hX.ab hbN hg (fun r e => by have h := hr r e; rw [hN] at h; exact h))
    (fun c pre X Y row hX hg hr => ⟨hX.1, hX.2.ab hbN hg (fun r e => by have h := hr r e; rw [hN] at h; exact h)⟩)
    HI0.out (fun W => ⟨KpT.refl W, fun _ _ => rfl, Nat.le_refl _⟩) (fun x => [(6, .string (nums x.1)), (7, .string (nums x.2))]) ?assign ?body ?done ?stop
  case assign =>
    intro l pre x V K hK
    simp only [encP] at hK ⊢
    gi_wp2
    refine f_to hK ?_
    simp
  case stop =>
    rintro E c pre V hE hpre ⟨rfl, hi⟩ hdf
    obtain ⟨pre0, x, rfl, e2, e3, e4⟩ := hi.ex
    obtain ⟨tl, htl⟩ := hpre
    have hg : gtF L (Sums.bl K) = (x.2, true) := by
      rw [← htl, List.append_assoc]
      exact gt_some _ x e2 tl pre0 e3
    have e5 := hi.t
    have HF := Hid.mk' (And.intro hg (And.intro hi.bel hi.siz))
    clear hi hg e2 e3 htl
    gi_wp2
    refine ⟨by simp, .inl ⟨_, _, rfl, run_takeDeferred hdf, ?_⟩⟩
    have k1 : (V.putObj E (.deferred none)).heap[b + 1]? = some (.cells #[.string (nums x.2)] 9 (0, 0)) := (World.putObj_heap_other (by omega)).trans e4
    have k2 : (V.putObj E (.deferred none)).heap[b + 1 + 1]? = some (.cells #[.bool true] 4 (0, 0)) := (World.putObj_heap_other (by omega)).trans e5
    refine ⟨.tuple #[.string (nums x.2), .bool true], ?_, by rw [HF.out.1], HF.out.2.1.trans ((Below.refl b V).grown (grownBy_putObj' V E (.deferred none)) (by have := HF.out.2.2; omega) (fun k e => by cases e; omega))⟩
    simp [results, Tryz.f10, go_sem, World.cell?, k1, k2]
  case done =>
    rintro E xs V hE rfl hi hdf
    have hg : gtF xs (Sums.bl K) = ([], false) := gt_none _ xs hi.no
    have r1 := hi.r
    have r2 := hi.t
    have c1 := f_cell r1
    have c2 := f_cell r2
    have f1 := f_frozen r1
    have f2 := f_frozen r2
    have HF := Hid.mk' (And.intro hg (And.intro hi.bel (And.intro hi.siz (And.intro r1 r2))))
    have hne : ¬ b + 1 = b + 1 + 1 := by omega
    clear hi hg r1 r2
    gi_wp2
    have q1 := HF.out.2.2.2.1
    have q2 := HF.out.2.2.2.2
    have hEb : E ≠ b + 1 ∧ E ≠ b + 1 + 1 := ⟨fun e => (by rw [e, q1] at hdf; cases hdf), fun e => (by rw [e, q2] at hdf; cases hdf)⟩
    obtain ⟨Y, hY⟩ : ∃ Y, (V.setCell ⟨b + 1, 0, none⟩ (.string ⟨#[]⟩)).setCell ⟨b + 1 + 1, 0, none⟩ (.bool false) = Y := ⟨_, rfl⟩
    have y0 : ∀ k, k ≠ b + 1 → k ≠ b + 1 + 1 → Y.heap[k]? = V.heap[k]? := fun k h1 h2 => by rw [← hY, f_other _ _ _ _ h2, f_other _ _ _ _ h1]
    have y1 : Y.heap[b + 1]? = some (.cells #[.string ⟨#[]⟩] 9 (0, 0)) := by rw [← hY, f_other _ _ _ _ (by omega)]; exact f_set q1
    have y2 : Y.heap[b + 1 + 1]? = some (.cells #[.bool false] 4 (0, 0)) := by rw [← hY]; exact f_set ((f_other _ _ _ _ (by omega)).trans q2)
    have yb : Below b w Y := by
      have h1 := HF.out.2.1
      refine ⟨?_, ?_, ?_, ?_, fun k hk => (y0 k (by omega) (by omega)).trans (h1.block k hk)⟩
      · rw [← hY]; exact h1.os
      · rw [← hY]; exact h1.tape
      · rw [← hY]; exact h1.output
      · rw [← hY]; simp [World.setCell]; exact h1.size
    have ys : N ≤ Y.heap.size := by rw [← hY]; simp [World.setCell]; exact HF.out.2.2.1
    have hdY : Y.heap[E]? = some (.deferred (some [])) := (y0 E hEb.1 hEb.2).trans hdf
    rw [hY]
    clear hY
    refine ⟨by simp, .inl ⟨_, _, rfl, run_takeDeferred hdY, ?_⟩⟩
    have k1 : (Y.putObj E (.deferred none)).heap[b + 1]? = some (.cells #[.string ⟨#[]⟩] 9 (0, 0)) := (World.putObj_heap_other (by omega)).trans y1
    have k2 : (Y.putObj E (.deferred none)).heap[b + 1 + 1]? = some (.cells #[.bool false] 4 (0, 0)) := (World.putObj_heap_other (by omega)).trans y2
    refine ⟨.tuple #[.string ⟨#[]⟩, .bool false], ?_, by rw [HF.out.1]; rfl, yb.trans ((Below.refl b Y).grown (grownBy_putObj' Y E (.deferred none)) (by omega) (fun k e => by cases e; omega))⟩
    simp [results, Tryz.f10, go_sem, World.cell?, k1, k2]
  case body =>
    rintro l pre x V hl ⟨rr, hrr⟩ hi hpre
    have hxm := HXX.out x (hpre.subset (by simp))
    have hxb := HXB.out x (hpre.subset (by simp))
    have hUz : (nums x.2).size ≤ 281474976710656 := by rw [nums_size]; exact hxm
    have c0 := f_cell hi.k
    have HI := Hid.mk' hi
    have HCU := Hid.mk' (fun X => clone_any (nums x.2) X hUz)
    by_cases hk : x.1 = Sums.bl K
    · have hAK : nums x.1 = K := by rw [hk, nums_bl]
      have HK := Hid.mk' hk
      clear hi hpre hrr hxm hxb
      apply f_act
      case e => simp [encP]; rfl
      rw [hAK]
      generalize hU : nums x.2 = U at HCU hUz ⊢
      have HU := Hid.mk' hU
      clear hk hAK hU
      gi_wp2
      refine ⟨trivial, CallsIn.mono ((callsIn_wide.2 (HCU.out V)).inRound l) ?_⟩
      rintro e Y ⟨rfl, hb⟩
      have hsz := HI.out.siz
      have r1 := (hb.block (b + 1) (by omega)).trans HI.out.r
      have r2 := (hb.block (b + 1 + 1) (by omega)).trans HI.out.t
      have c1 := f_cell r1
      have c2 := f_cell r2
      have f1 := f_frozen r1
      have f2 := f_frozen r2
      have hne : ¬ b + 1 = b + 1 + 1 := by omega
      have HB := Hid.mk' (And.intro hb (And.intro r1 r2))
      clear hb r1 r2
      gi_wp2
      obtain ⟨hb, q1, q2⟩ := HB.out
      obtain ⟨Z, hZ⟩ : ∃ Z, (Y.setCell ⟨b + 1, 0, none⟩ (.string U)).setCell ⟨b + 1 + 1, 0, none⟩ (.bool true) = Z := ⟨_, rfl⟩
      have y0 : ∀ k, k ≠ b + 1 → k ≠ b + 1 + 1 → Z.heap[k]? = Y.heap[k]? := fun k h1 h2 => by rw [← hZ, f_other _ _ _ _ h2, f_other _ _ _ _ h1]
      have y1 : Z.heap[b + 1]? = some (.cells #[.string U] 9 (0, 0)) := by rw [← hZ, f_other _ _ _ _ (by omega)]; exact f_set q1
      have y2 : Z.heap[b + 1 + 1]? = some (.cells #[.bool true] 4 (0, 0)) := by rw [← hZ]; exact f_set ((f_other _ _ _ _ (by omega)).trans q2)
      have ys : V.heap.size ≤ Z.heap.size := by rw [← hZ]; simp [World.setCell]; exact hb.size
      have yo : Z.os = Y.os ∧ Z.tape = Y.tape ∧ Z.output = Y.output := by rw [← hZ]; exact ⟨rfl, rfl, rfl⟩
      rw [hZ]
      refine ⟨⟨ys, fun k o hk ho _ => (y0 k (by omega) (by omega)).trans ((hb.block k (Array.getElem?_eq_some_iff.1 ho).1).trans ho)⟩, rfl, ⟨pre, x, rfl, HK.out, HI.out.no, by rw [HU.out]; exact y1⟩, y2, ?_, by omega⟩
      have h1 := HI.out.bel
      exact ⟨yo.1.trans (hb.os.trans h1.os), yo.2.1.trans (hb.tape.trans h1.tape), yo.2.2.trans (hb.output.trans h1.output), by have := h1.size; omega, fun k hk => (y0 k (by omega) (by omega)).trans ((hb.block k (by omega)).trans (h1.block k hk))⟩
    · have hAK : ¬ (nums x.1).toList = K.toList := fun e => hk (by
        have h2 : nums x.1 = K := ByteArray.ext (by rw [ByteArray.toList_eq, ByteArray.toList_eq] at e; exact Array.toList_inj.1 e)
        rw [← h2, bl_nums _ hxb])
      have hAK2 : ((nums x.1).toList == K.toList) = false := beq_eq_false_iff_ne.2 hAK
      have HN : Hid (GtI b N K w (pre ++ [x]) V) := Hid.mk' ⟨hi.k, hi.r, hi.t, hi.bel, hi.siz, fun y hy => by
        rcases List.mem_append.1 hy with h | h
        · exact hi.no y h
        · simp at h
          subst h
          exact hk⟩
      clear hi hpre hrr hxm hxb hk
      apply f_act
      case e => simp [encP]; rfl
      generalize nums x.1 = A at hAK hAK2 ⊢
      gi_wp2
      exact ⟨KeptW.refl _ _ _, ⟨KpT.refl _, fun _ _ => rfl, Nat.le_refl _⟩, HN.out⟩
end Go.Proofs.YtkplbggefiemdaaGreatDoor
