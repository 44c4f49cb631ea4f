/-
  Parts of the proof, one behind the other: each says what it proves. Conditions: as each says.
-/
import Derived.Test.YtlbfnchjbpioeaaFzB
import Derived.Laws.AppendOwnNone
import Derived.Stop.RegionWithIn
import Derived.Laws.StructEq
import Derived.Test.YtlbfnchjbpioeaaFzA
import Derived.Test.YtlbfnchjbpioeaaMnU
namespace Go.Proofs.Ytlbfnchjbpioeaa
open Go.RowKit Go.Shelf
set_option linter.unusedVariables false
/-- rows of numbers, in a row of theirs that may grow -/
structure RowsV (B : Nat) (v : Value) (n : Nat) (xs : Nat → Value) (F : Nat → List Nat) (V : World) : Prop where
  row : V.ownsRow B 53 1 v n (rowV xs n)
  each : ∀ i, i < n → V.ownsRow B 3 1 (xs i) (F i).length (intL (F i))
  apart : ∀ i j, i < n → j < n → i ≠ j → Away (xs i) (xs j)
section
variable {B n : Nat} {v : Value} {xs : Nat → Value} {F : Nat → List Nat} {V V' : World}
theorem RowsV.keep (h : RowsV B v n xs F V) (hb : Below V.heap.size V V') : RowsV B v n xs F V' :=
  ⟨mr_kept h.row fun k hk => hb.block k (h.row.lt k hk).2, fun i hi => mr_kept (h.each i hi) fun k hk => hb.block k ((h.each i hi).lt k hk).2, h.apart⟩
theorem RowsV.set (h : RowsV B v n xs F V) {k : Nat} (hk : k < B) (j : Nat) (u : Value) : RowsV B v n xs F (V.setCell ⟨k, j, none⟩ u) :=
  ⟨mr_set h.row (fun e => by have := (h.row.lt k e).1; omega) _ _, fun i hi => mr_set (h.each i hi) (fun e => by have := ((h.each i hi).lt k e).1; omega) _ _, h.apart⟩
theorem RowsV.nil (B : Nat) (V : World) (xs : Nat → Value) (F : Nat → List Nat) : RowsV B (.slice none 0 0) 0 xs F V := ⟨World.ownsRow_nil _ _ _ _, fun i hi => by omega, fun i j hi => by omega⟩
theorem rowV_snoc (xs : Nat → Value) (n : Nat) (u : Value) : rowV (fun j => if j = n then u else xs j) (n + 1) = rowV xs n ++ [u] := by
  rw [rowV_add]
  congr 1
  · exact rowV_congr fun j hj => if_neg (by omega)
  · simp [rowV]
/-- another row of rows grows: this one stays, and stays apart from it -/
theorem RowsV.beside {v2 v2' : Value} {n2 : Nat} {ys : List Value} {o : Obj} (h : RowsV B v n xs F V) (h2 : V.ownsRow B 53 1 v2 n2 ys) (ha : Away v2 v) (hg : (V.alloc o).grownBy V' v2.ownBlock) (hat : v2'.ownBlock = v2.ownBlock ∨ v2'.ownBlock = some (V.heap.size + 1)) : RowsV B v n xs F V' ∧ Away v2' v := by
  refine ⟨⟨mr_kept h.row fun k hk => ?_, fun i hi => mr_apart (h.each i hi) h2 (by decide) hg, h.apart⟩, fun k h3 h4 => ?_⟩
  · have hlt := (h.row.lt k hk).2
    rw [hg.block k (by simp; omega) (fun e => ha k e.symm hk)]
    exact Below.heap_alloc _ _ _ hlt
  · rcases hat with h5 | h5
    · exact ha k (by rw [← h5]; exact h3) h4
    · rw [h5] at h3
      simp only [Option.some.injEq] at h3
      have := (h.row.lt k h4).2
      omega
/-- a row more -/
theorem RowsV.next {u v' : Value} {f : List Nat} (h : RowsV B v n xs F V) (hu : V.ownsRow B 3 1 u f.length (intL f)) (ha : ∀ i, i < n → Away (xs i) u) (ho : V'.ownsRow B 53 1 v' (n + 1) (rowV xs n ++ [u])) (hg : (V.alloc (.cells #[u] 53)).grownBy V' v.ownBlock) : RowsV B v' (n + 1) (fun j => if j = n then u else xs j) (fun j => if j = n then f else F j) V' := by
  refine ⟨by rw [rowV_snoc]; exact ho, fun i hi => ?_, fun i j hi hj hij => ?_⟩
  · by_cases e : i = n
    · rw [if_pos e, if_pos e]
      exact mr_apart hu h.row (by decide) hg
    · rw [if_neg e, if_neg e]
      exact mr_apart (h.each i (by omega)) h.row (by decide) hg
  · by_cases e1 : i = n
    · rw [if_pos e1, if_neg (by omega)]
      exact away_sym (ha j (by omega))
    · rw [if_neg e1]
      by_cases e2 : j = n
      · rw [if_pos e2]
        exact ha i (by omega)
      · rw [if_neg e2]
        exact h.apart i j (by omega) (by omega) hij
end
/-- the book, ahead of its settling -/
structure BookM (B g n : Nat) (F : Nat → List Nat) (vf vw : Value) (xs ys : Nat → Value) (V : World) : Prop where
  st : V.heap[g]? = some (.cells #[vf, vw, .slice none 0 0] 40 (0, 0))
  free : RowsV B vf n xs F V
  want : RowsV B vw n ys F V
  away : Away vf vw
  lo : g < B
section
variable {B g n : Nat} {F : Nat → List Nat} {vf vw : Value} {xs ys : Nat → Value} {V V' : World}
theorem BookM.keep (h : BookM B g n F vf vw xs ys V) (hb : Below V.heap.size V V') : BookM B g n F vf vw xs ys V' :=
  ⟨(hb.block g (Array.getElem?_eq_some_iff.1 h.st).1).trans h.st, h.free.keep hb, h.want.keep hb, h.away, h.lo⟩
theorem BookM.start (B g : Nat) (V : World) (h : V.heap[g]? = some (.cells #[.slice none 0 0, .slice none 0 0, .slice none 0 0] 40 (0, 0))) (lo : g < B) : BookM B g 0 (fun _ => []) (.slice none 0 0) (.slice none 0 0) (fun _ => .slice none 0 0) (fun _ => .slice none 0 0) V :=
  ⟨h, RowsV.nil _ _ _ _, RowsV.nil _ _ _ _, away_nil _, lo⟩
end
end Go.Proofs.Ytlbfnchjbpioeaa

namespace Go.Proofs.Ytlbfnchjbpioeaa
open Go.RowKit Go.Shelf
set_option linter.unusedVariables false
set_option linter.unusedSimpArgs false
/-- five worlds, one behind the other -/
def Stg5 (X0 X1 X2 X3 X4 : World) (L : Nat → Bool) (X : World) : Prop :=
  (L 11 = false ∧ ((L 6 = false ∧ L 7 = false ∧ L 8 = false ∧ X = X0) ∨ (L 6 = true ∧ L 7 = false ∧ L 8 = false ∧ X = X1) ∨ (L 6 = true ∧ L 7 = true ∧ L 8 = false ∧ X = X2) ∨ (L 6 = true ∧ L 7 = true ∧ L 8 = true ∧ X = X3))) ∨ (L 11 = true ∧ (∀ i, i < 11 → L i = true) ∧ X = X4)
section
variable {X0 X1 X2 X3 X4 X : World} {L L' : Nat → Bool} {i : Nat}
theorem Stg5.start (h : ∀ i, L i = false) : Stg5 X0 X1 X2 X3 X4 L X0 := .inl ⟨h _, .inl ⟨h _, h _, h _, rfl⟩⟩
theorem Stg5.on (h : Stg5 X0 X1 X2 X3 X4 L X) (hi : i < 11) (hL : L i = false) : X = X0 ∨ X = X1 ∨ X = X2 ∨ X = X3 := by
  rcases h with ⟨_, h⟩ | ⟨_, h, _⟩
  · rcases h with ⟨_, _, _, h⟩ | ⟨_, _, _, h⟩ | ⟨_, _, _, h⟩ | ⟨_, _, _, h⟩ <;> simp [h]
  · rw [h i hi] at hL
    cases hL
theorem Stg5.read (h : Stg5 X0 X1 X2 X3 X4 L X) (hi : i < 11) (h6 : i ≠ 6) (h7 : i ≠ 7) (h8 : i ≠ 8) (hL : L i = false) (hL' : ∀ x, L' x = if x = i then true else L x) : Stg5 X0 X1 X2 X3 X4 L' X := by
  have e6 : L' 6 = L 6 := by rw [hL', if_neg (Ne.symm h6)]
  have e7 : L' 7 = L 7 := by rw [hL', if_neg (Ne.symm h7)]
  have e8 : L' 8 = L 8 := by rw [hL', if_neg (Ne.symm h8)]
  have e9 : L' 11 = L 11 := by rw [hL', if_neg (by omega)]
  rcases h with h | ⟨_, h, _⟩
  · rw [← e6, ← e7, ← e8, ← e9] at h
    exact .inl h
  · rw [h i hi] at hL
    cases hL
theorem Stg5.six (h : Stg5 X0 X1 X2 X3 X4 L X) (hL : L 6 = false) : X = X0 ∧ ∀ L', (∀ x, L' x = if x = 6 then true else L x) → Stg5 X0 X1 X2 X3 X4 L' X1 := by
  rcases h with ⟨h0, h⟩ | ⟨_, h, _⟩
  · rcases h with ⟨_, h7, h8, h⟩ | ⟨h6, _⟩ | ⟨h6, _⟩ | ⟨h6, _⟩
    · exact ⟨h, fun L' hL' => .inl ⟨by rw [hL', if_neg (by decide)]; exact h0, .inr (.inl ⟨by rw [hL', if_pos rfl], by rw [hL', if_neg (by decide)]; exact h7, by rw [hL', if_neg (by decide)]; exact h8, rfl⟩)⟩⟩
    all_goals
      rw [h6] at hL
      cases hL
  · rw [h 6 (by omega)] at hL
    cases hL
theorem Stg5.seven (h : Stg5 X0 X1 X2 X3 X4 L X) (hL : L 7 = false) (h6 : L 6 = true) : X = X1 ∧ ∀ L', (∀ x, L' x = if x = 7 then true else L x) → Stg5 X0 X1 X2 X3 X4 L' X2 := by
  rcases h with ⟨h0, h⟩ | ⟨_, h, _⟩
  · rcases h with ⟨h6', _⟩ | ⟨_, _, h8, h⟩ | ⟨_, h7, _⟩ | ⟨_, h7, _⟩
    · rw [h6] at h6'
      cases h6'
    · exact ⟨h, fun L' hL' => .inl ⟨by rw [hL', if_neg (by decide)]; exact h0, .inr (.inr (.inl ⟨by rw [hL', if_neg (by decide)]; exact h6, by rw [hL', if_pos rfl], by rw [hL', if_neg (by decide)]; exact h8, rfl⟩))⟩⟩
    all_goals
      rw [h7] at hL
      cases hL
  · rw [h 7 (by omega)] at hL
    cases hL
theorem Stg5.eight (h : Stg5 X0 X1 X2 X3 X4 L X) (hL : L 8 = false) (h7 : L 7 = true) : X = X2 ∧ ∀ L', (∀ x, L' x = if x = 8 then true else L x) → Stg5 X0 X1 X2 X3 X4 L' X3 := by
  rcases h with ⟨h0, h⟩ | ⟨_, h, _⟩
  · rcases h with ⟨_, h7', _⟩ | ⟨_, h7', _⟩ | ⟨h6, _, _, h⟩ | ⟨_, _, h8, _⟩
    · rw [h7] at h7'
      cases h7'
    · rw [h7] at h7'
      cases h7'
    · exact ⟨h, fun L' hL' => .inl ⟨by rw [hL', if_neg (by decide)]; exact h0, .inr (.inr (.inr ⟨by rw [hL', if_neg (by decide)]; exact h6, by rw [hL', if_neg (by decide)]; exact h7, by rw [hL', if_pos rfl], rfl⟩))⟩⟩
    · rw [h8] at hL
      cases hL
  · rw [h 8 (by omega)] at hL
    cases hL
theorem Stg5.last (h : Stg5 X0 X1 X2 X3 X4 L X) (hL : L 11 = false) (hall : ∀ i, i < 11 → L i = true) : X = X3 ∧ ∀ L', (∀ x, L' x = if x = 11 then true else L x) → Stg5 X0 X1 X2 X3 X4 L' X4 := by
  rcases h with ⟨h0, h⟩ | ⟨h, _⟩
  · rcases h with ⟨h6, _⟩ | ⟨_, h7, _⟩ | ⟨_, _, h8, _⟩ | ⟨_, _, _, h⟩
    · rw [hall 6 (by omega)] at h6
      cases h6
    · rw [hall 7 (by omega)] at h7
      cases h7
    · rw [hall 8 (by omega)] at h8
      cases h8
    · exact ⟨h, fun L' hL' => .inr ⟨by rw [hL', if_pos rfl], fun i hi => by rw [hL', if_neg (by omega)]; exact hall i hi, rfl⟩⟩
  · rw [h] at hL
    cases hL
theorem Stg5.done (h : Stg5 X0 X1 X2 X3 X4 L X) (hs : L 11 = true) : X = X4 := by
  rcases h with ⟨h0, _⟩ | ⟨_, _, h⟩
  · rw [hs] at h0
    cases h0
  · exact h
end
theorem cl_next {L L' : Nat → Bool} {i : Nat} (h : L 10 = true → L 9 = true) (hL' : ∀ x, L' x = if x = i then true else L x) (h10 : i = 10 → L 9 = true) : L' 10 = true → L' 9 = true := by
  intro e
  rw [hL'] at e ⊢
  by_cases e9 : (9 : Nat) = i
  · rw [if_pos e9]
  · rw [if_neg e9]
    by_cases e10 : (10 : Nat) = i
    · exact h10 e10.symm
    · rw [if_neg e10] at e
      exact h e
/-- behind the first append -/
structure Bk0 (B g n : Nat) (F : Nat → List Nat) (f : List Nat) (p6 : Option Addr) (c6 : Nat) (pw : Option Addr) (cw : Nat) (u wv : Value) (xs ys : Nat → Value) (m : Nat) (V X : World) : Prop where
  st : X.heap[g]? = some (.cells #[.slice p6 (n + 1) c6, .slice pw n cw, .slice none 0 0] 40 (0, 0))
  free : RowsV B (.slice p6 (n + 1) c6) (n + 1) (fun j => if j = n then u else xs j) (fun j => if j = n then f else F j) X
  want : RowsV B (.slice pw n cw) n ys F X
  away : Away (.slice p6 (n + 1) c6) (.slice pw n cw)
  lo : g < B
  wrow : ∃ b7, X.ownsRow b7 3 1 wv m (intL f)
  bel : Below g V X
  siz : B ≤ X.heap.size
  oth : ∀ k cs t f, V.heap[k]? = some (.cells cs t f) → t ≠ 53 → k ≠ g → X.heap[k]? = V.heap[k]?
set_option maxRecDepth 100000 in
set_option maxHeartbeats 1000000 in
theorem takes_any (B g n b7 : Nat) (F : Nat → List Nat) (vf vw u wv : Value) (xs ys : Nat → Value) (f : List Nat) (V : World) (h : BookM B g n F vf vw xs ys V) (hu : V.ownsRow B 3 1 u f.length (intL f)) (ha : ∀ i, i < n → Away (xs i) u) (hw : V.ownsRow b7 3 1 wv f.length (intL f)) (hn : n ≤ 1000) (hf : f.length ≤ 1000) (hB : B ≤ V.heap.size) :
    Calls Try.prog 30 #[.pointer (some ⟨g, 0, none⟩), u, wv] V fun e w' => e = .returned (.tuple #[]) ∧ (∃ vf' vw' ys', BookM B g (n + 1) (fun j => if j = n then f else F j) vf' vw' (fun j => if j = n then u else xs j) ys' w') ∧ Below g V w' ∧ (∀ k cs t f, V.heap[k]? = some (.cells cs t f) → t ≠ 53 → k ≠ g → w'.heap[k]? = V.heap[k]?) := by
  obtain ⟨pf, cf, rfl⟩ := mr_shape h.free.row
  obtain ⟨pw, cw, rfl⟩ := mr_shape h.want.row
  obtain ⟨pu, cu, rfl⟩ := mr_shape hu
  obtain ⟨pq, cq, rfl⟩ := mr_shape hw
  have c0 : V.cell? ⟨g, 0, none⟩ = some (.slice pf n cf) := by simp [World.cell?, h.st]
  obtain ⟨i1, j1, j2, j3, j4⟩ := info_parts infoSl
  have HJ := Hid.mk' (And.intro j1 (And.intro j2 (And.intro j3 j4)))
  have HH := Hid.mk' h
  have HU := Hid.mk' hu
  have HA := Hid.mk' ha
  have HW := Hid.mk' hw
  have HB := Hid.mk' hB
  obtain ⟨m, hm⟩ : ∃ m, f.length = m := ⟨_, rfl⟩
  clear h hu ha hw j1 j2 j3 j4
  rw [hm] at HU HW HA hf ⊢
  have HMF := Hid.mk' hm
  clear hm
  have HBK : Hid (∀ (w6 : World) (p6 : Option Addr) (c6 : Nat), w6.ownsRow B 53 1 (.slice p6 (n + 1) c6) (n + 1) (rowV xs n ++ [.slice pu m cu]) → (V.alloc (.cells #[.slice pu m cu] 53)).grownBy w6 (Value.slice pf n cf).ownBlock → ((Value.slice p6 (n + 1) c6).ownBlock = (Value.slice pf n cf).ownBlock ∨ (Value.slice p6 (n + 1) c6).ownBlock = some (V.heap.size + 1)) → w6.cell? ⟨g, 0, none⟩ = some (.slice pf n cf) ∧ w6.frozen? ⟨g, 0, none⟩ = false ∧ Bk0 B g n F f p6 c6 pw cw (.slice pu m cu) (.slice pq m cq) xs ys m V (w6.setCell ⟨g, 0, none⟩ (.slice p6 (n + 1) c6))) := fun w6 p6 c6 ho hg hat => by
    have hlo := HH.out.lo
    have hBV := HB.out
    have hne : ∀ r, (Value.slice pf n cf).ownBlock = some r → B ≤ r := fun r e => (HH.out.free.row.lt r e).1
    have kk : ∀ i, i < B → w6.heap[i]? = V.heap[i]? := fun i hi => by
      rw [hg.block i (by simp; omega) (fun e => by have := hne i e.symm; omega)]
      exact Below.heap_alloc _ _ _ (by omega)
    have hst := (kk g hlo).trans HH.out.st
    have hfr := HH.out.free.next (show V.ownsRow B 3 1 (.slice pu m cu) f.length (intL f) from by rw [HMF.out]; exact HU.out) HA.out ho hg
    have hwn := HH.out.want.beside HH.out.free.row HH.out.away hg hat
    have hsz : V.heap.size ≤ w6.heap.size := by have := hg.size; simp at this; omega
    refine ⟨by simp [World.cell?, hst], by simp [World.frozen?, hst], ⟨?_, hfr.set hlo _ _, hwn.1.set hlo _ _, hwn.2, hlo, ?_, ?_, ?_, ?_⟩⟩
    · have h9 : (w6.setCell ⟨g, 0, none⟩ (.slice p6 (n + 1) c6)).heap[g]? = some (.cells (#[.slice pf n cf, .slice pw n cw, .slice none 0 0].setIfInBounds 0 (.slice p6 (n + 1) c6)) 40 (0, 0)) := by
        simp [World.setCell, Array.getElem?_modify, hst]
      exact h9
    · have h7 := mr_apart HW.out HH.out.free.row (by decide) hg
      refine ⟨b7, ?_⟩
      exact mr_set h7 (mr_other h7 hst (by decide)) _ _
    · exact mb_set (show Below g V w6 from ⟨hg.os, hg.tape, hg.output, hsz, fun k hk => kk k (by omega)⟩) (Nat.le_refl _) _ _
    · simp [World.setCell]
      omega
    · intro k cs t f hk ht hkg
      rw [set_heap w6 g k 0 _ hkg, mr_cells_apart hk HH.out.free.row ht hg, hk]
  go_enter Try.func30, Try.ntmps30
  go_wp2_with (first
    | (at_builtin; refine wpList_append_own_at _ rfl _ _ 38 rfl B 53 i1 (.slice none 0 0) 1 24 Try.underlying38 HJ.out.1 HJ.out.2.1 HJ.out.2.2.1 HJ.out.2.2.2 rfl (by decide) _ _ _ rfl (HH.out.free.row.alloc _) ⟨V.heap.size, 0, none⟩ 1 1 [.slice pu m cu] rfl rfl (cell_one_new _ _ _) (by intro x hx; simp at hx; subst hx; rfl) (by unfold maxLen; omega) (by omega) (by simp only [World.size_alloc]; have := HB.out; omega) ?_; intro v6 w6 ho6 hg6 _ hat6; obtain ⟨p6, c6, rfl⟩ := mr_shape ho6; obtain ⟨d0, d1, hb6⟩ := HBK.out w6 p6 c6 ho6 hg6 (by rw [World.size_alloc] at hat6; exact hat6); have HB6 := Hid.mk' hb6; clear ho6 hg6 hat6 hb6)
    | fail)
  obtain ⟨Z, hZ⟩ : ∃ Z, w6.setCell ⟨g, 0, none⟩ (.slice p6 (n + 1) c6) = Z := ⟨_, rfl⟩
  rw [hZ] at HB6 ⊢
  clear hZ d0 d1 c0
  obtain ⟨X0, hX0⟩ : ∃ X0 : World, { Z with drawn := Z.drawn + 1 } = X0 := ⟨_, rfl⟩
  have HX : Hid (Bk0 B g n F f p6 c6 pw cw (.slice pu m cu) (.slice pq m cq) xs ys m V X0) := Hid.mk' (by
    have h9 := HB6.out
    rw [← hX0]
    exact ⟨h9.st, ⟨h9.free.row, h9.free.each, h9.free.apart⟩, ⟨h9.want.row, h9.want.each, h9.want.apart⟩, h9.away, h9.lo, h9.wrow, ⟨h9.bel.os, h9.bel.tape, h9.bel.output, h9.bel.size, h9.bel.block⟩, h9.siz, h9.oth⟩)
  obtain ⟨u2, X1, hr1, ho1, hb1, hat1⟩ : ∃ u2 X1, (Builtin.append_ #[53, 53] 53 #[.slice none 0 0, .slice pq m cq]).run Try.prog X0 = .ok u2 X1 ∧ X1.ownsRow B 3 1 u2 m (intL f) ∧ Below X0.heap.size X0 X1 ∧ (u2.ownBlock = none ∨ u2.ownBlock = some X0.heap.size) := by
    obtain ⟨b7', hw7⟩ := HX.out.wrow
    obtain ⟨i3, q1, q2, q3, q4⟩ := info_parts infoI
    rcases hw7.2 with ⟨h1, h2⟩ | ⟨g9, cap9, cur9, h1, _⟩
    · rw [h1]
      have hf0 : f = [] := List.length_eq_zero_iff.1 (by rw [HMF.out]; exact h2)
      refine ⟨.slice none 0 0, X0, run_append_owned_none (P := Try.prog) (w := X0) B 53 53 3 i3 1 Try.underlying53 q1 _ 0 [] (World.ownsRow_nil _ _ _ _), ?_, Below.refl _ _, .inl rfl⟩
      rw [h2, hf0]
      exact World.ownsRow_nil _ _ _ _
    · rw [h1]
      obtain ⟨v2, Y, hrun, ho2, hg2, _, hat⟩ := run_append_own_at (P := Try.prog) X0 B 53 53 3 i3 (.int .i64 0) 1 8 Try.underlying53 q1 q2 q3 q4 rfl (by decide) _ 0 [] (World.ownsRow_nil X0 B 3 1) ⟨g9, 0, none⟩ m cap9 (intL f) (by unfold intL; rw [List.length_map, HMF.out, Nat.mul_one]) (hw7.cells (g := g9) (by rw [h1]; rfl)) (by intro x hx; unfold intL at hx; obtain ⟨y, _, rfl⟩ := List.mem_map.1 hx; rfl) (by unfold maxLen; omega) (by omega) HX.out.siz
      simp only [Nat.zero_add, List.nil_append] at ho2
      exact ⟨v2, Y, hrun, ho2, ⟨hg2.os, hg2.tape, hg2.output, hg2.size, fun k hk => hg2.block k hk (by simp [Value.ownBlock])⟩, hat⟩
  obtain ⟨p2, c2, rfl⟩ := mr_shape ho1
  have hw1 := HX.out.want.keep hb1
  have hbz := hb1.size
  have hsz := HX.out.siz
  have hlo := HX.out.lo
  obtain ⟨v3, X3, hr3, ho3, hg3, _, hat3⟩ := run_append_own_at (P := Try.prog) (X1.alloc (.cells #[.slice p2 m c2] 53)) B 38 38 53 i1 (.slice none 0 0) 1 24 Try.underlying38 HJ.out.1 HJ.out.2.1 HJ.out.2.2.1 HJ.out.2.2.2 rfl (by decide) _ n (rowV ys n) (hw1.row.alloc _) ⟨X1.heap.size, 0, none⟩ 1 1 [.slice p2 m c2] rfl (cell_one_new _ _ _) (by intro x hx; simp at hx; subst hx; rfl) (by unfold maxLen; omega) (by omega) (by simp; omega)
  obtain ⟨p3, c3, rfl⟩ := mr_shape ho3
  rw [World.size_alloc] at hat3
  have hwn := hw1.next (by rw [HMF.out]; exact ho1) (fun i hi => ?away) ho3 hg3
  case away =>
    intro k h1 h2
    have h3 := ((HX.out.want.each i hi).lt k h1).2
    rcases hat1 with h4 | h4
    · rw [h4] at h2
      cases h2
    · rw [h4] at h2
      simp only [Option.some.injEq] at h2
      omega
  have hfn := (HX.out.free.keep hb1).beside hw1.row (away_sym HX.out.away) hg3 hat3
  have kk : ∀ i, i < B → X3.heap[i]? = X0.heap[i]? := fun i hi => by
    rw [hg3.block i (by simp; omega) (fun e => by have := (hw1.row.lt i e.symm).1; omega), Below.heap_alloc _ _ _ (by omega)]
    exact hb1.block i (by omega)
  have hst3 := (kk g hlo).trans HX.out.st
  have HFIN : Hid ((∃ vf' vw' ys', BookM B g (n + 1) (fun j => if j = n then f else F j) vf' vw' (fun j => if j = n then .slice pu m cu else xs j) ys' (X3.setCell ⟨g, 1, none⟩ (.slice p3 (n + 1) c3))) ∧ Below g V (X3.setCell ⟨g, 1, none⟩ (.slice p3 (n + 1) c3)) ∧ (∀ k cs t f, V.heap[k]? = some (.cells cs t f) → t ≠ 53 → k ≠ g → (X3.setCell ⟨g, 1, none⟩ (.slice p3 (n + 1) c3)).heap[k]? = V.heap[k]?)) := Hid.mk' (by
    refine ⟨⟨_, _, _, ?_, hfn.1.set hlo _ _, hwn.set hlo _ _, away_sym hfn.2, hlo⟩, ?_, ?_⟩
    · have h9 : (X3.setCell ⟨g, 1, none⟩ (.slice p3 (n + 1) c3)).heap[g]? = some (.cells (#[.slice p6 (n + 1) c6, .slice pw n cw, .slice none 0 0].setIfInBounds 1 (.slice p3 (n + 1) c3)) 40 (0, 0)) := by
        simp [World.setCell, Array.getElem?_modify, hst3]
      exact h9
    · have hs3 := hg3.size
      simp at hs3
      exact mb_set (HX.out.bel.trans ⟨hg3.os.trans hb1.os, hg3.tape.trans hb1.tape, hg3.output.trans hb1.output, by omega, fun k hk => kk k (by omega)⟩) (Nat.le_refl _) _ _
    · intro k cs t f hk ht hkg
      have h0 := HX.out.oth k cs t f hk ht hkg
      have h1 : X0.heap[k]? = some (.cells cs t f) := h0.trans hk
      have h2 : X1.heap[k]? = some (.cells cs t f) := (hb1.block k (Array.getElem?_eq_some_iff.1 h1).1).trans h1
      rw [set_heap X3 g k 1 _ hkg, mr_cells_apart h2 hw1.row ht hg3, hk])
  obtain ⟨X2, hX2⟩ : ∃ X2, X1.alloc (.cells #[.slice p2 m c2] 53) = X2 := ⟨_, rfl⟩
  rw [hX2] at hr3
  have c31 : X3.cell? ⟨g, 1, none⟩ = some (.slice pw n cw) := by simp [World.cell?, hst3]
  have f31 : X3.frozen? ⟨g, 1, none⟩ = false := by simp [World.frozen?, hst3]
  have c01 : X0.cell? ⟨g, 1, none⟩ = some (.slice pw n cw) := by simp [World.cell?, HX.out.st]
  have c11 : X1.cell? ⟨g, 1, none⟩ = some (.slice pw n cw) := (World.cell?_of_block (a := ⟨g, 1, none⟩) (hb1.block g (by omega))).trans c01
  have c21 : X2.cell? ⟨g, 1, none⟩ = some (.slice pw n cw) := (World.cell?_of_block (a := ⟨g, 1, none⟩) (by rw [← hX2]; exact Below.heap_alloc _ _ _ (by simp only; omega))).trans c11
  have HRD : Hid (∀ X, (X = X0 ∨ X = X1 ∨ X = X2 ∨ X = X3) → X.cell? ⟨g, 1, none⟩ = some (.slice pw n cw)) := fun X hX => by
    rcases hX with rfl | rfl | rfl | rfl
    · exact c01
    · exact c11
    · exact c21
    · exact c31
  clear hwn hfn ho3 hg3 hat3 hat1 ho1 hb1 hw1 kk hst3
  refine (wpIn_wide (n := 6)).1 ?_
  refine region_done (by kernel_rfl) (fun kz => (#[.pointer (some ⟨g, 0, none⟩), .pointer (some ⟨g, 0, none⟩), .pointer (some ⟨g, 0, none⟩), .pointer (some ⟨g, 1, none⟩), .slice pw n cw, .slice pq m cq, .slice p2 m c2, .slice (some ⟨X1.heap.size, 0, none⟩) 1 1, .slice p3 (n + 1) c3, .pointer (some ⟨g, 0, none⟩), .pointer (some ⟨g, 1, none⟩), undef] : Array Value).getD kz undef) (fun z => { tmps := #[.pointer (some ⟨g, 0, none⟩), .slice pu m cu, .slice pq m cq, undef, undef, undef, .pointer (some ⟨g, 0, none⟩), .pointer (some ⟨g, 0, none⟩), .pointer (some ⟨g, 0, none⟩), .pointer (some ⟨g, 0, none⟩), .slice pf n cf, .slice pu m cu, .slice (some ⟨V.heap.size, 0, none⟩) 1 1, .slice p6 (n + 1) c6, .pointer (some ⟨g, 0, none⟩), .pointer (some ⟨g, 0, none⟩), z 0, z 1, z 2, z 3, z 4, z 5, z 6, z 7, z 8, z 9, z 10], defers := [] }) (fun k => undef) _ (fun L X => Stg5 X0 X1 X2 X3 (X3.setCell ⟨g, 1, none⟩ (.slice p3 (n + 1) c3)) L X ∧ (L 10 = true → L 9 = true)) (fun L hL => by rw [hX0]; exact ⟨Stg5.start hL, fun e => by rw [hL] at e; cases e⟩) (deps_of' (by kernel_rfl)) ?_ ?_ ?_
  · intro f1 f2 hfg
    simp only [hfg 0 (by decide), hfg 1 (by decide), hfg 2 (by decide), hfg 3 (by decide), hfg 4 (by decide), hfg 5 (by decide), hfg 6 (by decide), hfg 7 (by decide), hfg 8 (by decide), hfg 9 (by decide), hfg 10 (by decide)]
  · rintro L X ⟨hS, hcl⟩ i0 hi0 hL o ho hdone z hdeps KK hKK
    rcases (show i0 = 0 ∨ i0 = 1 ∨ i0 = 2 ∨ i0 = 3 ∨ i0 = 4 ∨ i0 = 5 ∨ i0 = 6 ∨ i0 = 7 ∨ i0 = 8 ∨ i0 = 9 ∨ i0 = 10 ∨ i0 = 11 by have : i0 < 12 := hi0; omega) with rfl | rfl | rfl | rfl | rfl | rfl | rfl | rfl | rfl | rfl | rfl | rfl
    case inr.inr.inr.inr.inr.inr.inl =>
      obtain ⟨rfl, hN⟩ := hS.six hL
      have hKX := hKK X1 (fun L' hL' => ⟨hN L' hL', cl_next hcl hL' (by omega)⟩)
      simp at ho; subst ho; simp [Region.binds] at hdeps
      refine op_append rfl rfl rfl (v1 := .slice none 0 0) (v2 := .slice pq m cq) ?_ ?_ hr1 ?_
      · simp [go_sem]
      · simp [go_sem, hdeps]
      · first | exact hKX | (simp [upd, hdeps, go_sem] at hKX ⊢; exact hKX)
    case inr.inr.inr.inr.inr.inr.inr.inl =>
      obtain ⟨rfl, hN⟩ := hS.seven hL (by simp at ho; subst ho; simp [Region.binds] at hdone; exact hdone)
      have hKX := hKK X2 (fun L' hL' => ⟨hN L' hL', cl_next hcl hL' (by omega)⟩)
      simp at ho; subst ho; simp [Region.binds] at hdeps
      simp [wpOpIn, Region.wanted, yielded, Oper.wpIn, Oper.semAt_eq, execOp, Oper.uponIn, go_sem, hdeps, hX2]
      first | exact hKX | (simp [upd, hdeps] at hKX; exact hKX)
    case inr.inr.inr.inr.inr.inr.inr.inr.inl =>
      obtain ⟨rfl, hN⟩ := hS.eight hL (by simp at ho; subst ho; simp [Region.binds] at hdone; simp [hdone])
      have hKX := hKK X3 (fun L' hL' => ⟨hN L' hL', cl_next hcl hL' (by omega)⟩)
      simp at ho; subst ho; simp [Region.binds] at hdeps
      refine op_append rfl rfl rfl (v1 := .slice pw n cw) (v2 := .slice (some ⟨X1.heap.size, 0, none⟩) 1 1) ?_ ?_ hr3 ?_
      · simp [go_sem, hdeps]
      · simp [go_sem, hdeps]
      · first | exact hKX | (simp [upd, hdeps, go_sem] at hKX ⊢; exact hKX)
    case inr.inr.inr.inr.inr.inr.inr.inr.inr.inr.inr =>
      simp at ho; subst ho; simp [Region.binds] at hdone hdeps
      obtain ⟨rfl, hN⟩ := hS.last hL (fun i hi => by rcases (show i = 0 ∨ i = 1 ∨ i = 2 ∨ i = 3 ∨ i = 4 ∨ i = 5 ∨ i = 6 ∨ i = 7 ∨ i = 8 ∨ i = 9 ∨ i = 10 by omega) with rfl | rfl | rfl | rfl | rfl | rfl | rfl | rfl | rfl | rfl | rfl <;> first | (simp [hdone]; done) | exact hcl (by simp [hdone]))
      have hKX := hKK _ (fun L' hL' => ⟨hN L' hL', cl_next hcl hL' (by omega)⟩)
      simp [wpOpIn, Region.wanted, yielded, Oper.wpIn, Oper.semAt_eq, execOp, Oper.uponIn, go_sem, hdeps, c31, f31]
      first | exact hKX | (simp [upd, hdeps] at hKX; exact hKX)
    all_goals (simp at ho; subst ho; (try simp [Region.binds] at hdone); (try simp [Region.binds] at hdeps); have r1 := HRD.out X (hS.on (by omega) hL); have hKX := hKK X (fun L' hL' => ⟨hS.read (by omega) (by omega) (by omega) (by omega) hL hL', cl_next hcl hL' (by first | (intro h; omega) | (intro _; simp [hdone]))⟩); simp [wpOpIn, Region.wanted, yielded, Oper.wpIn, Oper.semAt_eq, execOp, Oper.uponIn, go_sem, hdeps, r1]; first | exact hKX | (simp [upd, hdeps] at hKX; exact hKX))
  · rintro L X hall ⟨hS, _⟩
    obtain rfl := hS.done (hall 11 (by decide))
    go_wp2
    go_end0
    exact ⟨rfl, HFIN.out.1, HFIN.out.2.1, fun k cs t a b h1 h2 h3 => HFIN.out.2.2 k cs t (a, b) h1 h2 h3⟩
end Go.Proofs.Ytlbfnchjbpioeaa

namespace Go.Proofs.Ytlbfnchjbpioeaa
open Go.RowKit Go.Shelf
set_option linter.unusedVariables false
set_option linter.unusedSimpArgs false
theorem run_append_one {P : Program} (w : World) (base : Nat) (t ty e : TypeId) (i : TypeInfo) (z : Value) (bytes : Nat) (ht : P.underlying t = some (.slice e)) (hi : P.info? e = some i) (hz : i.zero = some z)
    (hsize : i.size = 1) (hby : i.bytes = bytes) (hzs : z.cells.size = 1)
    (v : Value) (n : Nat) (xs : List Value) (hown : w.ownsRow base e 1 v n xs) (a : Addr) (x : Value) (hnews : ∀ j u, [x][j]? = some u → w.cell? (a.add j) = some u) (h1 : x.oneCell' = true)
    (h63 : n + 1 ≤ maxLen) (hbytes : (n + 1) * bytes ≤ 140737488355328) (hbase : base ≤ w.heap.size) :
    ∃ v' w', (Builtin.append_ #[t, t] ty #[v, .slice (some a) 1 1]).run P w = .ok v' w' ∧ w'.ownsRow base e 1 v' (n + 1) (xs ++ [x]) ∧ ((v'.ownBlock = v.ownBlock ∧ w.grownBy w' v.ownBlock) ∨ (v'.ownBlock = some w.heap.size ∧ w.grownBy w' none)) := by
  obtain ⟨v', w', hr, h2, h3, h4, h5⟩ := run_append_own_at (P := P) w base t ty e i z 1 bytes ht hi hz hsize hby hzs (by decide) v n xs hown a 1 1 [x] rfl hnews (by intro u hu; simp at hu; subst hu; exact h1) h63 hbytes hbase
  refine ⟨v', w', hr, h2, ?_⟩
  rcases h5 with h5 | h5
  · exact .inl ⟨h5, h3⟩
  refine .inr ⟨h5, ?_⟩
  rcases hown.2 with ⟨rfl, rfl⟩ | ⟨g, cap, cur, rfl, hbg, hg, hnc, hcm, hcs, htake⟩
  · exact h3
  · have hgl := (Array.getElem?_eq_some_iff.1 hg).1
    by_cases hroom : n + 1 ≤ cap
    · have hfit : n * i.size + [x].length ≤ cur.size := by rw [hsize, hcs]; simp; omega
      have hr2 := run_append_room (P := P) w t ty e i ht hi g n cap cur hg a 1 1 [x] (by rw [hsize]; rfl) hnews (by intro u hu; simp at hu; subst hu; exact h1) hroom hfit
      rw [hr] at hr2
      simp only [Result.ok.injEq] at hr2
      rw [hr2.1] at h5
      simp [Value.ownBlock] at h5
      omega
    · have holds : ∀ j u, xs[j]? = some u → w.cell? ((⟨g, 0, none⟩ : Addr).add j) = some u := hown.cells (g := g) rfl
      have hr2 := run_append_grow (P := P) w t ty e i z ht hi hz ⟨g, 0, none⟩ n cap xs (by rw [hsize]; exact hown.1) holds a 1 1 [x] (by rw [hsize]; rfl) hnews (by omega) (by simp only [maxLen] at h63; omega) (growslice_fits (by omega) (by rw [hby]; exact hbytes))
      rw [hr] at hr2
      simp only [Result.ok.injEq] at hr2
      rw [hr2.2]
      exact ⟨rfl, rfl, rfl, by simp, fun k hk _ => Below.heap_alloc w.drew _ k hk⟩
theorem own_put {V : World} {B n : Nat} {e : TypeId} {v : Value} {xs : List Value} (h : V.ownsRow B e 1 v n xs) {g : Nat} (hg : v.ownBlock = some g) (k : Nat) (u : Value) : (V.setCell ⟨g, k, none⟩ u).ownsRow B e 1 v n (xs.set k u) := by
  refine ⟨by rw [List.length_set]; exact h.1, ?_⟩
  rcases h.2 with ⟨rfl, _⟩ | ⟨g', cap, cur, rfl, hbg, hh, hnc, hcm, hcs, htake⟩
  · simp [Value.ownBlock] at hg
  · simp [Value.ownBlock] at hg
    subst hg
    refine .inr ⟨g', cap, cur.setIfInBounds k u, rfl, hbg, ?_, hnc, hcm, by rw [Array.size_setIfInBounds]; exact hcs, ?_⟩
    · simp [World.setCell, Array.getElem?_modify, hh]
    · rw [Array.toList_setIfInBounds, ← htake, List.take_set]
def bmk (i : Nat) : Value := .int .i64 (-100 - (i : Int))
def bfull (i r : Nat) : List Value := List.replicate r (bmk i)
theorem bfull_snoc (i r : Nat) : bfull i r ++ [bmk i] = bfull i (r + 1) := by unfold bfull; rw [List.replicate_succ']
/-- a kept list: it reads as its mark, and lies where D says -/
def Kp (B : Nat) (V : World) (m z : Value) (D : Nat → Nat → Prop) : Prop := ∃ p c r, z = .slice p r c ∧ r ≤ 2000 ∧ (r = 0 ∨ ∃ g, p = some ⟨g, 0, none⟩ ∧ B ≤ g ∧ (∃ cs f, V.heap[g]? = some (.cells cs 3 f)) ∧ (∀ t, t < r → V.cell? ⟨g, t, none⟩ = some m) ∧ D g r)
theorem Kp.mono {B : Nat} {V V' : World} {m z : Value} {D D' : Nat → Nat → Prop} (h : Kp B V m z D) (hD : ∀ g r, g < V.heap.size → D g r → D' g r) (hc : ∀ g r, B ≤ g → (∃ cs f, V.heap[g]? = some (.cells cs 3 f)) → D g r → (∃ cs f, V'.heap[g]? = some (.cells cs 3 f)) ∧ ∀ t, t < r → V.cell? ⟨g, t, none⟩ = some m → V'.cell? ⟨g, t, none⟩ = some m) : Kp B V' m z D' := by
  obtain ⟨p, c, r, rfl, hr, h⟩ := h
  refine ⟨p, c, r, rfl, hr, h.imp id ?_⟩
  rintro ⟨g, rfl, h1, h2, h3, h4⟩
  obtain ⟨h5, h6⟩ := hc g r h1 h2 h4
  have hlt : g < V.heap.size := by
    obtain ⟨cs, f, h7⟩ := h2
    exact (Array.getElem?_eq_some_iff.1 h7).1
  exact ⟨g, rfl, h1, h5, fun t ht => h6 t ht (h3 t ht), hD g r hlt h4⟩
/-- the free lists, written over in part -/
structure St1 (B g n : Nat) (vf vw : Value) (xs : Nat → Value) (C : Nat → List Value) (V0 V : World) : Prop where
  st : V.heap[g]? = some (.cells #[vf, vw, .slice none 0 0] 40 (0, 0))
  free : V.ownsRow B 53 1 vf n (rowV xs n)
  each : ∀ i, i < n → V.ownsRow B 3 1 (xs i) (C i).length (C i)
  apart : ∀ i j, i < n → j < n → i ≠ j → Away (xs i) (xs j)
  lo : g < B
  siz : B ≤ V.heap.size
  bel : Below g V0 V
theorem St1.put {B g n : Nat} {vf vw : Value} {xs : Nat → Value} {C : Nat → List Value} {V0 V : World} (h : St1 B g n vf vw xs C V0 V) {i k b : Nat} (hi : i < n) (hb : (xs i).ownBlock = some b) (u : Value) : St1 B g n vf vw xs (fun j => if j = i then (C i).set k u else C j) V0 (V.setCell ⟨b, k, none⟩ u) := by
  have hbb := ((h.each i hi).lt b hb).1
  have hlo := h.lo
  refine ⟨(set_heap V b g k u (by omega)).trans h.st, mr_set h.free (fun e => ?_) _ _, fun j hj => ?_, h.apart, h.lo, by simpa [World.setCell] using h.siz, mb_set h.bel (by omega) _ _⟩
  · obtain ⟨c1, h1⟩ := mr_block (h.each i hi) hb
    exact mr_other h.free h1 (by decide) e
  · by_cases e : j = i
    · subst e
      rw [if_pos rfl, List.length_set]
      exact own_put (h.each j hj) hb k u
    · rw [if_neg e]
      exact mr_set (h.each j hj) (fun q => h.apart i j hi hj (Ne.symm e) b hb q) _ _
/-- lists at hand are kept at lengths of theirs: ahead of the i-th -/
structure St2 (B g n : Nat) (vf vw : Value) (xs : Nat → Value) (len : Nat → Nat) (V0 : World) (i : Nat) (vl : Value) (zs : Nat → Value) (V : World) : Prop where
  st : V.heap[g]? = some (.cells #[vf, vw, vl] 40 (0, 0))
  free : V.ownsRow B 53 1 vf n (rowV xs n)
  lrow : V.ownsRow B 53 1 vl (12 * i) (rowV zs (12 * i))
  fl : Away vl vf
  rest : ∀ j, i ≤ j → j < n → V.ownsRow B 3 1 (xs j) (len j) (bfull j (len j))
  apart : ∀ a b, a < n → b < n → a ≠ b → Away (xs a) (xs b)
  kept : ∀ j, j < 12 * i → Kp B V (bmk (j / 12)) (zs j) (fun g _ => ∀ a, i ≤ a → a < n → (xs a).ownBlock ≠ some g)
  lo : g < B
  siz : B ≤ V.heap.size
  bel : Below g V0 V
structure St3 (B g n : Nat) (vf vw : Value) (xs : Nat → Value) (len : Nat → Nat) (V0 : World) (i q r : Nat) (l vl : Value) (zs : Nat → Value) (V : World) : Prop where
  st : V.heap[g]? = some (.cells #[vf, vw, vl] 40 (0, 0))
  free : V.ownsRow B 53 1 vf n (rowV xs n)
  lrow : V.ownsRow B 53 1 vl q (rowV zs q)
  fl : Away vl vf
  rest : ∀ j, i < j → j < n → V.ownsRow B 3 1 (xs j) (len j) (bfull j (len j))
  apart : ∀ a b, a < n → b < n → a ≠ b → Away (xs a) (xs b)
  hand : V.ownsRow B 3 1 l r (bfull i r)
  hl : ∀ j, i < j → j < n → Away (xs j) l
  kept : ∀ j, j < q → Kp B V (bmk (j / 12)) (zs j) (fun g rj => (∀ a, i < a → a < n → (xs a).ownBlock ≠ some g) ∧ (l.ownBlock ≠ some g ∨ (j / 12 = i ∧ rj ≤ r)))
  lo : g < B
  siz : B ≤ V.heap.size
  bel : Below g V0 V
section
variable {B g n i q r : Nat} {vf vw l vl : Value} {xs zs : Nat → Value} {len : Nat → Nat} {V0 V W : World}
theorem St1.settled {C : Nat → List Value} (h : St1 B g n vf vw xs C V0 V) (hC : ∀ i, i < n → C i = bfull i (len i)) : St2 B g n vf vw xs len V0 0 (.slice none 0 0) zs V := by
  refine ⟨h.st, h.free, World.ownsRow_nil _ _ _ _, fun k e => by simp [Value.ownBlock] at e, fun j _ hj => ?_, h.apart, fun j hj => by omega, h.lo, h.siz, h.bel⟩
  have h1 := h.each j hj
  rw [hC j hj] at h1
  simpa [bfull] using h1
theorem St2.take (h : St2 B g n vf vw xs len V0 i vl zs V) (hi : i < n) : St3 B g n vf vw xs len V0 i (12 * i) (len i) (xs i) vl zs V :=
  ⟨h.st, h.free, h.lrow, h.fl, fun j h1 h2 => h.rest j (by omega) h2, h.apart, h.rest i (Nat.le_refl _) hi, fun j h1 h2 => h.apart j i h2 hi (by omega), fun j hj => (h.kept j hj).mono (fun g' r' _ hD => ⟨fun a h1 h2 => hD a (by omega) h2, .inl (hD i (Nat.le_refl _) hi)⟩) (fun _ _ _ h _ => ⟨h, fun _ _ h => h⟩), h.lo, h.siz, h.bel⟩
theorem St3.leave (h : St3 B g n vf vw xs len V0 i (12 * (i + 1)) r l vl zs V) : St2 B g n vf vw xs len V0 (i + 1) vl zs V :=
  ⟨h.st, h.free, h.lrow, h.fl, fun j h1 h2 => h.rest j (by omega) h2, h.apart, fun j hj => (h.kept j hj).mono (fun g' r' _ hD a h1 h2 => hD.1 a (by omega) h2) (fun _ _ _ h _ => ⟨h, fun _ _ h => h⟩), h.lo, h.siz, h.bel⟩
/-- the list at hand is kept -/
theorem St3.keep {vl' : Value} (h : St3 B g n vf vw xs len V0 i q r l vl zs V) (hq : q / 12 = i) (hr : r ≤ 2000) (ho : W.ownsRow B 53 1 vl' (q + 1) (rowV zs q ++ [l])) (hg : (V.alloc (.cells #[l] 53)).grownBy W vl.ownBlock) (hat : vl'.ownBlock = vl.ownBlock ∨ vl'.ownBlock = some (V.heap.size + 1)) :
    W.cell? ⟨g, 2, none⟩ = some vl ∧ W.frozen? ⟨g, 2, none⟩ = false ∧ St3 B g n vf vw xs len V0 i (q + 1) r l vl' (fun j => if j = q then l else zs j) (W.setCell ⟨g, 2, none⟩ vl') := by
  have hlo := h.lo
  have hsz := h.siz
  have hne : ∀ k, vl.ownBlock = some k → B ≤ k := fun k e => (h.lrow.lt k e).1
  have hWs : V.heap.size ≤ W.heap.size := by have := hg.size; simp at this; omega
  have kk : ∀ k, k < V.heap.size → vl.ownBlock ≠ some k → W.heap[k]? = V.heap[k]? := fun k hk hv => by
    rw [hg.block k (by simp; omega) (fun e => hv e.symm)]
    exact Below.heap_alloc _ _ _ hk
  have hst : W.heap[g]? = _ := (kk g (by omega) (fun e => by have := hne g e; omega)).trans h.st
  have s3 : ∀ {v : Value} {m : Nat} {ys : List Value}, V.ownsRow B 3 1 v m ys → (W.setCell ⟨g, 2, none⟩ vl').ownsRow B 3 1 v m ys := fun {v m ys} hv => by
    have h1 := mr_apart hv h.lrow (by decide) hg
    exact mr_set h1 (fun e => by have := (h1.lt g e).1; omega) _ _
  have hcell : ∀ k, B ≤ k → (∃ cs f, V.heap[k]? = some (.cells cs 3 f)) → (W.setCell ⟨g, 2, none⟩ vl').heap[k]? = V.heap[k]? := fun k h1 h3 => by
    obtain ⟨cs, f, h3⟩ := h3
    exact (set_heap W g k 2 vl' (by omega)).trans (kk k (Array.getElem?_eq_some_iff.1 h3).1 (mr_other h.lrow h3 (by decide)))
  refine ⟨by simp [World.cell?, hst], by simp [World.frozen?, hst], ?_, ?_, ?_, ?_, fun j h1 h2 => s3 (h.rest j h1 h2), h.apart, s3 h.hand, h.hl, fun j hj => ?_, hlo, by simp [World.setCell]; omega, ?_⟩
  · have h9 : (W.setCell ⟨g, 2, none⟩ vl').heap[g]? = some (.cells (#[vf, vw, vl].setIfInBounds 2 vl') 40 (0, 0)) := by
      simp [World.setCell, Array.getElem?_modify, hst]
    exact h9
  · have h1 : W.ownsRow B 53 1 vf n (rowV xs n) := mr_kept h.free fun k hk => kk k (h.free.lt k hk).2 (fun e => h.fl k e hk)
    exact mr_set h1 (fun e => by have := (h1.lt g e).1; omega) _ _
  · rw [rowV_snoc]
    exact mr_set ho (fun e => by have := (ho.lt g e).1; omega) _ _
  · intro k h3 h4
    rcases hat with h5 | h5
    · exact h.fl k (by rw [← h5]; exact h3) h4
    · rw [h5] at h3
      simp only [Option.some.injEq] at h3
      have := (h.free.lt k h4).2
      omega
  · by_cases e : j = q
    · subst e
      rw [if_pos rfl, hq]
      rcases h.hand.2 with ⟨e1, e2⟩ | ⟨g', cap, cur, e1, hbg, hh, hnc, hcm, hcs, htake⟩
      · exact ⟨none, 0, 0, e1, by omega, .inl rfl⟩
      · refine ⟨_, _, _, e1, hr, .inr ⟨g', rfl, hbg, ?_, ?_, ?_, ?_⟩⟩
        · exact ⟨cur, _, (hcell g' hbg ⟨cur, _, hh⟩).trans hh⟩
        · intro t ht
          rw [World.cell?_of_block (a := ⟨g', t, none⟩) (hcell g' hbg ⟨cur, _, hh⟩)]
          have := h.hand.cells (g := g') (by rw [e1]; rfl) t (bmk i) (by simp [bfull, ht])
          rw [Addr.add_lit] at this
          simpa using this
        · intro a h1 h2 e3
          exact h.hl a h1 h2 g' e3 (by rw [e1]; rfl)
        · exact .inr ⟨rfl, Nat.le_refl _⟩
    · rw [if_neg e]
      refine (h.kept j (by omega)).mono (fun _ _ _ hD => hD) (fun g' r' hB hcs hD => ?_)
      have h8 := hcell g' hB hcs
      exact ⟨by rw [h8]; exact hcs, fun t _ hc => (World.cell?_of_block (a := ⟨g', t, none⟩) h8).trans hc⟩
  · exact mb_set (h.bel.trans ⟨hg.os, hg.tape, hg.output, hWs, fun k hk => kk k (by have := h.bel.size; omega) (fun e => by have := hne k e; omega)⟩) (Nat.le_refl _) _ _
/-- a mark is laid behind the list at hand -/
theorem St3.more {l' : Value} (h : St3 B g n vf vw xs len V0 i q r l vl zs V) (ho : W.ownsRow B 3 1 l' (r + 1) (bfull i r ++ [bmk i])) (hat : (l'.ownBlock = l.ownBlock ∧ (V.alloc (.cells #[bmk i] 3)).grownBy W l.ownBlock) ∨ (l'.ownBlock = some (V.heap.size + 1) ∧ (V.alloc (.cells #[bmk i] 3)).grownBy W none)) :
    St3 B g n vf vw xs len V0 i q (r + 1) l' vl zs W := by
  rw [bfull_snoc] at ho
  have hlo := h.lo
  have hsz := h.siz
  have hg : (V.alloc (.cells #[bmk i] 3)).grownBy W l.ownBlock := by
    rcases hat with h1 | h1
    · exact h1.2
    · exact ⟨h1.2.os, h1.2.tape, h1.2.output, h1.2.size, fun k hk _ => h1.2.block k hk (by simp)⟩
  have hne : ∀ k, l.ownBlock = some k → B ≤ k := fun k e => (h.hand.lt k e).1
  have hWs : V.heap.size ≤ W.heap.size := by have := hg.size; simp at this; omega
  have kk : ∀ k, k < V.heap.size → l.ownBlock ≠ some k → W.heap[k]? = V.heap[k]? := fun k hk hv => by
    rw [hg.block k (by simp; omega) (fun e => hv e.symm)]
    exact Below.heap_alloc _ _ _ hk
  have s3 : ∀ {v : Value} {m : Nat} {ys : List Value}, V.ownsRow B 53 1 v m ys → W.ownsRow B 53 1 v m ys := fun {v m ys} hv => mr_apart hv h.hand (by decide) hg
  have haw : ∀ k, l'.ownBlock = some k → l.ownBlock = some k ∨ k = V.heap.size + 1 := fun k e => by
    rcases hat with h1 | h1
    · exact .inl (by rw [← h1.1]; exact e)
    · rw [h1.1] at e
      simp only [Option.some.injEq] at e
      exact .inr e.symm
  refine ⟨(kk g (by omega) (fun e => by have := hne g e; omega)).trans h.st, s3 h.free, s3 h.lrow, h.fl, fun j h1 h2 => mr_kept (h.rest j h1 h2) fun k hk => kk k ((h.rest j h1 h2).lt k hk).2 (h.hl j h1 h2 k hk), h.apart, ho, fun j h1 h2 k h3 h4 => ?_, fun j hj => ?_, hlo, by omega, h.bel.trans ⟨hg.os, hg.tape, hg.output, hWs, fun k hk => kk k (by have := h.bel.size; omega) (fun e => by have := hne k e; omega)⟩⟩
  · rcases haw k h4 with h5 | h5
    · exact h.hl j h1 h2 k h3 h5
    · have := ((h.rest j h1 h2).lt k h3).2
      omega
  · refine (h.kept j hj).mono (fun g' r' hlt hD => ⟨hD.1, ?_⟩) (fun g' r' hB hcs hD => ?_)
    · by_cases e : l'.ownBlock = some g'
      · rcases haw g' e with h5 | h5
        · rcases hD.2 with h6 | h6
          · exact absurd h5 h6
          · exact .inr ⟨h6.1, by omega⟩
        · omega
      · exact .inl e
    · have hlt : g' < V.heap.size := by
        obtain ⟨cs, f, h7⟩ := hcs
        exact (Array.getElem?_eq_some_iff.1 h7).1
      have hsame : W.heap[g']? = V.heap[g']? → (∃ cs f, W.heap[g']? = some (.cells cs 3 f)) ∧ ∀ t, t < r' → V.cell? ⟨g', t, none⟩ = some (bmk (j / 12)) → W.cell? ⟨g', t, none⟩ = some (bmk (j / 12)) := fun h8 => ⟨by rw [h8]; exact hcs, fun t _ hc => (World.cell?_of_block (a := ⟨g', t, none⟩) h8).trans hc⟩
      by_cases e : l.ownBlock = some g'
      · rcases hat with h1 | h1
        · have e' : l'.ownBlock = some g' := h1.1.trans e
          obtain ⟨cur, hc⟩ := mr_block ho e'
          refine ⟨⟨cur, _, hc⟩, fun t ht _ => ?_⟩
          rcases hD.2 with h6 | h6
          · exact absurd e h6
          · have hrr : r' ≤ r := h6.2
            have := ho.cells (g := g') e' t (bmk i) (by unfold bfull; rw [List.getElem?_replicate, if_pos (by omega)])
            rw [Addr.add_lit, Nat.zero_add] at this
            rw [h6.1]
            exact this
        · refine hsame ?_
          rw [h1.2.block g' (by simp; omega) (by simp)]
          exact Below.heap_alloc _ _ _ hlt
      · exact hsame (kk g' hlt e)
end
end Go.Proofs.Ytlbfnchjbpioeaa

namespace Go.Proofs.Ytlbfnchjbpioeaa
open Go.RowKit Go.Shelf
set_option linter.unusedVariables false
set_option linter.unusedSimpArgs false
theorem wpList_append_one {P : Program} {w : World} {ops : Array Oper} {rest : List Oper} {o : Oper} {a : Act} {Q : Exit → Act → World → Prop} (hgd : o.guard = none) (s x : Operand) (t : TypeId)
    (ho : o.op = .call { callee := .builtin .append, args := #[s, x], argTypes := #[t, t] })
    (base : Nat) (e : TypeId) (i : TypeInfo) (z : Value) (bytes : Nat) (ht : P.underlying t = some (.slice e)) (hi : P.info? e = some i) (hz : i.zero = some z) (hsize : i.size = 1) (hby : i.bytes = bytes) (hzs : z.cells.size = 1)
    (v : Value) (n : Nat) (xs : List Value) (hs : a.eval s = v) (hown : w.ownsRow base e 1 v n xs) (ad : Addr) (u : Value) (hx : a.eval x = .slice (some ad) 1 1) (hnews : ∀ j y, [u][j]? = some y → w.cell? (ad.add j) = some y) (h1 : u.oneCell' = true)
    (h63 : n + 1 ≤ maxLen) (hbytes : (n + 1) * bytes ≤ 140737488355328) (hbase : base ≤ w.heap.size)
    (h : ∀ v' w', w'.ownsRow base e 1 v' (n + 1) (xs ++ [u]) → ((v'.ownBlock = v.ownBlock ∧ w.grownBy w' v.ownBlock) ∨ (v'.ownBlock = some w.heap.size ∧ w.grownBy w' none)) → wpList P ops Q rest (a.put o.dst v') w') :
    wpList P ops Q (o :: rest) a w := by
  refine wpList_plain hgd fun K hK => ?_
  obtain ⟨v', w', hr, h2, h3⟩ := run_append_one (P := P) w base t o.type e i z bytes ht hi hz hsize hby hzs v n xs hown ad u hnews h1 h63 hbytes hbase
  unfold Oper.wp execOp
  simp only [ho, resolve, invoke, builtin, Sem.run_bind, Sem.run_pure, Result.andThen_ok, List.map_toArray, List.map_cons, List.map_nil, hs, hx, hr]
  exact hK _ _ (h v' w' h2 h3)
/-- the free lists, when i of them are written full, and the next one as far as k -/
def cwF (F : Nat → List Nat) (i k j : Nat) : List Value := if j < i then bfull j (F j).length else if j = i then bfull i k ++ (intL (F i)).drop k else intL (F j)
theorem cwF_len (F : Nat → List Nat) (i k j : Nat) (hk : k ≤ (F i).length) : (cwF F i k j).length = (F j).length := by
  unfold cwF
  by_cases h1 : j < i
  · rw [if_pos h1]
    simp [bfull]
  · rw [if_neg h1]
    by_cases h2 : j = i
    · subst h2
      simp [bfull, intL]
      omega
    · rw [if_neg h2]
      simp [intL]
theorem cwF_zero (F : Nat → List Nat) (j : Nat) : cwF F 0 0 j = intL (F j) := by
  unfold cwF
  rw [if_neg (by omega)]
  by_cases h2 : j = 0
  · subst h2
    simp [bfull]
  · rw [if_neg h2]
theorem cwF_row (F : Nat → List Nat) (i j : Nat) : cwF F i (F i).length j = cwF F (i + 1) 0 j := by
  unfold cwF
  by_cases h1 : j < i
  · rw [if_pos h1, if_pos (by omega)]
  · rw [if_neg h1]
    by_cases h2 : j = i
    · subst h2
      rw [if_pos rfl, if_pos (by omega)]
      simp [intL]
    · rw [if_neg h2, if_neg (by omega)]
      by_cases h3 : j = i + 1
      · subst h3
        simp [bfull]
      · rw [if_neg h3]
theorem cwF_next (F : Nat → List Nat) (i k : Nat) (hk : k < (F i).length) (j : Nat) : (if j = i then (cwF F i k i).set k (bmk i) else cwF F i k j) = cwF F i (k + 1) j := by
  by_cases h2 : j = i
  · subst h2
    rw [if_pos rfl]
    unfold cwF
    rw [if_neg (by omega), if_pos rfl, if_neg (by omega), if_pos rfl]
    have hl : (bfull j k).length = k := by simp [bfull]
    rw [List.set_append_right _ _ (by omega), hl, Nat.sub_self, ← bfull_snoc, List.append_assoc]
    congr 1
    have h3 : k < (intL (F j)).length := by simpa [intL] using hk
    rw [List.drop_eq_getElem_cons h3]
    rfl
  · rw [if_neg h2]
    unfold cwF
    by_cases h1 : j < i
    · rw [if_pos h1, if_pos h1]
    · rw [if_neg h1, if_neg h1, if_neg h2, if_neg h2]
theorem cwF_full (F : Nat → List Nat) (n i : Nat) (hi : i < n) : cwF F n 0 i = bfull i (F i).length := by
  unfold cwF
  rw [if_pos hi]
theorem row_some {V : World} {B n : Nat} {e : TypeId} {p : Option Addr} {c : Nat} {f : Nat → Value} (h : V.ownsRow B e 1 (.slice p n c) n (rowV f n)) (hn : 0 < n) : ∃ g, p = some ⟨g, 0, none⟩ ∧ B ≤ g ∧ (Value.slice p n c).ownBlock = some g ∧ ∀ i, i < n → V.cell? ⟨g, i, none⟩ = some (f i) := by
  rcases h.2 with ⟨h1, h2⟩ | ⟨g, cap, cur, h1, hb, hg, _⟩
  · omega
  · cases h1
    refine ⟨g, rfl, hb, rfl, fun i hi => ?_⟩
    have := h.cells (g := g) rfl i (f i) (rowV_get f n i hi)
    rw [Addr.add_lit, Nat.zero_add] at this
    exact this
theorem list_some {V : World} {B n : Nat} {e : TypeId} {p : Option Addr} {c : Nat} {l : List Value} (h : V.ownsRow B e 1 (.slice p n c) n l) (hn : 0 < n) : ∃ g, p = some ⟨g, 0, none⟩ ∧ B ≤ g ∧ (Value.slice p n c).ownBlock = some g ∧ (∃ cs, V.heap[g]? = some (.cells cs e (0, 0))) ∧ ∀ i u, l[i]? = some u → V.cell? ⟨g, i, none⟩ = some u := by
  rcases h.2 with ⟨h1, h2⟩ | ⟨g, cap, cur, h1, hb, hg, _⟩
  · omega
  · cases h1
    refine ⟨g, rfl, hb, rfl, ⟨_, hg⟩, fun i u hi => ?_⟩
    have := h.cells (g := g) rfl i u hi
    rw [Addr.add_lit, Nat.zero_add] at this
    exact this
theorem St1.drewN {B g n : Nat} {vf vw : Value} {xs : Nat → Value} {C : Nat → List Value} {V0 V : World} (h : St1 B g n vf vw xs C V0 V) (e : Nat) : St1 B g n vf vw xs C V0 (V.drewN e) := ⟨h.st, h.free, h.each, h.apart, h.lo, h.siz, h.bel.drewN' e⟩
theorem BookM.st1 {B g n : Nat} {F : Nat → List Nat} {vf vw : Value} {xs ys : Nat → Value} {V : World} (h : BookM B g n F vf vw xs ys V) (hB : B ≤ V.heap.size) : St1 B g n vf vw xs (fun j => cwF F 0 0 j) V V := by
  refine ⟨h.st, h.free.row, fun i hi => ?_, h.free.apart, h.lo, hB, Below.refl _ _⟩
  simp only [cwF_zero]
  have := h.free.each i hi
  simpa [intL] using this
set_option maxRecDepth 100000 in
set_option maxHeartbeats 1000000 in
theorem settles_any (B g n : Nat) (F : Nat → List Nat) (vf vw : Value) (xs ys : Nat → Value) (V : World) (h : BookM B g n F vf vw xs ys V) (hn : n ≤ 1000) (hF : ∀ i, i < n → (F i).length ≤ 64) (hB : B ≤ V.heap.size) :
    Calls Try.prog 16 #[.pointer (some ⟨g, 0, none⟩)] V fun e w' => e = .returned (.bool true) ∧ Below g V w' := by
  obtain ⟨pf, cf, rfl⟩ := mr_shape h.free.row
  obtain ⟨pw, cw, rfl⟩ := mr_shape h.want.row
  have HH := Hid.mk' h
  have HF := Hid.mk' hF
  have HB := Hid.mk' hB
  have c0 : V.cell? ⟨g, 0, none⟩ = some (.slice pf n cf) := by simp [World.cell?, h.st]
  have c1 : V.cell? ⟨g, 1, none⟩ = some (.slice pw n cw) := by simp [World.cell?, h.st]
  have HC0 := Hid.mk' c0
  have HC1 := Hid.mk' c1
  clear h hF hB c0 c1
  go_enter Try.func16, Try.ntmps16
  go_wp2_with fail
  go_loopw [3, 4] (fun iv okv wr => ∃ i : Nat, iv = .int .i64 (i : Int) ∧ i ≤ n ∧ Hid (∃ e, wr = V.drewN e)) (fun iv okv _ => n - (intOf iv).toNat)
  case atStart => exact ⟨0, rfl, by omega, 0, rfl⟩
  case round =>
    obtain ⟨i, rfl, hi, hdr⟩ := hrel
    rename World => wr
    have d0 : wr.cell? ⟨g, 0, none⟩ = some (.slice pf n cf) := by obtain ⟨e, rfl⟩ := hdr.out; exact HC0.out
    by_cases hin : i < n
    · have hinI : (i : Int) < (n : Int) := by omega
      have d1 : wr.cell? ⟨g, 1, none⟩ = some (.slice pw n cw) := by obtain ⟨e, rfl⟩ := hdr.out; exact HC1.out
      obtain ⟨gf, hpf, _, _, hcf⟩ := row_some HH.out.free.row (by omega)
      obtain ⟨gw, hpw, _, _, hcw⟩ := row_some HH.out.want.row (by omega)
      have d2 : wr.cell? ⟨gf, i, none⟩ = some (xs i) := by obtain ⟨e, rfl⟩ := hdr.out; exact hcf i hin
      have d3 : wr.cell? ⟨gw, i, none⟩ = some (ys i) := by obtain ⟨e, rfl⟩ := hdr.out; exact hcw i hin
      have HSM : Hid (∀ e, Calls Try.prog 22 #[xs i, ys i] (wr.drewN e) fun r w' => r = .returned (.bool true) ∧ ∃ m, w' = (wr.drewN e).drewN m) := fun e => by
        obtain ⟨e2, rfl⟩ := hdr.out
        exact sameInts_any B B (xs i) (ys i) (F i) _ (by have := HF.out i hin; omega) (HH.out.free.each i hin) (HH.out.want.each i hin)
      have HDN : Hid (∀ e, ∃ e2, wr.drewN e = V.drewN e2) := fun e => by obtain ⟨e3, rfl⟩ := hdr.out; exact ⟨e3 + e, by rw [World.drewN_drewN]⟩
      subst hpf hpw
      clear hcf hcw
      generalize xs i = x1 at d2 HSM
      generalize ys i = y1 at d3 HSM
      go_wp2_with fail
      go_quiet ((go_at_call 22; exact Calls.quiet_of (HSM.out _)))
      go_wp2
      go_roundw
      case rel => exact ⟨i + 1, by simp, by omega, HDN.out nq⟩
      case measure =>
        simp [intOf]
        omega
    · have e9 : n = i := by omega
      subst e9
      have hinI : ¬ (n : Int) < (n : Int) := by omega
      have HS1 : Hid (St1 B g n (.slice pf n cf) (.slice pw n cw) xs (fun j => cwF F 0 0 j) V wr) := Hid.mk' (by obtain ⟨e, rfl⟩ := hdr.out; exact (HH.out.st1 HB.out).drewN e)
      clear HC0 HC1 hdr
      go_wp2_with fail
      go_loopw [5, 6] (fun iv kv wr => ∃ i : Nat, iv = .int .i64 (i : Int) ∧ i ≤ n ∧ Hid (St1 B g n (.slice pf n cf) (.slice pw n cw) xs (fun j => cwF F i 0 j) V wr)) (fun iv kv _ => n - (intOf iv).toNat)
      case atStart => exact ⟨0, rfl, by omega, HS1⟩
      case round =>
        obtain ⟨i, rfl, hi, hst⟩ := hrel
        rename World => wr
        have d0 : wr.cell? ⟨g, 0, none⟩ = some (.slice pf n cf) := by simp [World.cell?, hst.out.st]
        clear HS1
        by_cases hin : i < n
        · have hinI : (i : Int) < (n : Int) := by omega
          obtain ⟨gf, hpf, _, _, hcf⟩ := row_some hst.out.free (by omega)
          have HX : Hid (∃ p c, xs i = .slice p (F i).length c) := by
            obtain ⟨p, c, h9⟩ := mr_shape (hst.out.each i hin)
            rw [cwF_len F i 0 i (Nat.zero_le _)] at h9
            exact ⟨p, c, h9⟩
          obtain ⟨px, cx, hxx⟩ := HX.out
          obtain ⟨m, hm⟩ : ∃ m, (F i).length = m := ⟨_, rfl⟩
          have hm64 : m ≤ 64 := by rw [← hm]; exact HF.out i hin
          have HXX := Hid.mk' hxx
          have HM := Hid.mk' hm
          rw [hm] at HXX
          subst hpf
          clear hcf HX hxx hm
          go_wp2_with fail
          go_loopw [6] (fun kv wx => ∃ k : Nat, kv = .int .i64 (k : Int) ∧ k ≤ m ∧ Hid (St1 B g n (.slice (some ⟨gf, 0, none⟩) n cf) (.slice pw n cw) xs (fun j => cwF F i k j) V wx)) (fun kv _ => m - (intOf kv).toNat)
          case atStart => exact ⟨0, rfl, by omega, hst⟩
          case round =>
            obtain ⟨k, rfl, hk, hsx⟩ := hrel
            rename World => wx
            have x0 : wx.cell? ⟨g, 0, none⟩ = some (.slice (some ⟨gf, 0, none⟩) n cf) := by simp [World.cell?, hsx.out.st]
            have x1 : wx.cell? ⟨gf, i, none⟩ = some (.slice px m cx) := by
              obtain ⟨gf', hpf', _, _, hcf'⟩ := row_some hsx.out.free (by omega)
              cases hpf'
              rw [hcf' i hin, HXX.out]
            clear d0
            by_cases hkm : k < m
            · have hkI : (k : Int) < (m : Int) := by omega
              have x2 : wx.cell? ⟨g, 2, none⟩ = some (.slice none 0 0) := by simp [World.cell?, hsx.out.st]
              have hrow := hsx.out.each i hin
              rw [cwF_len F i k i (by rw [HM.out]; exact hk), HM.out, HXX.out] at hrow
              obtain ⟨gx, rfl, _, hob, ⟨cs9, hcs9⟩, hcx⟩ := list_some hrow (by omega)
              obtain ⟨u0, hu0⟩ : ∃ u0, (cwF F i k i)[k]? = some u0 := ⟨_, List.getElem?_eq_getElem (by rw [cwF_len F i k i (by rw [HM.out]; exact hk), HM.out]; exact hkm)⟩
              have x3 := hcx k u0 hu0
              have x4 : wx.frozen? ⟨gx, k, none⟩ = false := by simp [World.frozen?, hcs9]
              have HPUT : Hid (∀ e, St1 B g n (.slice (some ⟨gf, 0, none⟩) n cf) (.slice pw n cw) xs (fun j => cwF F i (k + 1) j) V ((wx.drewN e).setCell ⟨gx, k, none⟩ (.int .i64 (-100 - (i : Int))))) := fun e => by
                have h9 := (hsx.out.drewN e).put (k := k) hin (by rw [HXX.out]; exact hob) (bmk i)
                simp only [cwF_next F i k (by rw [HM.out]; exact hkm)] at h9
                exact h9
              clear hrow hob hcs9 hcx hu0 hsx
              go_upto_region 13 with fail
              go_region
              all_goals
                go_wp2_with fail
                go_roundw
                case rel => exact ⟨k + 1, by simp, by omega, HPUT.out 1⟩
                case measure =>
                  simp [intOf]
                  omega
            · have e9 : m = k := by omega
              subst e9
              have hkI : ¬ (m : Int) < (m : Int) := by omega
              have HN : Hid (St1 B g n (.slice (some ⟨gf, 0, none⟩) n cf) (.slice pw n cw) xs (fun j => cwF F (i + 1) 0 j) V wx) := Hid.mk' (by
                have h9 := hsx.out
                simp only [← HM.out, cwF_row] at h9
                exact h9)
              clear hsx
              go_wp2_with fail
              go_roundw
              case rel => exact ⟨i + 1, by simp, by omega, HN⟩
              case measure =>
                simp [intOf]
                omega
        · have e9 : n = i := by omega
          subst e9
          have hinI : ¬ (n : Int) < (n : Int) := by omega
          have HS2 : Hid (St2 B g n (.slice pf n cf) (.slice pw n cw) xs (fun j => (F j).length) V 0 (.slice none 0 0) (fun _ => .slice none 0 0) wr) := Hid.mk' (hst.out.settled (fun j hj => cwF_full F n j hj))
          have HLEN : Hid (∀ j, j < n → (fun j => (F j).length) j ≤ 64) := HF
          generalize (fun j => (F j).length) = len at HS2 HLEN
          obtain ⟨i1, j1, j2, j3, j4⟩ := info_parts infoSl
          have HJ := Hid.mk' (And.intro j1 (And.intro j2 (And.intro j3 j4)))
          obtain ⟨i3, q1, q2, q3, q4⟩ := info_parts infoI
          have HQ := Hid.mk' (And.intro q1 (And.intro q2 (And.intro q3 q4)))
          clear hst j1 j2 j3 j4 q1 q2 q3 q4
          go_wp2_with fail
          clear d0
          go_loopw [7, 8, 9, 10] (fun iv lv mv kv wr => ∃ (i : Nat) (pl : Option Addr) (cl : Nat) (zs : Nat → Value), iv = .int .i64 (i : Int) ∧ i ≤ n ∧ Hid (St2 B g n (.slice pf n cf) (.slice pw n cw) xs len V i (.slice pl (12 * i) cl) zs wr)) (fun iv lv mv kv _ => n - (intOf iv).toNat)
          case atStart => exact ⟨0, none, 0, fun _ => .slice none 0 0, rfl, by omega, HS2⟩
          case round =>
            obtain ⟨i, pl, cl, zs, rfl, hi, hst⟩ := hrel
            rename World => wr
            clear HS2
            have d0 : wr.cell? ⟨g, 0, none⟩ = some (.slice pf n cf) := by simp [World.cell?, hst.out.st]
            by_cases hin : i < n
            · have hinI : (i : Int) < (n : Int) := by omega
              obtain ⟨gf, hpf, _, _, hcf⟩ := row_some hst.out.free (by omega)
              obtain ⟨px, cx, hxx⟩ := mr_shape (hst.out.rest i (Nat.le_refl _) hin)
              obtain ⟨m, hm⟩ : ∃ m, len i = m := ⟨_, rfl⟩
              have hm64 : m ≤ 64 := by rw [← hm]; exact HLEN.out i hin
              have HS3 := Hid.mk' (hst.out.take hin)
              rw [hm] at hxx HS3
              have d1 := hcf i hin
              rw [hxx] at d1 HS3
              have d2 : wr.cell? ⟨g, 2, none⟩ = some (.slice pl (12 * i) cl) := by simp [World.cell?, hst.out.st]
              obtain ⟨q, hq⟩ : ∃ q, 12 * i = q := ⟨_, rfl⟩
              rw [hq] at d2 HS3
              have hdv : Int.tdiv (q : Int) 12 = (i : Int) := by
                rw [Int.tdiv_eq_ediv_of_nonneg (by omega)]
                omega
              have HQE := Hid.mk' hq
              subst hpf
              clear hst hcf hxx hm hq
              go_wp2_with fail
              clear d0 d1 d2
              go_loopw [8, 10] (fun lv kv wx => ∃ (k r : Nat) (p : Option Addr) (c : Nat) (pl : Option Addr) (cl : Nat) (zs : Nat → Value), lv = .slice p r c ∧ kv = .int .i64 (k : Int) ∧ k ≤ 12 ∧ r ≤ 64 + k ∧ Hid (St3 B g n (.slice (some ⟨gf, 0, none⟩) n cf) (.slice pw n cw) xs len V i (q + k) r (.slice p r c) (.slice pl (q + k) cl) zs wx)) (fun lv kv _ => 12 - (intOf kv).toNat)
              case atStart => exact ⟨0, m, px, cx, pl, cl, zs, rfl, rfl, by omega, by omega, HS3⟩
              case round =>
                obtain ⟨k, r, p, c, pl, cl, zs, rfl, rfl, hk, hr, hst⟩ := hrel
                rename World => wx
                clear HS3
                by_cases hk12 : k < 12
                · have hkI : (k : Int) < 12 := by omega
                  have e2 : wx.cell? ⟨g, 2, none⟩ = some (.slice pl (q + k) cl) := by simp [World.cell?, hst.out.st]
                  have hsz := hst.out.siz
                  have HKE : Hid (∀ (W : World) (vl' : Value), W.ownsRow B 53 1 vl' (q + k + 1) (rowV zs (q + k) ++ [.slice p r c]) → (wx.alloc (.cells #[.slice p r c] 53)).grownBy W (Value.slice pl (q + k) cl).ownBlock → (vl'.ownBlock = (Value.slice pl (q + k) cl).ownBlock ∨ vl'.ownBlock = some (wx.heap.size + 1)) → W.cell? ⟨g, 2, none⟩ = some (.slice pl (q + k) cl) ∧ W.frozen? ⟨g, 2, none⟩ = false ∧ St3 B g n (.slice (some ⟨gf, 0, none⟩) n cf) (.slice pw n cw) xs len V i (q + k + 1) r (.slice p r c) vl' (fun j => if j = q + k then .slice p r c else zs j) (W.setCell ⟨g, 2, none⟩ vl')) := fun W vl' h1 h2 h3 => hst.out.keep (by have := HQE.out; omega) (by omega) h1 h2 h3
                  obtain ⟨qk, hqk⟩ : ∃ qk, q + k = qk := ⟨_, rfl⟩
                  have HQK := Hid.mk' hqk
                  rw [hqk] at e2 HKE hst
                  have hqk2 : qk ≤ 12 * n + 12 := by have := HQE.out; omega
                  clear hqk
                  go_upto_region 23 with (first
                    | (at_builtin; refine wpList_append_own_at _ rfl _ _ 38 rfl B 53 i1 (.slice none 0 0) 1 24 Try.underlying38 HJ.out.1 HJ.out.2.1 HJ.out.2.2.1 HJ.out.2.2.2 rfl (by decide) _ _ _ rfl (hst.out.lrow.alloc _) ⟨wx.heap.size, 0, none⟩ 1 1 [.slice p r c] rfl rfl (cell_one_new _ _ _) (by intro x hx; simp at hx; subst hx; rfl) (by unfold maxLen; omega) (by omega) (by simp only [World.size_alloc]; omega) ?_; intro v6 w6 ho6 hg6 _ hat6; obtain ⟨p6, c6, rfl⟩ := mr_shape ho6; obtain ⟨d0, d1, hb6⟩ := HKE.out w6 _ ho6 hg6 (by rw [World.size_alloc] at hat6; exact hat6); have HB6 := Hid.mk' hb6; clear ho6 hg6 hat6 hb6)
                    | fail)
                  obtain ⟨Z, hZ⟩ : ∃ Z, w6.setCell ⟨g, 2, none⟩ (.slice p6 (qk + 1) c6) = Z := ⟨_, rfl⟩
                  rw [hZ] at HB6 ⊢
                  have hszZ := HB6.out.siz
                  clear hZ d0 d1 e2 HKE hst
                  go_wp2_with (first
                    | (at_builtin; refine wpList_append_one rfl _ _ 53 rfl B 3 i3 (.int .i64 0) 8 Try.underlying53 HQ.out.1 HQ.out.2.1 HQ.out.2.2.1 HQ.out.2.2.2 rfl _ _ _ rfl (HB6.out.hand.alloc _) ⟨Z.heap.size, 0, none⟩ (.int .i64 (-100 - (i : Int))) rfl (cell_one_new _ _ _) rfl (by unfold maxLen; omega) (by omega) (by simp only [World.size_alloc]; omega) ?_; intro v7 w7 ho7 hat7; obtain ⟨p7, c7, rfl⟩ := mr_shape ho7; have HB7 := Hid.mk' (HB6.out.more ho7 (by rw [World.size_alloc] at hat7; exact hat7)); clear ho7 hat7)
                    | fail)
                  go_roundw
                  case rel => exact ⟨k + 1, r + 1, p7, c7, p6, c6, _, rfl, by simp, by omega, by omega, by rw [show q + (k + 1) = qk + 1 by have := HQK.out; omega]; exact HB7⟩
                  case measure =>
                    simp [intOf]
                    omega
                · have e9 : k = 12 := by omega
                  subst e9
                  have HN : Hid (St2 B g n (.slice (some ⟨gf, 0, none⟩) n cf) (.slice pw n cw) xs len V (i + 1) (.slice pl (12 * (i + 1)) cl) zs wx) := Hid.mk' (by
                    have h9 := hst.out
                    rw [show q + 12 = 12 * (i + 1) by have := HQE.out; omega] at h9
                    exact h9.leave)
                  clear hst
                  go_wp2_with fail
                  go_roundw
                  case rel => exact ⟨i + 1, pl, cl, zs, by simp, by omega, HN⟩
                  case measure =>
                    simp [intOf]
                    omega
            · have e9 : n = i := by omega
              subst e9
              have hinI : ¬ (n : Int) < (n : Int) := by omega
              obtain ⟨q, hq⟩ : ∃ q, 12 * n = q := ⟨_, rfl⟩
              rw [hq] at hst
              have hq2 : q ≤ 12000 := by omega
              have s0 := hst.out.st
              have f0 : wr.frozen? ⟨g, 0, none⟩ = false := by simp [World.frozen?, s0]
              have s1 : (wr.setCell ⟨g, 0, none⟩ (.slice none 0 0)).heap[g]? = some (.cells (#[.slice pf n cf, .slice pw n cw, .slice pl q cl].setIfInBounds 0 (.slice none 0 0)) 40 (0, 0)) := by
                simp [World.setCell, Array.getElem?_modify, s0]
              have d1 : (wr.setCell ⟨g, 0, none⟩ (.slice none 0 0)).cell? ⟨g, 1, none⟩ = some (.slice pw n cw) := by simp [World.cell?, s1]
              have f1 : (wr.setCell ⟨g, 0, none⟩ (.slice none 0 0)).frozen? ⟨g, 1, none⟩ = false := by simp [World.frozen?, s1]
              obtain ⟨Y, hY⟩ : ∃ Y, (wr.setCell ⟨g, 0, none⟩ (.slice none 0 0)).setCell ⟨g, 1, none⟩ (.slice none 0 0) = Y := ⟨_, rfl⟩
              have s2 : Y.heap[g]? = some (.cells ((#[.slice pf n cf, .slice pw n cw, .slice pl q cl].setIfInBounds 0 (.slice none 0 0)).setIfInBounds 1 (.slice none 0 0)) 40 (0, 0)) := by
                rw [← hY]
                simp [World.setCell, Array.getElem?_modify, s0]
              have d2 : Y.cell? ⟨g, 2, none⟩ = some (.slice pl q cl) := by simp [World.cell?, s2]
              have hlo := hst.out.lo
              have kY : ∀ k, B ≤ k → Y.heap[k]? = wr.heap[k]? := fun k hk => by
                rw [← hY, set_heap _ g k 1 _ (by omega), set_heap _ g k 0 _ (by omega)]
              have HROW : Hid (Y.ownsRow B 53 1 (.slice pl q cl) q (rowV zs q)) := Hid.mk' (by have h9 := hst.out.lrow; rw [hq] at h9; exact mr_kept h9 fun k hk => kY k (h9.lt k hk).1)
              have HKP : Hid (∀ j, j < q → Kp B Y (bmk (j / 12)) (zs j) (fun _ _ => True)) := fun j hj => (hst.out.kept j (by omega)).mono (fun _ _ _ _ => trivial) (fun g' r' hB hcs _ => ⟨by rw [kY g' hB]; exact hcs, fun t _ hc => (World.cell?_of_block (a := ⟨g', t, none⟩) (kY g' hB)).trans hc⟩)
              have HBY : Hid (Below g V Y) := Hid.mk' (by rw [← hY]; exact mb_set (mb_set hst.out.bel (Nat.le_refl _) _ _) (Nat.le_refl _) _ _)
              clear hst s0 s1 s2 kY hq
              go_wp2_with fail
              clear d0 d1 f0 f1 hY
              go_loopw [11, 12] (fun jv tv wy => ∃ j : Nat, jv = .int .i64 (j : Int) ∧ j ≤ q ∧ wy = Y) (fun jv tv _ => q - (intOf jv).toNat)
              case atStart => exact ⟨0, rfl, by omega, rfl⟩
              case round =>
                obtain ⟨j, rfl, hj, rfl⟩ := hrel
                rename World => Y
                by_cases hjq : j < q
                · have hjI : (j : Int) < (q : Int) := by omega
                  obtain ⟨gl, hpl, _, _, hcl⟩ := row_some HROW.out (by omega)
                  obtain ⟨p, c, r, hz, hr, hor⟩ := HKP.out j hjq
                  have e3 := hcl j hjq
                  rw [hz] at e3
                  have HOR := Hid.mk' hor
                  obtain ⟨d, hd⟩ : ∃ d, j / 12 = d := ⟨_, rfl⟩
                  have hdv : Int.tdiv (j : Int) 12 = (d : Int) := by
                    rw [Int.tdiv_eq_ediv_of_nonneg (by omega)]
                    omega
                  have hdb : d ≤ 1000 := by omega
                  rw [hd] at HOR
                  subst hpl
                  clear hcl hz hor hd HROW HKP
                  go_wp2_with fail
                  go_loopw [12] (fun tv wz => ∃ t : Nat, tv = .int .i64 (t : Int) ∧ t ≤ r ∧ wz = Y) (fun tv _ => r - (intOf tv).toNat)
                  case atStart => exact ⟨0, rfl, by omega, rfl⟩
                  case round =>
                    obtain ⟨t, rfl, ht, rfl⟩ := hrel
                    rename World => Y
                    by_cases htr : t < r
                    · have htI : (t : Int) < (r : Int) := by omega
                      rcases HOR.out with h0 | ⟨gz, hpz, _, _, hcz, _⟩
                      · omega
                      · have e4 : Y.cell? ⟨gz, t, none⟩ = some (.int .i64 (-100 - (d : Int))) := hcz t htr
                        have hnn : ((-100 - (d : Int)) != (-100 - (d : Int))) = false := by simp
                        subst hpz
                        clear hcz
                        go_wp2_with fail
                        go_roundw
                        case rel => exact ⟨t + 1, by simp, by omega, trivial⟩
                        case measure =>
                          simp [intOf]
                          omega
                    · have e9 : r = t := by omega
                      subst e9
                      have htI : ¬ (r : Int) < (r : Int) := by omega
                      go_wp2_with fail
                      go_roundw
                      case rel => exact ⟨j + 1, by simp, by omega, trivial⟩
                      case measure =>
                        simp [intOf]
                        omega
                · have e9 : q = j := by omega
                  subst e9
                  have hjI : ¬ (q : Int) < (q : Int) := by omega
                  go_wp2_with fail
                  go_ret
                  exact ⟨rfl, HBY.out⟩
end Go.Proofs.Ytlbfnchjbpioeaa

namespace Go.Proofs.Ytlbfnchjbpioeaa
open Go.RowKit Go.Shelf BigFrame
set_option linter.unusedVariables false
set_option linter.unusedSimpArgs false
attribute [local go_sem] Oper.semAt_some
def pkN (c n : Int) : Nat := ((if c < 0 then -(c + 1) else c) % n).toNat
theorem pkN_lt (c n : Int) (h0 : 0 < n) : ((pkN c n : Nat) : Int) < n := by
  unfold pkN
  have h1 := Int.emod_nonneg (if c < 0 then -(c + 1) else c) (show n ≠ 0 by omega)
  have h2 := Int.emod_lt_of_pos (if c < 0 then -(c + 1) else c) h0
  omega
theorem ret_i64' {a b : Int} (h : a = b) : Ending.returned (.int .i64 a) = .returned (.int .i64 b) := by rw [h]
set_option maxHeartbeats 400000 in
theorem pick_is (c n : Int) (w : World) (h0 : 0 < n) (hn : n ≤ 9223372036854775807) (hl : -9223372036854775808 ≤ c) (hh : c ≤ 9223372036854775807) :
    Calls Try.prog 14 #[.int .i64 c, .int .i64 n] w fun e w' => e = .returned (.int .i64 (pkN c n : Int)) ∧ w' = w := by
  unfold pkN
  by_cases hc : c < 0
  · have h1 : 0 ≤ -(c + 1) % n := Int.emod_nonneg _ (by omega)
    have h2 : -(c + 1) % n < n := Int.emod_lt_of_pos _ h0
    have h3 : ¬ n = 0 := by omega
    rw [if_pos hc]
    go_enter Try.func14, Try.ntmps14
    go_wp2
    go_ret
    refine ⟨ret_i64' ?_, rfl⟩
    rw [← Int.neg_tmod, Int.tmod_eq_emod_of_nonneg (by omega)]
    omega
  · have h1 : 0 ≤ c % n := Int.emod_nonneg _ (by omega)
    have h2 : c % n < n := Int.emod_lt_of_pos _ h0
    have h3 : ¬ n = 0 := by omega
    rw [if_neg hc]
    go_enter Try.func14, Try.ntmps14
    go_wp2
    go_ret
    refine ⟨ret_i64' ?_, rfl⟩
    omega
/-- a set of the program's and the document's of it, ahead of the book -/
structure AnsW (g : Nat) (L : List ByteArray) (fold : Bool) (sb rg : Nat) (w1 : World) : Prop where
  sz : w1.heap.size = g
  many : ∃ B, ManyM B sb (Mn.wds fold L) fold w1
  ref : ∃ B n q c, B ≤ w1.heap.size ∧ RefM B rg n fold L q c w1 w1
  good : Mn.Good fold L
def BkW (B g n : Nat) (V : World) : Prop := ∃ F vf vw xs ys, BookM B g n F vf vw xs ys V ∧ ∀ i, i < n → (F i).length ≤ 64
theorem BkW.keep {B g n : Nat} {V V' : World} (h : BkW B g n V) (hb : Below V.heap.size V V') : BkW B g n V' := by
  obtain ⟨F, vf, vw, xs, ys, h1, h2⟩ := h
  exact ⟨F, vf, vw, xs, ys, h1.keep hb, h2⟩
section
variable {g : Nat} {L : List ByteArray} {fold : Bool} {sb rg : Nat} {w1 V : World}
theorem AnsW.manyV (h : AnsW g L fold sb rg w1) (hV : Below g w1 V) : ∃ B, ManyM B sb (Mn.wds fold L) fold V := by
  obtain ⟨B, hB⟩ := h.many
  exact ⟨B, hB.keep (by rw [h.sz]; exact hV)⟩
theorem AnsW.refV (h : AnsW g L fold sb rg w1) (hV : Below g w1 V) : ∃ B n q c, RefM B rg n fold L q c w1 V := by
  obtain ⟨B, n, q, c, hB, hR⟩ := h.ref
  exact ⟨B, n, q, c, hR.keep hB (by rw [h.sz]; exact hV)⟩
end
theorem own_low {V : World} {B B' n s : Nat} {e : TypeId} {v : Value} {xs : List Value} (h : V.ownsRow B e s v n xs) (hB : B' ≤ B) : V.ownsRow B' e s v n xs := by
  refine ⟨h.1, h.2.imp id ?_⟩
  rintro ⟨g, cap, cur, h1, h2, h3⟩
  exact ⟨g, cap, cur, h1, by omega, h3⟩
theorem hasL_le (W : List (List Nat)) (T : List Nat) : (Mn.hasL W T).length ≤ 64 := by
  unfold Mn.hasL
  have := List.length_filter_le (fun j => Mn.seen (Mn.allF W T) j) (List.range 64)
  simpa using this
def BkN (B g n N : Nat) (V : World) : Prop := ∃ F vf vw xs ys, BookM B g n F vf vw xs ys V ∧ (∀ i, i < n → (F i).length ≤ 64) ∧ ∀ i, i < n → ∀ k, (xs i).ownBlock = some k → k < N
theorem BkW.here {B g n : Nat} {V V' : World} (h : BkW B g n V) (hb : Below V.heap.size V V') : BkN B g n V.heap.size V' := by
  obtain ⟨F, vf, vw, xs, ys, h1, h2⟩ := h
  exact ⟨F, vf, vw, xs, ys, h1.keep hb, h2, fun i hi k e => ((h1.free.each i hi).lt k e).2⟩
theorem BkN.takes {B g n b7 N : Nat} {V : World} {f : List Nat} {u wv : Value} (h : BkN B g n N V) (hu : V.ownsRow N 3 1 u f.length (intL f)) (hBN : B ≤ N) (hw : V.ownsRow b7 3 1 wv f.length (intL f)) (hn : n ≤ 1000) (hf : f.length ≤ 64) (hB : B ≤ V.heap.size) :
    Calls Try.prog 30 #[.pointer (some ⟨g, 0, none⟩), u, wv] V fun e w' => e = .returned (.tuple #[]) ∧ BkW B g (n + 1) w' ∧ Below g V w' ∧ (∀ k cs t f, V.heap[k]? = some (.cells cs t f) → t ≠ 53 → k ≠ g → w'.heap[k]? = V.heap[k]?) := by
  obtain ⟨F, vf, vw, xs, ys, h1, h2, h3⟩ := h
  refine (takes_any B g n b7 F vf vw u wv xs ys f V h1 (own_low hu hBN) (fun i hi k e1 e2 => ?_) hw hn (by omega) hB).mono ?_
  · have := h3 i hi k e1
    have := (hu.lt k e2).1
    omega
  · rintro e w' ⟨rfl, ⟨vf', vw', ys', h3⟩, h4, h5⟩
    refine ⟨rfl, ⟨_, _, _, _, _, h3, fun i hi => ?_⟩, h4, h5⟩
    by_cases e : i = n
    · simp only [e, if_true]
      exact hf
    · simp only [e, if_false]
      exact h2 i (by omega)
/-- what answers knows: the set, the document's, the book, the two boxes of its own -/
structure AnJ (B g n b : Nat) (L : List ByteArray) (fold : Bool) (sb rg : Nat) (w1 V : World) (t : ByteArray) (frm kind : Int) (X : World) : Prop where
  set : AnsW g L fold sb rg w1
  bel0 : Below g w1 X
  book : BkW B g n X
  bel : Below g V X
  siz : b + 2 ≤ X.heap.size
  box : X.heap[b]? = some (.cells #[.string t, .int .i64 frm, .int .i64 kind] 43 (0, 0))
  res : X.heap[b + 1]? = some (.cells #[.bool false] 4 (0, 0))
  lo : g < b
  hB : B ≤ b
section
variable {B g n b : Nat} {L : List ByteArray} {fold : Bool} {sb rg : Nat} {w1 V : World} {t : ByteArray} {frm kind : Int} {X Y : World}
theorem AnJ.keep (h : AnJ B g n b L fold sb rg w1 V t frm kind X) (hb : Below X.heap.size X Y) : AnJ B g n b L fold sb rg w1 V t frm kind Y := by
  have hs := h.siz
  have hl := h.lo
  have hg : Below g X Y := ⟨hb.os, hb.tape, hb.output, hb.size, fun k hk => hb.block k (by omega)⟩
  exact ⟨h.set, h.bel0.trans hg, h.book.keep hb, h.bel.trans hg, Nat.le_trans hs hb.size, (hb.block b (by omega)).trans h.box, (hb.block (b + 1) (by omega)).trans h.res, h.lo, h.hB⟩
theorem AnJ.taken (h : AnJ B g n b L fold sb rg w1 V t frm kind X) (hk : BkW B g (n + 1) Y) (hb : Below g X Y) (ho : ∀ k cs t f, X.heap[k]? = some (.cells cs t f) → t ≠ 53 → k ≠ g → Y.heap[k]? = X.heap[k]?) : AnJ B g (n + 1) b L fold sb rg w1 V t frm kind Y := by
  have hl := h.lo
  exact ⟨h.set, h.bel0.trans hb, hk, h.bel.trans hb, Nat.le_trans h.siz hb.size, (ho _ _ _ _ h.box (by decide) (by omega)).trans h.box, (ho _ _ _ _ h.res (by decide) (by omega)).trans h.res, h.lo, h.hB⟩
theorem AnJ.txt (h : AnJ B g n b L fold sb rg w1 V t frm kind X) : X.cell? ⟨b, 0, none⟩ = some (.string t) := by simp [World.cell?, h.box]
theorem AnJ.frm_ (h : AnJ B g n b L fold sb rg w1 V t frm kind X) : X.cell? ⟨b, 1, none⟩ = some (.int .i64 frm) := by simp [World.cell?, h.box]
theorem AnJ.kind_ (h : AnJ B g n b L fold sb rg w1 V t frm kind X) : X.cell? ⟨b, 2, none⟩ = some (.int .i64 kind) := by simp [World.cell?, h.box]
theorem AnJ.cres (h : AnJ B g n b L fold sb rg w1 V t frm kind X) : X.cell? ⟨b + 1, 0, none⟩ = some (.bool false) ∧ X.frozen? ⟨b + 1, 0, none⟩ = false := ⟨by simp [World.cell?, h.res], by simp [World.frozen?, h.res]⟩
theorem AnJ.start {vf : Value} (hA : AnsW g L fold sb rg w1) (h0 : Below g w1 V) (hk : BkW B g n V) (hB : B ≤ V.heap.size) (hg : g < V.heap.size) (hb : V.heap.size = b) : AnJ B g n b L fold sb rg w1 V t frm kind ((V.alloc (.cells #[.string t, .int .i64 frm, .int .i64 kind] 43)).alloc (.cells #[.bool false] 4)) := by
  have hb1 : Below V.heap.size V ((V.alloc (.cells #[.string t, .int .i64 frm, .int .i64 kind] 43)).alloc (.cells #[.bool false] 4)) := ((Below.refl _ V).alloc (Nat.le_refl _) _).alloc (by simp) _
  have hg1 : Below g V ((V.alloc (.cells #[.string t, .int .i64 frm, .int .i64 kind] 43)).alloc (.cells #[.bool false] 4)) := ⟨hb1.os, hb1.tape, hb1.output, hb1.size, fun k hk => hb1.block k (by omega)⟩
  refine ⟨hA, h0.trans hg1, hk.keep hb1, hg1, by simp; omega, ?_, ?_, by omega, by omega⟩
  · rw [Below.heap_alloc _ _ _ (by simp; omega), ← hb]
    exact heap_alloc_new V _
  · have := heap_alloc_new (V.alloc (.cells #[.string t, .int .i64 frm, .int .i64 kind] 43)) (.cells #[.bool false] 4)
    rw [World.size_alloc, hb] at this
    exact this
theorem AnJ.done (h : AnJ B g n b L fold sb rg w1 V t frm kind X) (u : Value) : BkW B g n (X.setCell ⟨b + 1, 0, none⟩ u) ∧ Below g V (X.setCell ⟨b + 1, 0, none⟩ u) ∧ (X.setCell ⟨b + 1, 0, none⟩ u).cell? ⟨b + 1, 0, none⟩ = some u := by
  have hl := h.lo
  have hB := h.hB
  obtain ⟨F, vf, vw, xs, ys, h1, h2⟩ := h.book
  refine ⟨⟨F, vf, vw, xs, ys, ⟨(set_heap X (b + 1) g 0 u (by omega)).trans h1.st, ?_, ?_, h1.away, h1.lo⟩, h2⟩, mb_set h.bel (by omega) _ _, one_cell (one_set h.res)⟩
  · refine ⟨mr_set h1.free.row (mr_other h1.free.row h.res (by decide)) _ _, fun i hi => mr_set (h1.free.each i hi) (mr_other (h1.free.each i hi) h.res (by decide)) _ _, h1.free.apart⟩
  · refine ⟨mr_set h1.want.row (mr_other h1.want.row h.res (by decide)) _ _, fun i hi => mr_set (h1.want.each i hi) (mr_other (h1.want.each i hi) h.res (by decide)) _ _, h1.want.apart⟩
theorem AnJ.refHas (h : AnJ B g n b L fold sb rg w1 V t frm kind X) (ht : t.size ≤ 16777216) : Calls Try.prog 29 #[.pointer (some ⟨rg, 0, none⟩), .string t] X fun e w' => ∃ v, e = .returned v ∧ w'.ownsRow X.heap.size 3 1 v (Mn.hasL (Mn.wds fold L) (tx fold t)).length (intL (Mn.hasL (Mn.wds fold L) (tx fold t))) ∧ AnJ B g n b L fold sb rg w1 V t frm kind w' := by
  obtain ⟨B1, n1, q1, c1, hR⟩ := h.set.refV h.bel0
  refine (ref_has t hR h.set.good (by omega)).mono ?_
  rintro e w' ⟨v, rfl, h1, h2⟩
  exact ⟨v, rfl, h1, h.keep h2⟩
theorem AnJ.has {U : Nat} {v0 : Value} {m0 : Nat} {ys : List Value} (h : AnJ B g n b L fold sb rg w1 V t frm kind X) (ht : t.size ≤ 16777216) (hv : X.ownsRow U 3 1 v0 m0 ys) : Calls Try.prog 23 #[.pointer (some ⟨sb, 0, none⟩), .string t] X fun e w' => ∃ v, e = .returned v ∧ w'.ownsRow X.heap.size 3 1 v (Mn.hasL (Mn.wds fold L) (tx fold t)).length (intL (Mn.hasL (Mn.wds fold L) (tx fold t))) ∧ AnJ B g n b L fold sb rg w1 V t frm kind w' ∧ BkN B g n X.heap.size w' ∧ w'.ownsRow U 3 1 v0 m0 ys ∧ X.heap.size ≤ w'.heap.size := by
  obtain ⟨B1, hM⟩ := h.set.manyV h.bel0
  refine (has_any B1 sb _ fold t X hM (Wok.of h.set.good) (by omega)).mono ?_
  rintro e w' ⟨v, rfl, h1, h2⟩
  exact ⟨v, rfl, h1, h.keep h2, h.book.here h2, mr_kept hv fun k hk => h2.block k (hv.lt k hk).2, h2.size⟩
theorem AnJ.takes {N U : Nat} {u wv : Value} {f : List Nat} (h : AnJ B g n b L fold sb rg w1 V t frm kind X) (hN : BkN B g n N X) (hu : X.ownsRow N 3 1 u f.length (intL f)) (hBN : b ≤ N) (hw : X.ownsRow U 3 1 wv f.length (intL f)) (hU : b ≤ U) (hn : n ≤ 1000) (hf : f.length ≤ 64) :
    Calls Try.prog 30 #[.pointer (some ⟨g, 0, none⟩), u, wv] X fun e w' => e = .returned (.tuple #[]) ∧ AnJ B g (n + 1) b L fold sb rg w1 V t frm kind w' ∧ w'.ownsRow U 3 1 wv f.length (intL f) := by
  have hs := h.siz
  have hB := h.hB
  have hl := h.lo
  refine (hN.takes hu (by omega) hw hn hf (by omega)).mono ?_
  rintro e w' ⟨rfl, h1, h2, h3⟩
  refine ⟨rfl, h.taken h1 h2 h3, mr_kept hw fun k hk => ?_⟩
  obtain ⟨cur, hc⟩ := mr_block hw hk
  exact h3 k cur 3 _ hc (by decide) (by have := (hw.lt k hk).1; omega)
end
set_option maxRecDepth 100000 in
set_option maxHeartbeats 1000000 in
theorem ans0 (B g n sb rg : Nat) (L : List ByteArray) (fold : Bool) (w1 V : World) (t : ByteArray) (frm kind leave : Int) (hA : AnsW g L fold sb rg w1) (h0 : Below g w1 V) (hk : BkW B g n V) (hB : B ≤ V.heap.size) (hg : g < V.heap.size) (hn : n ≤ 900) (ht : t.size ≤ 16777216) (hk1 : -9223372036854775808 ≤ kind) (hk2 : kind ≤ 9223372036854775807) (hp : pkN kind 4 = 0) :
    Calls Try.prog 15 #[.pointer (some ⟨g, 0, none⟩), .pointer (some ⟨sb, 0, none⟩), .pointer (some ⟨rg, 0, none⟩), .agg #[.string t, .int .i64 frm, .int .i64 kind], .int .i64 leave] V fun e w' => e = .returned (.bool true) ∧ (∃ n', n' ≤ n + 2 ∧ BkW B g n' w') ∧ Below g V w' := by
  refine (callsIn_wide (n := 6)).1 ?_
  obtain ⟨b, hb⟩ : ∃ b, V.heap.size = b := ⟨_, rfl⟩
  have HJ0 := Hid.mk' (AnJ.start (t := t) (frm := frm) (kind := kind) (vf := .bool true) hA h0 hk hB hg hb)
  have HPK := Hid.mk' (fun w => pick_is kind 4 w (by omega) (by omega) hk1 hk2)
  simp only [hp] at HPK
  clear hA h0 hk hB hp
  refine callsIn_of_wp_marks Try.func15 rfl trivial ?_ rfl
  simp only [Try.ntmps15, List.size_toArray, List.length_cons, List.length_nil, Nat.reduceAdd, Nat.reduceSub, Array.replicate_succ, Array.replicate_zero, List.push_toArray, List.append_toArray, List.nil_append, List.cons_append]
  gi_wp2_with (first
    | (refine ⟨trivial, ?_⟩; gi_at_call 14; refine (callsIn_wide.2 (HPK.out _)).mono ?_; rintro e w5 ⟨rfl, hw5⟩; have HJ5 : Hid (AnJ B g n b L fold sb rg w1 V t frm kind w5) := (by rw [hw5]; simpa [hb] using HJ0); have t5 := HJ5.out.txt; have hs5 := HJ5.out.siz; clear hw5 HJ0 HPK)
    | (refine ⟨trivial, ?_⟩; gi_at_call 29; refine (callsIn_wide.2 (HJ5.out.refHas ht)).mono ?_; rintro e w6 ⟨v6, rfl, ho6, hj6⟩; obtain ⟨p6, c6, rfl⟩ := mr_shape ho6; have HJ6 := Hid.mk' hj6; have HO6 := Hid.mk' ho6; have t6 := hj6.txt; have hs6 := hj6.siz; clear ho6 hj6 t5 HJ5)
    | (refine ⟨trivial, ?_⟩; gi_at_call 23; refine (callsIn_wide.2 (HJ6.out.has ht HO6.out)).mono ?_; rintro e w7 ⟨v7, rfl, ho7, hj7, hn7, hw7, _⟩; obtain ⟨p7, c7, rfl⟩ := mr_shape ho7; have HC7 := Hid.mk' (And.intro hj7 (And.intro hn7 (And.intro ho7 hw7))); clear ho7 hj7 hn7 hw7 HJ6 HO6 t6)
    | (refine ⟨trivial, ?_⟩; gi_at_call 30; refine (callsIn_wide.2 (HC7.out.1.takes HC7.out.2.1 HC7.out.2.2.1 (by omega) HC7.out.2.2.2 (by omega) (by omega) (hasL_le _ _))).mono ?_; rintro e w8 ⟨rfl, hj8, hw8⟩; have HJ8 := Hid.mk' hj8; have HO8 := Hid.mk' hw8; have t8 := hj8.txt; have hs8 := hj8.siz; clear hj8 hw8 HC7)
    | (refine ⟨trivial, ?_⟩; gi_at_call 23; refine (callsIn_wide.2 (HJ8.out.has ht HO8.out)).mono ?_; rintro e w9 ⟨v9, rfl, ho9, hj9, hn9, hw9, _⟩; obtain ⟨p9, c9, rfl⟩ := mr_shape ho9; have HC9 := Hid.mk' (And.intro hj9 (And.intro hn9 (And.intro ho9 hw9))); clear ho9 hj9 hn9 hw9 HJ8 HO8 t8)
    | (refine ⟨trivial, ?_⟩; gi_at_call 30; refine (callsIn_wide.2 (HC9.out.1.takes HC9.out.2.1 HC9.out.2.2.1 (by omega) HC9.out.2.2.2 (by omega) (by omega) (hasL_le _ _))).mono ?_; rintro e wA ⟨rfl, hjA, hwA⟩; have HJA := Hid.mk' hjA; obtain ⟨cA, fA⟩ := hjA.cres; clear hjA hwA HC9)
    | fail)
  have FIN := HJA.out.done (.bool true)
  refine ⟨.bool true, ?_, rfl, ⟨n + 1 + 1, by omega, FIN.1⟩, FIN.2.1⟩
  simp [results, Try.f15, go_sem, FIN.2.2]
end Go.Proofs.Ytlbfnchjbpioeaa

namespace Go.Proofs.Ytlbfnchjbpioeaa
open Go.RowKit Go.Shelf BigFrame
set_option linter.unusedVariables false
set_option linter.unusedSimpArgs false
attribute [local go_sem] Oper.semAt_some
theorem fstV_shape (R : Nat × Int) : ∃ x y z, fstV R = .tuple #[.int .i64 x, .int .i64 y, .bool z] := by
  unfold fstV
  by_cases h : R.2 = -1
  · rw [if_pos h]
    exact ⟨_, _, _, rfl⟩
  · rw [if_neg h]
    exact ⟨_, _, _, rfl⟩
section
variable {B g n b : Nat} {L : List ByteArray} {fold : Bool} {sb rg : Nat} {w1 V : World} {t : ByteArray} {frm kind : Int} {X Y : World}
theorem AnJ.first_ (h : AnJ B g n b L fold sb rg w1 V t frm kind X) (ht : t.size ≤ 16777216) (hf1 : -9223372036854775808 ≤ frm) (hf2 : frm ≤ 9223372036854775807) : Calls Try.prog 18 #[.pointer (some ⟨sb, 0, none⟩), .string t, .int .i64 frm] X fun e w' => e = .returned (fstV (Mn.fstF (Mn.nsOf (Mn.wds fold L)) (Mn.wds fold L) ((tx fold t).drop frm.toNat) [] frm.toNat 0 (-1))) ∧ AnJ B g n b L fold sb rg w1 V t frm kind w' := by
  obtain ⟨B1, hM⟩ := h.set.manyV h.bel0
  refine (firstM_any B1 sb _ fold t frm X hM (Wok.of h.set.good) (by omega) hf1 hf2).mono ?_
  rintro e w' ⟨rfl, j, rfl⟩
  exact ⟨rfl, h.keep ((Below.refl _ X).drewN' j)⟩
theorem AnJ.refFirst (h : AnJ B g n b L fold sb rg w1 V t frm kind X) (ht : t.size ≤ 16777216) (hf1 : -9223372036854775808 ≤ frm) (hf2 : frm ≤ 9223372036854775807) : Calls Try.prog 32 #[.pointer (some ⟨rg, 0, none⟩), .string t, .int .i64 frm] X fun e w' => e = .returned (fstV (Mn.fstF (Mn.nsOf (Mn.wds fold L)) (Mn.wds fold L) ((tx fold t).drop frm.toNat) [] frm.toNat 0 (-1))) ∧ AnJ B g n b L fold sb rg w1 V t frm kind w' := by
  obtain ⟨B1, n1, q1, c1, hR⟩ := h.set.refV h.bel0
  refine (ref_first t frm hR h.set.good (by omega) hf1 hf2).mono ?_
  rintro e w' ⟨rfl, h2⟩
  exact ⟨rfl, h.keep h2⟩
theorem AnJ.any_ (h : AnJ B g n b L fold sb rg w1 V t frm kind X) (ht : t.size ≤ 16777216) : Calls Try.prog 24 #[.pointer (some ⟨sb, 0, none⟩), .string t] X fun e w' => e = .returned (.bool (decide ((Mn.fstF (Mn.nsOf (Mn.wds fold L)) (Mn.wds fold L) (tx fold t) [] 0 0 (-1)).2 ≠ -1))) ∧ AnJ B g n b L fold sb rg w1 V t frm kind w' := by
  obtain ⟨B1, hM⟩ := h.set.manyV h.bel0
  refine (anyOf_any B1 sb _ fold t X hM (Wok.of h.set.good) (by omega)).mono ?_
  rintro e w' ⟨rfl, j, rfl⟩
  exact ⟨rfl, h.keep ((Below.refl _ X).drewN' j)⟩
theorem AnJ.refAny (h : AnJ B g n b L fold sb rg w1 V t frm kind X) (ht : t.size ≤ 16777216) : Calls Try.prog 31 #[.pointer (some ⟨rg, 0, none⟩), .string t] X fun e w' => e = .returned (.bool (decide ((Mn.fstF (Mn.nsOf (Mn.wds fold L)) (Mn.wds fold L) (tx fold t) [] 0 0 (-1)).2 ≠ -1))) ∧ AnJ B g n b L fold sb rg w1 V t frm kind w' := by
  obtain ⟨B1, n1, q1, c1, hR⟩ := h.set.refV h.bel0
  refine (ref_any t hR h.set.good (by omega)).mono ?_
  rintro e w' ⟨rfl, h2⟩
  exact ⟨rfl, h.keep h2⟩
end
set_option maxRecDepth 100000 in
set_option maxHeartbeats 1000000 in
theorem ans2 (B g n sb rg : Nat) (L : List ByteArray) (fold : Bool) (w1 V : World) (t : ByteArray) (frm kind leave : Int) (hA : AnsW g L fold sb rg w1) (h0 : Below g w1 V) (hk : BkW B g n V) (hB : B ≤ V.heap.size) (hg : g < V.heap.size) (ht : t.size ≤ 16777216) (hf1 : -9223372036854775808 ≤ frm) (hf2 : frm ≤ 9223372036854775807) (hk1 : -9223372036854775808 ≤ kind) (hk2 : kind ≤ 9223372036854775807) (hp : pkN kind 4 = 2) :
    Calls Try.prog 15 #[.pointer (some ⟨g, 0, none⟩), .pointer (some ⟨sb, 0, none⟩), .pointer (some ⟨rg, 0, none⟩), .agg #[.string t, .int .i64 frm, .int .i64 kind], .int .i64 leave] V fun e w' => e = .returned (.bool true) ∧ (∃ n', n' ≤ n + 2 ∧ BkW B g n' w') ∧ Below g V w' := by
  refine (callsIn_wide (n := 6)).1 ?_
  obtain ⟨b, hb⟩ : ∃ b, V.heap.size = b := ⟨_, rfl⟩
  have HJ0 := Hid.mk' (AnJ.start (t := t) (frm := frm) (kind := kind) (vf := .bool true) hA h0 hk hB hg hb)
  have HPK := Hid.mk' (fun w => pick_is kind 4 w (by omega) (by omega) hk1 hk2)
  simp only [hp] at HPK
  obtain ⟨x, y, z, hxyz⟩ := fstV_shape (Mn.fstF (Mn.nsOf (Mn.wds fold L)) (Mn.wds fold L) ((tx fold t).drop frm.toNat) [] frm.toNat 0 (-1))
  have HV := Hid.mk' hxyz
  have hxx : (x == x) = true := by simp
  have hyy : (y == y) = true := by simp
  have hzz : (z == z) = true := by simp
  clear hA h0 hk hB hp hxyz
  refine callsIn_of_wp_marks Try.func15 rfl trivial ?_ rfl
  simp only [Try.ntmps15, List.size_toArray, List.length_cons, List.length_nil, Nat.reduceAdd, Nat.reduceSub, Array.replicate_succ, Array.replicate_zero, List.push_toArray, List.append_toArray, List.nil_append, List.cons_append]
  gi_wp2_with (first
    | (refine ⟨trivial, ?_⟩; gi_at_call 14; refine (callsIn_wide.2 (HPK.out _)).mono ?_; rintro e w5 ⟨rfl, hw5⟩; have HJ5 : Hid (AnJ B g n b L fold sb rg w1 V t frm kind w5) := (by rw [hw5]; simpa [hb] using HJ0); have t5 := HJ5.out.txt; have m5 := HJ5.out.frm_; clear hw5 HJ0 HPK)
    | (refine ⟨trivial, ?_⟩; gi_at_call 18; refine (callsIn_wide.2 (HJ5.out.first_ ht hf1 hf2)).mono ?_; rintro e w6 ⟨he6, hj6⟩; rw [HV.out] at he6; subst he6; have HJ6 := Hid.mk' hj6; have t6 := hj6.txt; have m6 := hj6.frm_; clear hj6 t5 m5 HJ5)
    | (refine ⟨trivial, ?_⟩; gi_at_call 32; refine (callsIn_wide.2 (HJ6.out.refFirst ht hf1 hf2)).mono ?_; rintro e w7 ⟨he7, hj7⟩; rw [HV.out] at he7; subst he7; have HJ7 := Hid.mk' hj7; obtain ⟨cA, fA⟩ := hj7.cres; clear hj7 t6 m6 HJ6)
    | fail)
  have FIN := HJ7.out.done (.bool true)
  refine ⟨.bool true, ?_, rfl, ⟨n, by omega, FIN.1⟩, FIN.2.1⟩
  simp [results, Try.f15, go_sem, FIN.2.2]
set_option maxRecDepth 100000 in
set_option maxHeartbeats 1000000 in
theorem ans1 (B g n sb rg : Nat) (L : List ByteArray) (fold : Bool) (w1 V : World) (t : ByteArray) (frm kind leave : Int) (hA : AnsW g L fold sb rg w1) (h0 : Below g w1 V) (hk : BkW B g n V) (hB : B ≤ V.heap.size) (hg : g < V.heap.size) (ht : t.size ≤ 16777216) (hk1 : -9223372036854775808 ≤ kind) (hk2 : kind ≤ 9223372036854775807) (hp : pkN kind 4 = 1) :
    Calls Try.prog 15 #[.pointer (some ⟨g, 0, none⟩), .pointer (some ⟨sb, 0, none⟩), .pointer (some ⟨rg, 0, none⟩), .agg #[.string t, .int .i64 frm, .int .i64 kind], .int .i64 leave] V fun e w' => e = .returned (.bool true) ∧ (∃ n', n' ≤ n + 2 ∧ BkW B g n' w') ∧ Below g V w' := by
  refine (callsIn_wide (n := 6)).1 ?_
  obtain ⟨b, hb⟩ : ∃ b, V.heap.size = b := ⟨_, rfl⟩
  have HJ0 := Hid.mk' (AnJ.start (t := t) (frm := frm) (kind := kind) (vf := .bool true) hA h0 hk hB hg hb)
  have HPK := Hid.mk' (fun w => pick_is kind 4 w (by omega) (by omega) hk1 hk2)
  simp only [hp] at HPK
  obtain ⟨z, hz⟩ : ∃ z, decide ((Mn.fstF (Mn.nsOf (Mn.wds fold L)) (Mn.wds fold L) (tx fold t) [] 0 0 (-1)).2 ≠ -1) = z := ⟨_, rfl⟩
  have HA1 : Hid (∀ X, AnJ B g n b L fold sb rg w1 V t frm kind X → Calls Try.prog 24 #[.pointer (some ⟨sb, 0, none⟩), .string t] X fun e w' => e = .returned (.bool z) ∧ AnJ B g n b L fold sb rg w1 V t frm kind w') := fun X h => by rw [← hz]; exact h.any_ ht
  have HA2 : Hid (∀ X, AnJ B g n b L fold sb rg w1 V t frm kind X → Calls Try.prog 31 #[.pointer (some ⟨rg, 0, none⟩), .string t] X fun e w' => e = .returned (.bool z) ∧ AnJ B g n b L fold sb rg w1 V t frm kind w') := fun X h => by rw [← hz]; exact h.refAny ht
  have hzz : (z == z) = true := by simp
  clear hA h0 hk hB hp hz
  refine callsIn_of_wp_marks Try.func15 rfl trivial ?_ rfl
  simp only [Try.ntmps15, List.size_toArray, List.length_cons, List.length_nil, Nat.reduceAdd, Nat.reduceSub, Array.replicate_succ, Array.replicate_zero, List.push_toArray, List.append_toArray, List.nil_append, List.cons_append]
  gi_wp2_with (first
    | (refine ⟨trivial, ?_⟩; gi_at_call 14; refine (callsIn_wide.2 (HPK.out _)).mono ?_; rintro e w5 ⟨rfl, hw5⟩; have HJ5 : Hid (AnJ B g n b L fold sb rg w1 V t frm kind w5) := (by rw [hw5]; simpa [hb] using HJ0); clear hw5 HJ0 HPK)
    | fail)
  refine region_done (by kernel_rfl) (fun kz => (#[.pointer (some ⟨sb, 0, none⟩), .pointer (some ⟨b, 0, none⟩), .string t, .bool z, .pointer (some ⟨rg, 0, none⟩), .pointer (some ⟨b, 0, none⟩), .string t, .bool z, .bool true, undef] : Array Value).getD kz undef) (fun u => { tmps := #[.pointer (some ⟨g, 0, none⟩), .pointer (some ⟨sb, 0, none⟩), .pointer (some ⟨rg, 0, none⟩), .agg #[.string t, .int .i64 frm, .int .i64 kind], .int .i64 leave, undef, undef, undef, .pointer (some ⟨b, 0, none⟩), undef, .pointer (some ⟨b + 1, 0, none⟩), undef, undef, undef, undef, undef, undef, undef, undef, undef, undef, undef, undef, undef, undef, undef, undef, .pointer (some ⟨b, 2, none⟩), .int .i64 kind, .int .i64 1, .bool false, .bool false, undef, undef, undef, undef, undef, undef, undef, undef, undef, undef, undef, undef, undef, undef, undef, undef, undef, undef, .bool true, .bool true, u 0, u 1, u 2, u 3, u 4, u 5, u 6, u 7, u 8, undef, undef, undef, undef, undef, undef, undef, undef, undef, undef, undef, undef, undef, undef, undef, undef, undef, undef, undef, undef, undef, undef, undef, undef, undef, undef, undef, undef, undef, undef, undef, undef, undef, undef, undef, undef, undef, undef, undef, undef, undef, undef, undef, undef, undef, undef, undef, undef, undef, undef, undef, undef, undef, undef, undef, undef, undef, undef, undef, undef, undef, undef, undef, undef, undef, undef, undef, undef, undef, undef, undef, undef, undef, undef, undef, undef, undef, undef, undef, undef, undef, undef, undef, undef, undef, undef, undef, undef, undef, undef, undef, undef, undef, undef, undef, undef, undef, undef, undef, undef, undef, undef, undef, undef, undef, undef, undef, undef, undef, undef], defers := [] }) (fun k => undef) _ (fun L' X => (L' 9 = false ∧ AnJ B g n b L fold sb rg w1 V t frm kind X) ∨ (L' 9 = true ∧ (∀ i, i < 9 → L' i = true) ∧ ∃ Y, AnJ B g n b L fold sb rg w1 V t frm kind Y ∧ X = Y.setCell ⟨b + 1, 0, none⟩ (.bool true))) (fun L' hL => .inl ⟨hL 9, HJ5.out.keep ((Below.refl _ w5).drewN' 1)⟩) (deps_of' (by kernel_rfl)) ?_ ?_ ?_
  · intro f1 f2 hfg
    simp only [hfg 0 (by decide), hfg 1 (by decide), hfg 2 (by decide), hfg 3 (by decide), hfg 4 (by decide), hfg 5 (by decide), hfg 6 (by decide), hfg 7 (by decide), hfg 8 (by decide)]
  · intro L' X hS i0 hi0 hL o ho hdone u hdeps KK hKK
    have hlt : i0 < 10 := hi0
    rcases hS with ⟨h9, hS⟩ | ⟨h9, hall, _⟩
    case inr =>
      exfalso
      by_cases e : i0 = 9
      · subst e
        rw [h9] at hL
        cases hL
      · rw [hall i0 (by omega)] at hL
        cases hL
    have hnx : ∀ Y, i0 ≠ 9 → AnJ B g n b L fold sb rg w1 V t frm kind Y → ∀ L2 : Nat → Bool, (∀ k, L2 k = if k = i0 then true else L' k) → (L2 9 = false ∧ AnJ B g n b L fold sb rg w1 V t frm kind Y) ∨ (L2 9 = true ∧ (∀ i, i < 9 → L2 i = true) ∧ ∃ Z, AnJ B g n b L fold sb rg w1 V t frm kind Z ∧ Y = Z.setCell ⟨b + 1, 0, none⟩ (.bool true)) := fun Y hi hY L2 hL2 => .inl ⟨by rw [hL2, if_neg (Ne.symm hi)]; exact h9, hY⟩
    have ct := hS.txt
    obtain ⟨cA, fA⟩ := hS.cres
    rcases (show i0 = 0 ∨ i0 = 1 ∨ i0 = 2 ∨ i0 = 3 ∨ i0 = 4 ∨ i0 = 5 ∨ i0 = 6 ∨ i0 = 7 ∨ i0 = 8 ∨ i0 = 9 by omega) with rfl | rfl | rfl | rfl | rfl | rfl | rfl | rfl | rfl | rfl
    case inr.inr.inr.inl =>
      simp at ho; subst ho; simp [Region.binds] at hdeps
      simp [wpOpIn, Region.wanted, yielded, Oper.wpIn, Oper.semAt_eq, execOp, Oper.uponIn, go_sem, hdeps]
      refine ⟨trivial, ?_⟩
      refine CallsIn.mono (callsIn_wide.2 (HA1.out X hS)) ?_
      rintro e Y ⟨rfl, hY⟩
      have hKX := hKK Y (hnx Y (by omega) hY)
      first | exact hKX | (simp [upd, hdeps] at hKX ⊢; exact hKX)
    case inr.inr.inr.inr.inr.inr.inr.inl =>
      simp at ho; subst ho; simp [Region.binds] at hdeps
      simp [wpOpIn, Region.wanted, yielded, Oper.wpIn, Oper.semAt_eq, execOp, Oper.uponIn, go_sem, hdeps]
      refine ⟨trivial, ?_⟩
      refine CallsIn.mono (callsIn_wide.2 (HA2.out X hS)) ?_
      rintro e Y ⟨rfl, hY⟩
      have hKX := hKK Y (hnx Y (by omega) hY)
      first | exact hKX | (simp [upd, hdeps] at hKX ⊢; exact hKX)
    case inr.inr.inr.inr.inr.inr.inr.inr.inr =>
      simp at ho; subst ho; simp [Region.binds] at hdone hdeps
      have hKX := hKK (X.setCell ⟨b + 1, 0, none⟩ (.bool true)) (fun L2 hL2 => .inr ⟨by rw [hL2, if_pos rfl], fun i hi => by
        rw [hL2, if_neg (by omega)]
        rcases (show i = 0 ∨ i = 1 ∨ i = 2 ∨ i = 3 ∨ i = 4 ∨ i = 5 ∨ i = 6 ∨ i = 7 ∨ i = 8 by omega) with rfl | rfl | rfl | rfl | rfl | rfl | rfl | rfl | rfl <;> simp [hdone], X, hS, rfl⟩)
      simp [wpOpIn, Region.wanted, yielded, Oper.wpIn, Oper.semAt_eq, execOp, Oper.uponIn, go_sem, hdeps, cA, fA]
      first | exact hKX | (simp [upd, hdeps] at hKX; exact hKX)
    all_goals (have hKX := hKK X (hnx X (by omega) hS); simp at ho; subst ho; simp [Region.binds] at hdeps; simp [wpOpIn, Region.wanted, yielded, Oper.wpIn, Oper.semAt_eq, execOp, Oper.uponIn, go_sem, hdeps, ct]; first | exact hKX | (simp [upd, hdeps] at hKX; exact hKX))
  · rintro L' X hall hS
    rcases hS with ⟨h9, _⟩ | ⟨_, _, Y, hY, rfl⟩
    · rw [hall 9 (by decide)] at h9
      cases h9
    · gi_wp2
      have FIN := hY.done (.bool true)
      refine ⟨.bool true, ?_, rfl, ⟨n, by omega, FIN.1⟩, FIN.2.1⟩
      simp [results, Try.f15, go_sem, FIN.2.2]
end Go.Proofs.Ytlbfnchjbpioeaa

namespace Go.Proofs.Ytlbfnchjbpioeaa
open Go.RowKit Go.Shelf BigFrame
set_option linter.unusedVariables false
set_option linter.unusedSimpArgs false
attribute [local go_sem] Oper.semAt_some
abbrev fnA (c : Nat) : Value := .func (.func 35) #[] #[.pointer (some ⟨c + 1 + 1, 0, none⟩), .pointer (some ⟨c + 1, 0, none⟩)]
theorem store_lastA {P : Program} (X : World) (x v : Value) (t : TypeId) (n : Nat) (hn : n = X.heap.size) (hv : v.oneCell' = true) : (store ⟨n, 0, none⟩ v).run P (X.alloc (.cells #[x] t)) = .ok () (X.alloc (.cells #[v] t)) := by
  subst hn
  have h := Boxed.new X t x
  rw [run_store P _ _ v _ hv, h.cell, h.frozen]
  show Result.ok () _ = _
  rw [World.setCell_alloc_at _ _ _ _ _ rfl]
  rfl
theorem fdL_len (l : List (Nat × Nat)) : (fdL l).length = 2 * l.length := by
  induction l with
  | nil => rfl
  | cons x l ih =>
    have : fdL (x :: l) = [.int .i64 (x.1 : Int), .int .i64 (x.2 : Int)] ++ fdL l := rfl
    rw [this, List.length_append, ih]
    simp
    omega
theorem fdL_at : ∀ (l : List (Nat × Nat)) (q : Nat) (x : Nat × Nat), l[q]? = some x → (fdL l)[2 * q]? = some (.int .i64 (x.1 : Int)) ∧ (fdL l)[2 * q + 1]? = some (.int .i64 (x.2 : Int))
  | [], q, x, h => by simp at h
  | y :: l, 0, x, h => by
    simp at h
    subst h
    exact ⟨rfl, rfl⟩
  | y :: l, q + 1, x, h => by
    have ih := fdL_at l q x (by simpa using h)
    exact ih
theorem fd_cells {V : World} {B m c : Nat} {p : Option Addr} {l : List (Nat × Nat)} (h : V.ownsRow B 74 2 (.slice p m c) m (fdL l)) {q : Nat} {x : Nat × Nat} (hq : l[q]? = some x) (hm : 0 < m) : ∃ g, p = some ⟨g, 0, none⟩ ∧ g < V.heap.size ∧ V.cell? ⟨g, q * 2, none⟩ = some (.int .i64 (x.1 : Int)) ∧ V.cell? ⟨g, q * 2 + 1, none⟩ = some (.int .i64 (x.2 : Int)) := by
  rcases h.2 with ⟨_, h2⟩ | ⟨g, cap, cur, h1, hb, hg, _⟩
  · omega
  · cases h1
    obtain ⟨e1, e2⟩ := fdL_at l q x hq
    have c1 := h.cells (g := g) rfl _ _ e1
    have c2 := h.cells (g := g) rfl _ _ e2
    rw [Addr.add_lit, Nat.zero_add] at c1 c2
    rw [Nat.mul_comm q 2]
    exact ⟨g, rfl, (Array.getElem?_eq_some_iff.1 hg).1, c1, c2⟩
section
variable {B g n b : Nat} {L : List ByteArray} {fold : Bool} {sb rg : Nat} {w1 V : World} {t : ByteArray} {frm kind : Int} {X Y : World}
theorem AnJ.refAll (h : AnJ B g n b L fold sb rg w1 V t frm kind X) (ht : t.size ≤ 16777216) : Calls Try.prog 33 #[.pointer (some ⟨rg, 0, none⟩), .string t] X fun e w' => ∃ v, e = .returned v ∧ w'.ownsRow X.heap.size 74 2 v (Mn.allF (Mn.wds fold L) (tx fold t)).length (fdL (Mn.allF (Mn.wds fold L) (tx fold t))) ∧ AnJ B g n b L fold sb rg w1 V t frm kind w' := by
  obtain ⟨B1, n1, q1, c1, hR⟩ := h.set.refV h.bel0
  refine (ref_all t hR h.set.good ht).mono ?_
  rintro e w' ⟨v, rfl, h1, h2⟩
  exact ⟨v, rfl, h1, h.keep h2⟩
end
/-- the boxes of answers -/
structure AnK (w6 : World) (c m c6 stop : Nat) (p6 : Option Addr) (sb : Nat) (t : ByteArray) (k : Nat) (X : World) : Prop where
  bel : Below c w6 X
  bw : Boxed X c 71 (.slice p6 m c6)
  bs : Boxed X (c + 1) 25 (.pointer (some ⟨sb, 0, none⟩))
  bt : Boxed X (c + 2) 9 (.string t)
  ba : Boxed X (c + 3) 49 (fnA c)
  bp : Boxed X (c + 4) 3 (.int .i64 (stop : Int))
  bk : Boxed X (c + 5) 3 (.int .i64 (k : Int))
section
variable {w6 : World} {c m c6 stop : Nat} {p6 : Option Addr} {sb : Nat} {t : ByteArray} {k : Nat} {X Y : World}
theorem AnK.size (h : AnK w6 c m c6 stop p6 sb t k X) : c + 6 ≤ X.heap.size := h.bk.lt
theorem AnK.ab {row : Option Nat} (h : AnK w6 c m c6 stop p6 sb t k X) (hg : X.grownBy Y row) (hr : ∀ r, row = some r → c + 6 ≤ r) : AnK w6 c m c6 stop p6 sb t k Y := by
  have hs := h.size
  have kp : ∀ i, i < c + 6 → Y.heap[i]? = X.heap[i]? := fun i hi => hg.block i (by omega) (fun e => by have := hr i e.symm; omega)
  exact ⟨h.bel.trans ⟨hg.os, hg.tape, hg.output, hg.size, fun i hi => kp i (by omega)⟩, (kp _ (by omega)).trans h.bw, (kp _ (by omega)).trans h.bs, (kp _ (by omega)).trans h.bt, (kp _ (by omega)).trans h.ba, (kp _ (by omega)).trans h.bp, (kp _ (by omega)).trans h.bk⟩
theorem AnK.other (h : AnK w6 c m c6 stop p6 sb t k X) {i : Nat} (hi : c + 6 ≤ i) (u : Value) : AnK w6 c m c6 stop p6 sb t k (X.setCell ⟨i, 0, none⟩ u) :=
  h.ab (grownBy_setCell' X i u) (fun r e => by cases e; exact hi)
theorem AnK.setk (h : AnK w6 c m c6 stop p6 sb t k X) (k' : Nat) : AnK w6 c m c6 stop p6 sb t k' (X.setCell ⟨c + 5, 0, none⟩ (.int .i64 (k' : Int))) := by
  have kp : ∀ i, i ≠ c + 5 → (X.setCell ⟨c + 5, 0, none⟩ (.int .i64 (k' : Int))).heap[i]? = X.heap[i]? := fun i hi => set_heap X (c + 5) i 0 _ hi
  exact ⟨mb_set h.bel (by omega) _ _, (kp _ (by omega)).trans h.bw, (kp _ (by omega)).trans h.bs, (kp _ (by omega)).trans h.bt, (kp _ (by omega)).trans h.ba, (kp _ (by omega)).trans h.bp, h.bk.set _⟩
end
theorem kpb_set {D : Nat → Prop} {X : World} {i : Nat} (hi : ¬ D i) (u : Value) : KpB D X (X.setCell ⟨i, 0, none⟩ u) := fun k hk => set_heap X i k 0 u (fun e => hi (e ▸ hk))
theorem keptW_one (B : Nat) {X : World} {i : Nat} {ty : TypeId} {v : Value} (h : Boxed X i ty v) (u : Value) : KeptW B noW X (X.setCell ⟨i, 0, none⟩ u) :=
  ⟨by simp [World.setCell], fun k o hk ho hn => by
    refine (set_heap X i k 0 u ?_).trans ho
    rintro rfl
    have h1 : X.heap[k]? = some (.cells #[v] ty (0, 0)) := h
    rw [ho] at h1
    cases h1
    rcases hn with h2 | h2
    · simp [Obj.isCells] at h2
    · exact h2⟩
theorem kept_ab {B B' : Nat} {W X Y : World} {row : Option Nat} (h : KeptW B noW W X) (hg : X.grownBy Y row) (hr : ∀ r, row = some r → B' ≤ r) (hB : W.heap.size ≤ B') : KeptW B noW W Y :=
  ⟨Nat.le_trans h.size hg.size, fun k o hk ho hn => by
    have h1 := h.same k o hk ho hn
    have h2 := (Array.getElem?_eq_some_iff.1 ho).1
    exact (hg.block k (Array.getElem?_eq_some_iff.1 h1).1 (fun e => by have := hr k e.symm; omega)).trans h1⟩
theorem kpb_ab {D : Nat → Prop} {B' : Nat} {W X Y : World} {row : Option Nat} (h : KpB D W X) (hg : X.grownBy Y row) (hr : ∀ r, row = some r → B' ≤ r) (hD : ∀ k, D k → k < B' ∧ k < X.heap.size) : KpB D W Y := fun k hk => by
  obtain ⟨h1, h2⟩ := hD k hk
  exact (hg.block k h2 (fun e => by have := hr k e.symm; omega)).trans (h k hk)
section
variable {F : Fence} {n : Nat} {P : Program}
theorem seqW_of {α : Type} {g : Nat} {lb : Array Value} {encs : α → Array Value} {Wr : Obj → Prop} {Kp : World → World → Prop} {S Sp : List α → Prop} {w : World} (N : Nat) (h : SeqN F n P g lb encs Wr Kp S Sp w) (hN : ∀ pre x, Sp (pre ++ [x]) → pre.length < N) : SeqW F n P g lb encs Wr Kp S Sp N w := fun l J Jx W hb h1 h2 hY h0 => h l J Jx W hb h1 h2 (fun pre x W1 hJ hS => hY pre x W1 hJ (hN pre x hS)) h0
theorem wpIn_rangeS_in {α : Type} {g : Operand} {ps : Array Tmp} {assign body : Code} {Q : Exit → Act → World → Prop} {a : Act} {w : World}
    {l₀ : Nat} {r₀ : Loop} (hro : F.round = some l₀) (hl₀ : w.heap[l₀]? = some (.loop r₀)) (h1 : 1 ≤ n) {gf : Nat} {lb : Array Value} (hg : a.eval g = .func (.func gf) #[] lb) (hFg : F.fn gf) (eg : ∀ args w, (callFunc gf args).run P w = .ok (.enter gf args) w)
    {encs : α → Array Value} {Wr : Obj → Prop} {Kp : World → World → Prop} {S Sp : List α → Prop} {N : Nat} {w0 : World} (hseq : SeqW F (n - 1) P gf lb encs Wr Kp S Sp N w0) (hWr : ∀ o, Wr o → o.isCells = true)
    (hKt : ∀ {X Y Z : World}, Kp X Y → Kp Y Z → Kp X Z) (hKb : ∀ (W : World) (k : Nat) (o o' : Obj), w.heap.size ≤ k → W.heap[k]? = some o → o.isCells = false → Kp W (W.putObj k o')) (hb0 : Below w0.heap.size w0 w) (hps : ∀ x, (encs x).size = ps.size)
    (I : List α → World → Prop) (Ix : Code → List α → World → Prop) (hI : AbW w.heap.size (fun o => o.isCells = false ∨ Wr o) I) (hIx : ∀ c, AbW w.heap.size (fun o => o.isCells = false ∨ Wr o) (Ix c)) (h0 : I [] w) (hKr : ∀ W, Kp W W) (sl : α → List (Nat × Value))
    (hassign : ∀ (l : Nat) (pre : List α) (x : α) (W : World) (K : Act → World → Prop), K { tmps := (sl x).foldl (fun t p => t.setIfInBounds p.1 p.2) ((ps.zip (encs x)).foldl (fun t (p, v) => t.setIfInBounds p v) a.tmps), defers := [] } W →
      assign.wpIn (F.inRound l) (n - 1 - 1) P (Exit.then K (fun _ _ _ => False)) { tmps := (ps.zip (encs x)).foldl (fun t (p, v) => t.setIfInBounds p v) a.tmps, defers := [] } W)
    (hbody : ∀ (l : Nat) (pre : List α) (x : α) (W : World), w.heap.size ≤ l → I pre W → pre.length < N → body.wpIn (F.inRound l) (n - 1 - 1) P (leftW w.heap.size Wr Kp I Ix (pre ++ [x]) W) { tmps := (sl x).foldl (fun t p => t.setIfInBounds p.1 p.2) ((ps.zip (encs x)).foldl (fun t (p, v) => t.setIfInBounds p v) a.tmps), defers := [] } W)
    (hdone : ∀ (xs : List α) (W : World), S xs → I xs W → Q .normal a W)
    (hstop : ∀ (c : Code) (pre : List α) (W : World), Sp pre → Ix c pre W → c.wpIn F n P Q a W) :
    (Code.rangeFunc g ps assign body).wpIn F n P Q a w := by
  refine wpIn_rangeW_in hro hl₀ h1 hg hFg eg hseq hWr hKt hKb hb0 hps I Ix hI hIx h0 (fun x a' _ => a' = { tmps := (sl x).foldl (fun t p => t.setIfInBounds p.1 p.2) ((ps.zip (encs x)).foldl (fun t (p, v) => t.setIfInBounds p v) a.tmps), defers := [] }) (fun x a' _ X Y row hX hg hr => hX) ?_ ?_ hdone hstop
  · intro l pre x W K hi hK
    exact hassign l pre x W K (hK _ _ (KeptW.refl _ _ _) (hKr W) hi rfl)
  · rintro l pre x a' W hl hr hi rfl hp
    exact hbody l pre x W hl hi hp
end
theorem BkW.put {B g n D : Nat} {X : World} {z : Option (List Deferred)} (h : BkW B g n X) (hD : X.heap[D]? = some (.deferred z)) (o' : Obj) : BkW B g n (X.putObj D o') := by
  obtain ⟨F, vf, vw, xs, ys, h1, h2⟩ := h
  have hne : ∀ (k : Nat) (cs : Array Value) (t : TypeId) (f : Nat × Nat), X.heap[k]? = some (Obj.cells cs t f) → (X.putObj D o').heap[k]? = X.heap[k]? := fun k cs t f hk => World.putObj_heap_other (by
    rintro rfl
    rw [hD] at hk
    cases hk)
  have hr : ∀ {e : TypeId} {s m : Nat} {v : Value} {l : List Value}, X.ownsRow B e s v m l → (X.putObj D o').ownsRow B e s v m l := fun {e s m v l} hv => mr_kept hv fun k hk => by
    obtain ⟨cur, hc⟩ := mr_block hv hk
    exact hne _ _ _ _ hc
  exact ⟨F, vf, vw, xs, ys, ⟨(hne _ _ _ _ h1.st).trans h1.st, ⟨hr h1.free.row, fun i hi => hr (h1.free.each i hi), h1.free.apart⟩, ⟨hr h1.want.row, fun i hi => hr (h1.want.each i hi), h1.want.apart⟩, h1.away, h1.lo⟩, h2⟩
theorem neq_found (a v : Int) (w : World) : (binOp .neq 74 (.agg #[.int .i64 a, .int .i64 v]) (.agg #[.int .i64 a, .int .i64 v])).run Try.prog w = .ok (.bool false) w := by
  have hp : Try.prog.stoodInHeld 74 = false := by kernel_rfl
  have ht : Try.prog.underlying 74 = some (.struct (Try.prog.fieldsOf 74)) := by kernel_rfl
  have hi : Try.prog.underlying 3 = some (.int .i64) := by kernel_rfl
  have hf : Try.prog.fieldsOf 74 = #[{ name := "Behind", type := 3, offset := 0, embedded := false, tag := "", pkgPath := "", byteOffset := 0 }, { name := "Word", type := 3, offset := 1, embedded := false, tag := "", pkgPath := "", byteOffset := 8 }] := by kernel_rfl
  rw [run_neq_struct, run_equalIn_agg _ 9999 _ _ _ ht hp, hf]
  simp [go_sem, Op.eqFields, run_equalIn_int _ 9998 3 .i64 .i64 _ _ hi]
set_option maxRecDepth 100000 in
set_option maxHeartbeats 1000000 in
theorem ans3 (B g n sb rg : Nat) (L : List ByteArray) (fold : Bool) (w1 V : World) (t : ByteArray) (frm kind leave : Int) (hA : AnsW g L fold sb rg w1) (h0 : Below g w1 V) (hk : BkW B g n V) (hB : B ≤ V.heap.size) (hg : g < V.heap.size) (ht : t.size ≤ 16777216) (hk1 : -9223372036854775808 ≤ kind) (hk2 : kind ≤ 9223372036854775807) (hl1 : -9223372036854775808 ≤ leave) (hl2 : leave ≤ 9223372036854775807) (hp : pkN kind 4 = 3) :
    Calls Try.prog 15 #[.pointer (some ⟨g, 0, none⟩), .pointer (some ⟨sb, 0, none⟩), .pointer (some ⟨rg, 0, none⟩), .agg #[.string t, .int .i64 frm, .int .i64 kind], .int .i64 leave] V fun e w' => e = .returned (.bool true) ∧ (∃ n', n' ≤ n + 2 ∧ BkW B g n' w') ∧ Below g V w' := by
  refine (callsIn_wide (n := 6)).1 ?_
  obtain ⟨b, hb⟩ : ∃ b, V.heap.size = b := ⟨_, rfl⟩
  have HJ0 := Hid.mk' (AnJ.start (t := t) (frm := frm) (kind := kind) (vf := .bool true) hA h0 hk hB hg hb)
  have HPK := Hid.mk' (fun w => pick_is kind 4 w (by omega) (by omega) hk1 hk2)
  simp only [hp] at HPK
  obtain ⟨AL, hAL⟩ : ∃ AL, Mn.allF (Mn.wds fold L) (tx fold t) = AL := ⟨_, rfl⟩
  have HRA : Hid (∀ X, AnJ B g n b L fold sb rg w1 V t frm kind X → Calls Try.prog 33 #[.pointer (some ⟨rg, 0, none⟩), .string t] X fun e w' => ∃ v, e = .returned v ∧ w'.ownsRow X.heap.size 74 2 v AL.length (fdL AL) ∧ AnJ B g n b L fold sb rg w1 V t frm kind w') := fun X h => by rw [← hAL]; exact h.refAll ht
  obtain ⟨m, hm⟩ : ∃ m, AL.length = m := ⟨_, rfl⟩
  have hmb : m ≤ 1073741824 := by
    have h1 := Mn.allF_len (Wok.of hA.good).nod (tx fold t)
    have h2 := (Wok.of hA.good).few
    rw [hAL, hm, tx_len] at h1
    have h3 : t.size * (Mn.wds fold L).length ≤ 16777216 * 64 := Nat.mul_le_mul ht h2
    omega
  have HP2 := Hid.mk' (fun w => pick_is leave ((m : Int) + 1) w (by omega) (by omega) hl1 hl2)
  have hst0 := pkN_lt leave ((m : Int) + 1) (by omega)
  obtain ⟨stop, hstop⟩ : ∃ stop, pkN leave ((m : Int) + 1) = stop := ⟨_, rfl⟩
  rw [hstop] at HP2 hst0
  have hsm : stop ≤ m := by omega
  have HAL := Hid.mk' hAL
  have HM := Hid.mk' hm
  rw [hm] at HRA
  clear hA h0 hk hB hp hAL hm hstop hst0
  refine callsIn_of_wp_marks Try.func15 rfl trivial ?_ rfl
  simp only [Try.ntmps15, List.size_toArray, List.length_cons, List.length_nil, Nat.reduceAdd, Nat.reduceSub, Array.replicate_succ, Array.replicate_zero, List.push_toArray, List.append_toArray, List.nil_append, List.cons_append]
  have hnl := nil_alf
  gi_wp2_with (first
    | (refine ⟨trivial, ?_⟩; gi_at_call 14; refine (callsIn_wide.2 (HPK.out _)).mono ?_; rintro e w5 ⟨rfl, hw5⟩; have HJ5 : Hid (AnJ B g n b L fold sb rg w1 V t frm kind w5) := (by rw [hw5]; simpa [hb] using HJ0); have t5 := HJ5.out.txt; clear hw5 HJ0 HPK)
    | (refine ⟨trivial, ?_⟩; gi_at_call 33; refine (callsIn_wide.2 (HRA.out w5 HJ5.out)).mono ?_; rintro e w6 ⟨v6, rfl, ho6, hj6⟩; obtain ⟨p6, c6, rfl⟩ := mr_shape ho6; have HJ6 := Hid.mk' hj6; have HO6 := Hid.mk' ho6; have t6 : ∀ o, (w6.alloc o).cell? ⟨b, 0, none⟩ = some (.string t) := (fun o => (World.cell?_of_block (a := ⟨b, 0, none⟩) (Below.heap_alloc _ _ _ (by have := HJ6.out.siz; simp only; omega))).trans HJ6.out.txt); have hs5 := HJ5.out.siz; obtain ⟨c, hc⟩ : ∃ c, w6.heap.size = c := ⟨_, rfl⟩; have hst := store_lastA (P := Try.prog) (((w6.alloc (.cells #[.slice p6 m c6] 71)).alloc (.cells #[.pointer (some ⟨sb, 0, none⟩)] 25)).alloc (.cells #[.string t] 9)) .nilFunc (fnA c) 49 (c + 1 + 1 + 1) (by simp; omega) rfl; clear ho6 hj6 t5 HJ5 HRA)
    | (refine ⟨trivial, ?_⟩; gi_at_call 19; refine (callsIn_wide.2 (all_any sb t _)).mono ?_; rintro e w7 ⟨rfl, rfl⟩)
    | (refine ⟨trivial, ?_⟩; gi_at_call 14; refine (callsIn_wide.2 (HP2.out _)).mono ?_; rintro e w8 ⟨rfl, rfl⟩)
    | fail)
  obtain ⟨W0, hW0⟩ : ∃ W0, allocs w6 [.cells #[.slice p6 m c6] 71, .cells #[.pointer (some ⟨sb, 0, none⟩)] 25, .cells #[.string t] 9, .cells #[fnA c] 49, .cells #[.int .i64 (stop : Int)] 3, .cells #[.int .i64 0] 3] = W0 := ⟨_, rfl⟩
  refine wp_world W0 hW0 ?_
  have hz0 : W0.heap.size = c + 6 := by rw [← hW0, allocs_size, hc]; rfl
  have hK0 : AnK w6 c m c6 stop p6 sb t 0 W0 := by
    have hg := fun k hk => allocs_get [.cells #[.slice p6 m c6] 71, .cells #[.pointer (some ⟨sb, 0, none⟩)] 25, .cells #[.string t] 9, .cells #[fnA c] 49, .cells #[.int .i64 (stop : Int)] 3, .cells #[.int .i64 0] 3] w6 k hk
    rw [hW0, hc] at hg
    simp only [List.length_cons, List.length_nil, Nat.reduceAdd] at hg
    exact ⟨by rw [← hW0, ← hc]; exact allocs_below _ _, hg 0 (by omega), hg 1 (by omega), hg 2 (by omega), hg 3 (by omega), hg 4 (by omega), hg 5 (by omega)⟩
  have HWK := Hid.mk' (Wok.of HJ6.out.set.good)
  obtain ⟨B1, hM⟩ := HJ6.out.set.manyV HJ6.out.bel0
  obtain ⟨gm, cn, g2, cw, hM⟩ := hM
  have hgl : gm < c := by rw [← hc]; exact hM.gB.2
  have hg2l : g2 < c := by rw [← hc]; exact (hM.wrd.lt g2 rfl).2
  have hsbl : sb < c := by rw [← hc]; exact hM.lt
  have HMX := Hid.mk' (fun (X : World) (hX : Below c w6 X) => hM.keep (w' := X) (by rw [hc]; exact hX))
  have hbc : b + 2 ≤ c := by rw [← hc]; exact HJ6.out.siz
  have HJX : Hid (∀ X, Below c w6 X → AnJ B g n b L fold sb rg w1 V t frm kind X) := fun X hX => HJ6.out.keep (by rw [hc]; exact hX)
  have HOX : Hid (∀ X, Below c w6 X → X.ownsRow w5.heap.size 74 2 (.slice p6 m c6) m (fdL AL)) := fun X hX => mr_kept HO6.out fun k hk => hX.block k (by rw [← hc]; exact (HO6.out.lt k hk).2)
  have hnd : ∀ i, c + 5 ≤ i → ¬ DM sb gm g2 (c + 1 + 1) (c + 1) i := fun i hi hd => by rcases hd with rfl | rfl | rfl | rfl | rfl <;> omega
  have HK0 := Hid.mk' hK0
  have hnq := neq_found
  clear hW0 hst hM HJ6 HO6 hK0 HP2 t6 hnl
  rename_i K hK
  have HKR := Hid.mk' hK
  clear hK
  have rest : ∀ (D : Nat) (X : World), c + 6 ≤ D → AnK w6 c m c6 stop p6 sb t stop X → X.heap[D]? = some (.deferred (some [])) → K { tmps := #[.pointer (some ⟨g, 0, none⟩), .pointer (some ⟨sb, 0, none⟩), .pointer (some ⟨rg, 0, none⟩), .agg #[.string t, .int .i64 frm, .int .i64 kind], .int .i64 leave, undef, undef, undef, .pointer (some ⟨b, 0, none⟩), undef, .pointer (some ⟨b + 1, 0, none⟩), undef, undef, undef, undef, undef, undef, undef, .pointer (some ⟨c, 0, none⟩), .pointer (some ⟨c + 1 + 1 + 1, 0, none⟩), .pointer (some ⟨c + 1 + 1 + 1 + 1, 0, none⟩), .pointer (some ⟨c + 1 + 1 + 1 + 1 + 1, 0, none⟩), undef, undef, undef, undef, undef, .pointer (some ⟨b, 2, none⟩), .int .i64 kind, .int .i64 3, .bool false, .bool false, undef, undef, undef, undef, undef, undef, undef, undef, undef, undef, undef, undef, undef, undef, undef, undef, undef, undef, .bool false, .bool false, undef, undef, undef, undef, undef, undef, undef, undef, undef, .bool false, .bool false, undef, undef, undef, undef, undef, undef, undef, undef, undef, undef, undef, undef, undef, undef, undef, undef, undef, undef, undef, undef, undef, undef, undef, undef, undef, undef, undef, undef, undef, undef, undef, undef, undef, .pointer (some ⟨rg, 0, none⟩), .pointer (some ⟨b, 0, none⟩), .string t, .slice p6 m c6, .pointer (some ⟨sb, 0, none⟩), .pointer (some ⟨b, 0, none⟩), .string t, fnA c, fnA c, .bool false, .int .i64 leave, .slice p6 m c6, .int .i64 (m : Int), .int .i64 ((m : Int) + 1), .int .i64 (stop : Int), fnA c, undef, undef, undef, undef, undef, undef, undef, undef, undef, undef, undef, undef, undef, undef, undef, undef, undef, undef, undef, undef, undef, undef, undef, undef, undef, undef, undef, undef, undef, undef, undef, undef, undef, undef, undef, undef, undef, undef, undef, undef, undef, undef, undef, undef, undef, undef, undef, undef, undef, undef, undef, undef, undef, undef, undef, undef, undef, undef, undef], defers := [{ target := .collected D, args := #[] }] } X := by
    intro D X hD hk hdef
    refine HKR.out _ _ ?_
    have ck := hk.bk.cell
    have fk := hk.bk.frozen
    have cs := hk.bp.cell
    have HKX := Hid.mk' (hk.setk 0)
    have hca : ∀ u, (X.setCell ⟨c + 5, 0, none⟩ u).cell? ⟨c + 3, 0, none⟩ = some (fnA c) := fun u => (World.cell?_of_block (a := ⟨c + 3, 0, none⟩) (set_heap X (c + 5) (c + 3) 0 u (by omega))).trans hk.ba.cell
    have hnn : ((stop : Int) != (stop : Int)) = false := by simp
    have HD := Hid.mk' ((set_heap X (c + 5) D 0 (.int .i64 0) (by omega)).trans hdef)
    clear hk hdef
    gi_wp2
    clear ck fk cs hca hnn
    obtain ⟨W2, hW2⟩ : ∃ W2, X.setCell ⟨c + 1 + 1 + 1 + 1 + 1, 0, none⟩ (.int .i64 0) = W2 := ⟨_, rfl⟩
    have hk2 := HKX.out
    have hd2 := HD.out
    rw [show ((0 : Nat) : Int) = 0 by rfl, show c + 5 = c + 1 + 1 + 1 + 1 + 1 by rfl, hW2] at hk2
    rw [show c + 5 = c + 1 + 1 + 1 + 1 + 1 by rfl, hW2] at hd2
    rw [hW2]
    have hz2 : c + 6 ≤ W2.heap.size := hk2.size
    have hD2 : D < W2.heap.size := (Array.getElem?_eq_some_iff.1 hd2).1
    have HK2 := Hid.mk' hk2
    have HD2 := Hid.mk' hd2
    clear hW2 hk2 hd2 HKX HD
    rename_i KK hKK
    have HKK := Hid.mk' hKK
    clear hKK
    refine wpIn_rangeS rfl (by omega) (gf := 35) (lb := #[.pointer (some ⟨c + 1 + 1, 0, none⟩), .pointer (some ⟨c + 1, 0, none⟩)]) rfl trivial (enters_of Try.func35 (by kernel_rfl) rfl)
      (all_seqN 5 (by omega) (c + 1 + 1) (c + 1) B1 sb gm g2 cn cw (Mn.wds fold L) fold t HWK.out (by omega) W2 HK2.out.bt.cell HK2.out.bs.cell (HMX.out W2 HK2.out.bel)) (fun _ h => h.elim) KpB.t (fun V k o o' hk _ _ i hi => World.putObj_heap_other (by rcases hi with rfl | rfl | rfl | rfl | rfl <;> omega)) (Below.refl _ _) (fun _ => rfl)
      (fun pre X => AnK w6 c m c6 stop p6 sb t pre.length X ∧ X.heap[D]? = some (.deferred (some []))) (fun _ _ _ => False)
      (fun pre X Y row hX hg hr => ⟨hX.1.ab hg (fun r e => by have := (hr r e).1; omega), (hg.block D (Array.getElem?_eq_some_iff.1 hX.2).1 (fun e => by have := (hr D e.symm).1; omega)).trans hX.2⟩)
      (fun cd pre X Y row hX hg hr => hX)
      ⟨HK2.out, HD2.out⟩ (fun _ _ _ => rfl) (fun x => [(24, .int .i64 (x.1 : Int)), (25, .int .i64 (x.2 : Int))]) ?assign2 ?body2 ?done2 ?stop2
    case assign2 =>
      intro l pre x X K hK
      simp only [encM] at hK ⊢
      gi_wp2
      refine fk_to hK ?_
      simp
    case stop2 => exact fun D c pre X hD hpre h => h.elim
    case done2 =>
      rintro E xs X hE rfl ⟨hk, hdf⟩ hde
      refine HKK.out _ _ ?_
      rw [HAL.out, HM.out] at hk
      have hj := HJX.out X hk.bel
      obtain ⟨cA, fA⟩ := hj.cres
      have ck := hk.bk.cell
      have cw := hk.bw.cell
      have hmm : ((m : Int) == (m : Int)) = true := by simp
      have FIN := Hid.mk' (hj.done (.bool true))
      have hDE : D < E := by omega
      have HE := Hid.mk' ((set_heap X (b + 1) E 0 (.bool true) (by omega)).trans hde)
      have HD3 := Hid.mk' ((set_heap X (b + 1) D 0 (.bool true) (by omega)).trans hdf)
      clear hk hdf hde hj
      gi_wp2
      obtain ⟨X1, hX1⟩ : ∃ X1, X.setCell ⟨b + 1, 0, none⟩ (.bool true) = X1 := ⟨_, rfl⟩
      obtain ⟨f1, f2, f3⟩ := FIN.out
      have e1 := HE.out
      have e2 := HD3.out
      rw [hX1] at f1 f2 f3 e1 e2 ⊢
      have e3 : (X1.putObj E (.deferred none)).heap[D]? = some (.deferred (some [])) := (World.putObj_heap_other (by omega)).trans e2
      have hgb := HJX.out W2 HK2.out.bel
      have hlo := hgb.lo
      refine ⟨by simp, .inl ⟨_, _, rfl, run_takeDeferred e1, ?_⟩⟩
      refine ⟨by simp, .inl ⟨_, _, rfl, run_takeDeferred e3, ?_⟩⟩
      have hbk : ((X1.putObj E (.deferred none)).putObj D (.deferred none)).heap[b + 1]? = X1.heap[b + 1]? := (World.putObj_heap_other (by omega)).trans (World.putObj_heap_other (by omega))
      have hcb : ((X1.putObj E (.deferred none)).putObj D (.deferred none)).cell? ⟨b + 1, 0, none⟩ = some (.bool true) := (World.cell?_of_block (a := ⟨b + 1, 0, none⟩) hbk).trans f3
      refine ⟨.bool true, ?_, rfl, ⟨n, by omega, (f1.put e1 _).put e3 _⟩, ?_⟩
      · simp [results, Try.f15, go_sem, hcb]
      · exact ⟨f2.os, f2.tape, f2.output, by simpa using f2.size, fun k hk => (World.putObj_heap_other (by omega)).trans ((World.putObj_heap_other (by omega)).trans (f2.block k hk))⟩
    case body2 =>
      rintro l pre ⟨q, v⟩ X hl ⟨rl, hrl⟩ ⟨hk, hdf⟩ hpre
      rw [HAL.out] at hpre
      have hget : AL[pre.length]? = some (q, v) := by
        obtain ⟨s, hs⟩ := hpre
        rw [← hs]
        simp
      obtain ⟨np, hnp⟩ : ∃ np, pre.length = np := ⟨_, rfl⟩
      rw [hnp] at hk hget
      have hnm : np < m := by rw [← HM.out]; exact (List.getElem?_eq_some_iff.1 hget).1
      obtain ⟨g6, hp6, hg6, k1, k2⟩ := fd_cells (HOX.out X hk.bel) hget (by omega)
      have HNP := Hid.mk' hnp
      have HKX := Hid.mk' hk
      have HDX := Hid.mk' hdf
      have HRL := Hid.mk' hrl
      have ck := hk.bk.cell
      have fk := hk.bk.frozen
      have cs := hk.bp.cell
      have cw := hk.bw.cell
      have ca : ∀ o, (X.alloc o).cell? ⟨c + 3, 0, none⟩ = some (fnA c) := fun o => (hk.ba.alloc o).cell
      have hqlI : ¬ (m : Int) ≤ (np : Int) := by omega
      have hqlB : decide ((m : Int) ≤ (np : Int)) = false := by simp; omega
      subst hp6
      clear hk hpre hget hnp hdf hrl
      apply fp_act
      case e => simp [encM]; rfl
      simp only at k1 k2
      by_cases hsq : np = stop
      · have hsqI : ((np : Int) == (stop : Int)) = true := by simp; omega
        have HSQ := Hid.mk' hsq
        clear hsq
        gi_wp2
        obtain ⟨W3, hW3⟩ : ∃ W3, X.alloc (.cells #[.int .i64 0] 3) = W3 := ⟨_, rfl⟩
        refine wp_world W3 hW3 ?_
        have hzX := HKX.out.size
        have hDX : D < X.heap.size := (Array.getElem?_eq_some_iff.1 HDX.out).1
        have hz3 : W3.heap.size = X.heap.size + 1 := by rw [← hW3]; simp
        have hk3 : AnK w6 c m c6 stop (some ⟨g6, 0, none⟩) sb t np W3 := by
          have h9 := HKX.out.ab (World.grownBy_alloc X (.cells #[.int .i64 0] 3) none) (fun r e => by cases e)
          rw [hW3] at h9
          exact h9
        have hn3 : Boxed W3 X.heap.size 3 (.int .i64 0) := by rw [← hW3]; exact Boxed.new X _ _
        have hd3 : W3.heap[D]? = some (.deferred (some [])) := by rw [← hW3, Below.heap_alloc _ _ _ hDX]; exact HDX.out
        have hl3 : W3.heap[l]? = some (.loop rl) := by rw [← hW3, Below.heap_alloc _ _ _ (Array.getElem?_eq_some_iff.1 HRL.out).1]; exact HRL.out
        have hkk3 : KeptW W2.heap.size noW X W3 := by
          rw [← hW3]
          exact ⟨by simp, fun i o _ h _ => (Below.heap_alloc _ _ _ (Array.getElem?_eq_some_iff.1 h).1).trans h⟩
        have hkp3 : KpB (DM sb gm g2 (c + 1 + 1) (c + 1)) X W3 := fun k hk => by rw [← hW3]; exact Below.heap_alloc _ _ _ (by rcases hk with rfl | rfl | rfl | rfl | rfl <;> omega)
        have hdm : ∀ k, DM sb gm g2 (c + 1 + 1) (c + 1) k → k < c + 5 := fun k hk => by rcases hk with rfl | rfl | rfl | rfl | rfl <;> omega
        have HX3 := Hid.mk' (And.intro hk3 (And.intro hn3 (And.intro hd3 (And.intro hkk3 hkp3))))
        clear hW3 ck fk cs cw ca k1 k2
        refine wpIn_rangeS_in (l₀ := l) (r₀ := rl) rfl hl3 (by omega) (gf := 35) (lb := #[.pointer (some ⟨c + 1 + 1, 0, none⟩), .pointer (some ⟨c + 1, 0, none⟩)]) rfl trivial (enters_of Try.func35 (by kernel_rfl) rfl)
          (seqW_of m (show SeqN (Fence.wide.inRound l) 3 Try.prog 35 #[.pointer (some ⟨c + 1 + 1, 0, none⟩), .pointer (some ⟨c + 1, 0, none⟩)] encM noW (KpB (DM sb gm g2 (c + 1 + 1) (c + 1))) (fun ys => ys = Mn.allF (Mn.wds fold L) (tx fold t)) (fun pre => pre <+: Mn.allF (Mn.wds fold L) (tx fold t)) W3 from all_seqN 3 (by omega) (c + 1 + 1) (c + 1) B1 sb gm g2 cn cw (Mn.wds fold L) fold t HWK.out (by omega) W3 HX3.out.1.bt.cell HX3.out.1.bs.cell (HMX.out W3 HX3.out.1.bel)) (fun pre x h => by rw [HAL.out] at h; have := h.length_le; rw [List.length_append, HM.out] at this; simp at this; omega)) (fun _ h => h.elim) KpB.t (fun V k o o' hk _ _ i hi => World.putObj_heap_other (by have := hdm i hi; omega)) (Below.refl _ _) (fun _ => rfl)
          (fun qre Y => AnK w6 c m c6 stop (some ⟨g6, 0, none⟩) sb t np Y ∧ Boxed Y X.heap.size 3 (.int .i64 (qre.length : Int)) ∧ Y.heap[D]? = some (.deferred (some [])) ∧ KeptW W2.heap.size noW X Y ∧ KpB (DM sb gm g2 (c + 1 + 1) (c + 1)) X Y) (fun _ _ _ => False)
          (fun qre Y Z row h hg hr => ⟨h.1.ab hg (fun r e => by have := (hr r e).1; omega), h.2.1.kept hg (fun e => by have := (hr _ e.symm).1; omega), (hg.block D (Array.getElem?_eq_some_iff.1 h.2.2.1).1 (fun e => by have := (hr D e.symm).1; omega)).trans h.2.2.1, kept_ab h.2.2.2.1 hg (fun r e => (hr r e).1) (by omega), kpb_ab h.2.2.2.2 hg (fun r e => (hr r e).1) (fun k hk => by have := hdm k hk; have := h.1.size; omega)⟩)
          (fun cd pre X Y row hX hg hr => hX)
          HX3.out (fun _ _ _ => rfl) (fun x => []) ?assign3 ?body3 ?done3 ?stop3
        case assign3 =>
          intro l2 pre x Y K hK
          simp only [encM] at hK ⊢
          gi_wp2
          refine fk_to hK ?_
          simp
        case stop3 => exact fun c pre X hpre h => h.elim
        case body3 =>
          rintro l2 qre ⟨q2, v2⟩ Y hl2 ⟨hk, hnb, hdf, hkk, hkp⟩ hlen
          obtain ⟨nq, hnq2⟩ : ∃ nq, qre.length = nq := ⟨_, rfl⟩
          rw [hnq2] at hnb hlen
          have cn2 := hnb.cell
          have fn2 := hnb.frozen
          have HNQ := Hid.mk' hnq2
          have HY := Hid.mk' (And.intro hk (And.intro hnb (And.intro hdf (And.intro hkk hkp))))
          clear hk hnb hdf hkk hkp hnq2
          apply fp_act
          case e => simp [encM]; rfl
          gi_wp2
          obtain ⟨h1, h2, h3, h4, h5⟩ := HY.out
          exact ⟨keptW_one _ h2 _, kpb_set (fun hd => by have := hdm _ hd; omega) _, h1.other (by omega) _, by have h9 := h2.set (.int .i64 ((nq : Int) + 1)); rw [List.length_append, HNQ.out]; simpa using h9, (set_heap Y _ D 0 _ (by omega)).trans h3, h4.trans (keptW_one _ h2 _), h5.t (kpb_set (fun hd => by have := hdm _ hd; omega) _)⟩
        case done3 =>
          rintro xs Y rfl ⟨hk, hnb, hdf, hkk, hkp⟩
          rw [HAL.out, HM.out] at hnb
          have cn2 := hnb.cell
          have cw2 := hk.bw.cell
          have ck2 := hk.bk.cell
          have fk2 := hk.bk.frozen
          have hmm : ((m : Int) != (m : Int)) = false := by simp
          have HY := Hid.mk' (And.intro hk (And.intro hdf (And.intro hkk hkp)))
          clear hk hnb hdf hkk hkp
          gi_wp2
          obtain ⟨h1, h3, h4, h5⟩ := HY.out
          exact ⟨h4.trans (keptW_one _ h1.bk _), h5.t (kpb_set (hnd _ (by omega)) _), by have h9 := h1.setk (np + 1); rw [List.length_append, HNP.out]; simpa using h9, (set_heap Y _ D 0 _ (by omega)).trans h3⟩
      · have hsqI : ((np : Int) == (stop : Int)) = false := by simp; omega
        gi_wp2
        exact ⟨keptW_one _ HKX.out.bk _, kpb_set (hnd _ (by omega)) _, by have h9 := HKX.out.setk (np + 1); rw [List.length_append, HNP.out]; simpa using h9, (set_heap X _ D 0 _ (by omega)).trans HDX.out⟩
  have HREST := Hid.mk' rest
  clear rest
  refine wpIn_rangeS rfl (by omega) (gf := 35) (lb := #[.pointer (some ⟨c + 1 + 1, 0, none⟩), .pointer (some ⟨c + 1, 0, none⟩)]) rfl trivial (enters_of Try.func35 (by kernel_rfl) rfl)
    (all_seqN 5 (by omega) (c + 1 + 1) (c + 1) B1 sb gm g2 cn cw (Mn.wds fold L) fold t HWK.out (by omega) W0 HK0.out.bt.cell HK0.out.bs.cell (HMX.out W0 HK0.out.bel)) (fun _ h => h.elim) KpB.t (fun V k o o' hk _ _ i hi => World.putObj_heap_other (by rw [hz0] at hk; rcases hi with rfl | rfl | rfl | rfl | rfl <;> omega)) (Below.refl _ _) (fun _ => rfl)
    (fun pre X => AnK w6 c m c6 stop p6 sb t pre.length X ∧ pre.length ≤ stop) (fun cd pre X => cd = .exit 1 ∧ AnK w6 c m c6 stop p6 sb t stop X)
    (fun pre X Y row hX hg hr => ⟨hX.1.ab hg (fun r e => by rw [← hz0]; exact (hr r e).1), hX.2⟩)
    (fun cd pre X Y row hX hg hr => ⟨hX.1, hX.2.ab hg (fun r e => by rw [← hz0]; exact (hr r e).1)⟩)
    ⟨HK0.out, Nat.zero_le _⟩ (fun _ _ _ => rfl) (fun x => [(22, .int .i64 (x.1 : Int)), (23, .int .i64 (x.2 : Int))]) ?assign1 ?body1 ?done1 ?stop1
  case assign1 =>
    intro l pre x X K hK
    simp only [encM] at hK ⊢
    gi_wp2
    refine fk_to hK ?_
    simp
  case done1 =>
    rintro D xs X hD rfl ⟨hk, hle⟩ hdf
    refine HREST.out D X (by omega) ?_ hdf
    rw [HAL.out, HM.out] at hk hle
    have e : m = stop := by omega
    subst e
    exact hk
  case stop1 =>
    rintro D cd pre X hD hpre ⟨rfl, hk⟩ hdf
    have HF := Hid.mk' (And.intro hk hdf)
    clear hk hdf
    gi_wp2
    exact HREST.out D X (by omega) HF.out.1 HF.out.2
  case body1 =>
    rintro l pre ⟨q, v⟩ X hl _ ⟨hk, hle⟩ hpre
    rw [HAL.out] at hpre
    have hget : AL[pre.length]? = some (q, v) := by
      obtain ⟨s, hs⟩ := hpre
      rw [← hs]
      simp
    obtain ⟨np, hnp⟩ : ∃ np, pre.length = np := ⟨_, rfl⟩
    rw [hnp] at hk hle hget
    have hnm : np < m := by rw [← HM.out]; exact (List.getElem?_eq_some_iff.1 hget).1
    obtain ⟨g6, hp6, hg6, k1, k2⟩ := fd_cells (HOX.out X hk.bel) hget (by omega)
    have HNP := Hid.mk' hnp
    have HKX := Hid.mk' hk
    have ck := hk.bk.cell
    have fk := hk.bk.frozen
    have cs := hk.bp.cell
    have cw := hk.bw.cell
    have hqlI : ¬ (m : Int) ≤ (np : Int) := by omega
    have hqlB : decide ((m : Int) ≤ (np : Int)) = false := by simp; omega
    subst hp6
    clear hk hpre hget hnp
    apply fp_act
    case e => simp [encM]; rfl
    by_cases hsq : np = stop
    · have hsqI : ((np : Int) == (stop : Int)) = true := by simp; omega
      have HSQ := Hid.mk' hsq
      clear hsq
      gi_wp2
      exact ⟨KeptW.refl _ _ _, rfl, by have h9 := HKX.out; have e := HSQ.out; subst e; exact h9⟩
    · have hsqI : ((np : Int) == (stop : Int)) = false := by simp; omega
      simp only at k1 k2
      gi_wp2
      exact ⟨keptW_one _ HKX.out.bk _, kpb_set (hnd _ (by omega)) _, by have h9 := HKX.out.setk (np + 1); rw [List.length_append, HNP.out]; simpa using h9, by rw [List.length_append, HNP.out]; show np + 1 ≤ stop; omega⟩
end Go.Proofs.Ytlbfnchjbpioeaa

namespace Go.Proofs.Ytlbfnchjbpioeaa
open Go.RowKit Go.Shelf
set_option linter.unusedVariables false
/-- it is kept where what lies there is kept -/
def Kept (K : World → Prop) : Prop := ∀ V V', Below V.heap.size V V' → K V → K V'
structure MkP (K : World → Prop) (b b1 n : Nat) (R : List ByteArray) (w V : World) : Prop where
  row : V.heap[b1]? = some (.cells (rowV (fun j => .string (lentF R j)) (n + 8)).toArray 9 (0, 0))
  bel : Below b w V
  lo : b ≤ b1
  len : R.length = n
  kp : Kept K
  ex : K V
structure MkW (K : World → Prop) (b b1 n : Nat) (p : Option Addr) (R : List ByteArray) (w V : World) : Prop extends MkP K b b1 n R w V where
  str : StrAt V p R
section
variable {K : World → Prop} {b b1 n : Nat} {p : Option Addr} {R : List ByteArray} {w V V' : World} {fold : Bool}
theorem MkP.keep (h : MkP K b b1 n R w V) (hb : Below V.heap.size V V') : MkP K b b1 n R w V' :=
  have hlt : b1 < V.heap.size := (Array.getElem?_eq_some_iff.1 h.row).1
  ⟨(hb.block b1 hlt).trans h.row, h.bel.trans ⟨hb.os, hb.tape, hb.output, hb.size, fun k hk => hb.block k (by have := h.lo; omega)⟩, h.lo, h.len, h.kp, h.kp _ _ hb h.ex⟩
theorem MkW.keep (h : MkW K b b1 n p R w V) (hb : Below V.heap.size V V') : MkW K b b1 n p R w V' := ⟨h.toMkP.keep hb, h.str.keep hb⟩
theorem MkW.drew (h : MkW K b b1 n p R w V) (e : ∃ j, V' = V.drewN j) : MkW K b b1 n p R w V' := by
  obtain ⟨j, rfl⟩ := e
  exact h.keep ((Below.refl _ V).drewN' j)
theorem MkP.more {K' : World → Prop} (h : MkP K b b1 n R w V) (hk : Kept K') (hx : K' V) : MkP (fun V => K V ∧ K' V) b b1 n R w V :=
  ⟨h.row, h.bel, h.lo, h.len, fun V V' hb hx => ⟨h.kp V V' hb hx.1, hk V V' hb hx.2⟩, h.ex, hx⟩
theorem MkP.lt (h : MkP K b b1 n R w V) : b1 < V.heap.size := (Array.getElem?_eq_some_iff.1 h.row).1
theorem MkP.own (h : MkP K b b1 n R w V) : StrAt V (some ⟨b1, 0, none⟩) R := fun i hi => by
  refine ⟨b1, 0, rfl, ?_⟩
  rw [Nat.zero_add, cell_row (w' := V) h.row (by have := h.len; omega) ⟨0, rfl⟩]
  unfold lentF
  rw [if_pos hi]
def OneM (b1 sb : Nat) (fold : Bool) (R : List ByteArray) (V : World) : Prop := ∃ B, b1 < B ∧ ManyM B sb (Mn.wds fold R) fold V
def TwoM (b1 sb g : Nat) (fold : Bool) (R : List ByteArray) (V : World) : Prop := OneM b1 sb fold R V ∧ ∃ B q c, b1 < B ∧ B ≤ V.heap.size ∧ RefM B g R.length fold R q c V V
theorem kept_one (b1 sb : Nat) (fold : Bool) (R : List ByteArray) : Kept (OneM b1 sb fold R) := by
  rintro V V' hb ⟨B, h1, h2⟩
  exact ⟨B, h1, h2.keep hb⟩
theorem kept_two (b1 sb g : Nat) (fold : Bool) (R : List ByteArray) : Kept (TwoM b1 sb g fold R) := by
  rintro V V' hb ⟨h0, B, q, c, h1, h2, h3⟩
  have h4 := h3.keep h2 hb
  exact ⟨kept_one _ _ _ _ V V' hb h0, B, q, c, h1, Nat.le_trans h2 hb.size, h4.st, h4.row, Below.refl _ _, h4.len, h4.lo⟩
theorem kept_true : Kept (fun _ => True) := fun _ _ _ _ => trivial
theorem many_set {B sb : Nat} {W : List (List Nat)} (h : ManyM B sb W fold V) (hb : b1 < B) (o : Nat) (u : Value) : ManyM B sb W fold (V.setCell ⟨b1, o, none⟩ u) := by
  obtain ⟨g, cn, g2, cw, h⟩ := h
  have hs := h.sB
  refine ⟨g, cn, g2, cw, (set_heap V b1 sb o u (by omega)).trans h.st, mr_set h.nod ?_ o u, mr_set h.wrd ?_ o u, hs⟩
  · intro e
    have := (h.nod.lt _ e).1
    omega
  · intro e
    have := (h.wrd.lt _ e).1
    omega
theorem two_set {sb g : Nat} (h : TwoM b1 sb g fold R V) (o : Nat) (u : Value) : TwoM b1 sb g fold R (V.setCell ⟨b1, o, none⟩ u) := by
  obtain ⟨⟨B, h1, h2⟩, B', q, c, h3, h4, h5⟩ := h
  refine ⟨⟨B, h1, many_set h2 h1 o u⟩, B', q, c, h3, by simpa [World.setCell] using h4, (set_heap V b1 g o u (by have := h5.lo; omega)).trans h5.st, mr_set h5.row ?_ o u, Below.refl _ _, h5.len, h5.lo⟩
  intro e
  have := (h5.row.lt _ e).1
  omega
@[irreducible] def nsW (fold : Bool) (R : List ByteArray) : Int := ((Mn.nsOf (Mn.wds fold R)).length : Int)
theorem two_states {sb g : Nat} (h : TwoM b1 sb g fold R V) :
    Calls Try.prog 12 #[.pointer (some ⟨sb, 0, none⟩)] V fun e w' => e = .returned (.int .i64 (nsW fold R)) ∧ w' = V := by
  obtain ⟨⟨B, h1, h2⟩, _⟩ := h
  unfold nsW
  exact states_many B sb _ fold V h2
theorem two_ref {sb g : Nat} (h : TwoM b1 sb g fold R V) (hg : Mn.Good fold R) :
    Calls Try.prog 13 #[.pointer (some ⟨g, 0, none⟩)] V fun e w' => e = .returned (.int .i64 (nsW fold R)) ∧ ∃ j, w' = V.drewN j := by
  obtain ⟨_, B, q, c, h1, h2, h3⟩ := h
  unfold nsW
  exact refStates_good B g R.length fold R q c V V h3 hg
theorem mk_lent (cap : Nat) (h : StrAt w p R) (hb : w.heap.size = b) (hB : Below b w V) (hn : R.length = n) (hl : n ≤ 8796093022208) :
    Calls Try.prog 8 #[.slice p n cap] V fun e w' => ∃ b1, e = .returned (.slice (some ⟨b1, 0, none⟩) n (n + 8)) ∧ MkW (fun _ => True) b b1 n p R w w' := by
  subst hb hn
  have h1 : StrAt V p R := h.keep hB
  refine (lent_any p cap R V h1 hl).mono ?_
  rintro e w' ⟨rfl, hr, hb2⟩
  exact ⟨V.heap.size, rfl, ⟨hr, hB.trans ⟨hb2.os, hb2.tape, hb2.output, hb2.size, fun k hk => hb2.block k (by have := hB.size; omega)⟩, hB.size, rfl, kept_true, trivial⟩, h1.keep hb2⟩
theorem mk_newG (h : MkW K b b1 n p R w V) (hg : Mn.Good fold R) (hsz : ∀ x ∈ R, x.size ≤ 140737488351232) :
    Calls Try.prog 9 #[.slice (some ⟨b1, 0, none⟩) n (n + 8), .bool fold] V fun e w' => ∃ sb, e = .returned (.tuple #[.pointer (some ⟨sb, 0, none⟩), .int .i64 0, .int .i64 0]) ∧ MkW (fun V => K V ∧ OneM b1 sb fold R V) b b1 n p R w w' := by
  obtain rfl := h.len
  have := hg.few
  refine (new_good (some ⟨b1, 0, none⟩) (R.length + 8) R fold V h.own hg (by omega) (by omega) hsz).mono ?_
  rintro e w' ⟨sb, rfl, hm, hb⟩
  have h2 := h.keep hb
  exact ⟨sb, rfl, h2.toMkP.more (kept_one _ _ _ _) ⟨_, h.lt, hm⟩, h2.str⟩
theorem mk_newB (k : Nat) (h : MkW K b b1 n p R w V) (hk : Mn.badN fold R k) (hl : n ≤ 8796093022208) (hsz : ∀ x ∈ R, x.size ≤ 140737488351232) :
    Calls Try.prog 9 #[.slice (some ⟨b1, 0, none⟩) n (n + 8), .bool fold] V fun e w' => e = .returned (.tuple #[.pointer none, .int .i64 70, .int .i64 (k : Int)]) ∧ MkW K b b1 n p R w w' := by
  obtain rfl := h.len
  refine (new_bad (some ⟨b1, 0, none⟩) (R.length + 8) R fold V k h.own hk hl (by omega) (by omega) hsz).mono ?_
  rintro e w' ⟨rfl, hb⟩
  exact ⟨rfl, h.keep hb⟩
theorem mk_refG {sb : Nat} (cap : Nat) (h : MkW (fun V => K V ∧ OneM b1 sb fold R V) b b1 n p R w V) (hg : Mn.Good fold R) (hsz : ∀ x ∈ R, x.size ≤ 140737488351232) :
    Calls Try.prog 10 #[.slice p n cap, .bool fold] V fun e w' => ∃ g, e = .returned (.tuple #[.pointer (some ⟨g, 0, none⟩), .int .i64 0, .int .i64 0]) ∧ MkW (fun V => K V ∧ TwoM b1 sb g fold R V) b b1 n p R w w' := by
  obtain rfl := h.len
  refine (ref_good p cap R fold V h.str hg hsz).mono ?_
  rintro e w' ⟨g, q, c, rfl, hm⟩
  have hb := hm.bel
  have h2 := h.keep hb
  have hK : Kept (fun V => K V ∧ TwoM b1 sb g fold R V) := by
    rintro X Y hxy ⟨h3, h4⟩
    exact ⟨(h.kp X Y hxy ⟨h3, h4.1⟩).1, kept_two _ _ _ _ _ X Y hxy h4⟩
  exact ⟨g, rfl, ⟨h2.row, h2.bel, h2.lo, h2.len, hK, h2.ex.1, h2.ex.2, _, q, c, h.lt, hb.size, hm.st, hm.row, Below.refl _ _, hm.len, hm.lo⟩, h2.str⟩
theorem mk_refB (k : Nat) (cap : Nat) (h : MkW K b b1 n p R w V) (hk : Mn.badN fold R k) (hl : n ≤ 8796093022208) (hsz : ∀ x ∈ R, x.size ≤ 140737488351232) :
    Calls Try.prog 10 #[.slice p n cap, .bool fold] V fun e w' => e = .returned (.tuple #[.pointer none, .int .i64 70, .int .i64 (k : Int)]) ∧ MkW K b b1 n p R w w' := by
  obtain rfl := h.len
  refine (ref_bad p cap R fold V k h.str hk hl hsz).mono ?_
  rintro e w' ⟨rfl, hb⟩
  exact ⟨rfl, h.keep hb⟩
theorem mk_still (cap : Nat) (h : MkW K b b1 n p R w V) (hl : n ≤ 8796093022208) :
    Calls Try.prog 11 #[.slice (some ⟨b1, 0, none⟩) n (n + 8), .slice p n cap] V fun e w' => e = .returned (.bool true) ∧ MkW K b b1 n p R w w' := by
  obtain rfl := h.len
  refine (still_any b1 p cap R V h.str h.row hl).mono ?_
  rintro e w' ⟨rfl, hw⟩
  exact ⟨rfl, h.drew hw⟩
theorem lent_set (R : List ByteArray) (r : Nat) (x : ByteArray) (hr : r < R.length) (j : Nat) : lentF (R.set r x) j = if j = r then x else lentF R j := by
  unfold lentF
  rw [List.length_set]
  by_cases e : j = r
  · subst e
    rw [if_pos hr, if_pos rfl, List.getD_eq_getElem?_getD, List.getElem?_set_self hr, Option.getD_some]
  · rw [if_neg e]
    by_cases h : j < R.length
    · rw [if_pos h, if_pos h, List.getD_eq_getElem?_getD, List.getD_eq_getElem?_getD, List.getElem?_set_ne (fun q => e q.symm)]
    · rw [if_neg h, if_neg h]
theorem MkP.put (h : MkP K b b1 n R w V) (r : Nat) (x : ByteArray) (hr : r < n) (hs : K (V.setCell ⟨b1, r, none⟩ (.string x))) : MkP K b b1 n (R.set r x) w (V.setCell ⟨b1, r, none⟩ (.string x)) := by
  refine ⟨?_, mb_set h.bel h.lo r _, h.lo, by rw [List.length_set]; exact h.len, h.kp, hs⟩
  refine (set_rowV h.row (by omega) (.string x)).trans ?_
  rw [rowV_congr (G := fun j => .string (lentF (R.set r x) j)) fun j _ => by
    rw [lent_set R r x (by have := h.len; omega)]
    by_cases e : j = r
    · rw [if_pos e, if_pos e]
    · rw [if_neg e, if_neg e]]
theorem MkP.cell (h : MkP K b b1 n R w V) (r : Nat) (hr : r < n) : V.cell? ⟨b1, r, none⟩ = some (.string (lentF R r)) ∧ V.frozen? ⟨b1, r, none⟩ = false :=
  ⟨cell_row h.row (by omega) ⟨0, rfl⟩, by simp [World.frozen?, h.row]⟩
theorem MkP.news (h : MkP K b b1 n R w V) : ∀ j u, (strL R)[j]? = some u → V.cell? ((⟨b1, 0, none⟩ : Addr).add j) = some u := by
  intro j u hu
  rw [Addr.add_lit, Nat.zero_add]
  unfold strL at hu
  rw [List.getElem?_map] at hu
  have hj : j < R.length := by
    rcases Nat.lt_or_ge j R.length with h1 | h1
    · exact h1
    · rw [List.getElem?_eq_none h1] at hu
      cases hu
  rw [cell_row (w' := V) h.row (by have := h.len; omega) ⟨0, rfl⟩]
  rw [List.getElem?_eq_getElem hj] at hu
  rw [← hu]
  unfold lentF
  rw [if_pos hj, List.getD_eq_getElem?_getD, List.getElem?_eq_getElem hj]
  rfl
theorem MkP.copy {B : Nat} {q : Option Addr} {c : Nat} (h : MkP K b b1 n R w V) (ho : V'.ownsRow B 9 1 (.slice q n c) n (strL R)) (hg : V.grownBy V' none) : MkW K b b1 n q R w V' := by
  have hb : Below V.heap.size V V' := ⟨hg.os, hg.tape, hg.output, hg.size, fun k hk => hg.block k hk (by simp)⟩
  exact ⟨h.keep hb, str_at ho h.len.symm⟩
end
end Go.Proofs.Ytlbfnchjbpioeaa

namespace Go.Proofs.Ytlbfnchjbpioeaa
open Go.RowKit Go.Shelf
set_option linter.unusedVariables false
theorem answers_any (B g n sb rg : Nat) (L : List ByteArray) (fold : Bool) (w1 V : World) (t : ByteArray) (frm kind leave : Int) (hA : AnsW g L fold sb rg w1) (h0 : Below g w1 V) (hk : BkW B g n V) (hB : B ≤ V.heap.size) (hg : g < V.heap.size) (hn : n ≤ 900) (ht : t.size ≤ 16777216) (hf : -9223372036854775808 ≤ frm ∧ frm ≤ 9223372036854775807) (hk1 : -9223372036854775808 ≤ kind ∧ kind ≤ 9223372036854775807) (hl : -9223372036854775808 ≤ leave ∧ leave ≤ 9223372036854775807) :
    Calls Try.prog 15 #[.pointer (some ⟨g, 0, none⟩), .pointer (some ⟨sb, 0, none⟩), .pointer (some ⟨rg, 0, none⟩), .agg #[.string t, .int .i64 frm, .int .i64 kind], .int .i64 leave] V fun e w' => e = .returned (.bool true) ∧ (∃ n', n' ≤ n + 2 ∧ BkW B g n' w') ∧ Below g V w' := by
  have h4 := pkN_lt kind 4 (by omega)
  rcases (show pkN kind 4 = 0 ∨ pkN kind 4 = 1 ∨ pkN kind 4 = 2 ∨ pkN kind 4 = 3 by omega) with h | h | h | h
  · exact ans0 B g n sb rg L fold w1 V t frm kind leave hA h0 hk hB hg hn ht hk1.1 hk1.2 h
  · exact ans1 B g n sb rg L fold w1 V t frm kind leave hA h0 hk hB hg ht hk1.1 hk1.2 h
  · exact ans2 B g n sb rg L fold w1 V t frm kind leave hA h0 hk hB hg ht hf.1 hf.2 hk1.1 hk1.2 h
  · exact ans3 B g n sb rg L fold w1 V t frm kind leave hA h0 hk hB hg ht hk1.1 hk1.2 hl.1 hl.2 h
theorem mk_lentK {K : World → Prop} {b n : Nat} {p : Option Addr} {R : List ByteArray} {w V : World} (cap : Nat) (h : StrAt w p R) (hb : w.heap.size = b) (hB : Below b w V) (hn : R.length = n) (hl : n ≤ 8796093022208) (hk : Kept K) (hx : K V) :
    Calls Try.prog 8 #[.slice p n cap] V fun e w' => ∃ b1, e = .returned (.slice (some ⟨b1, 0, none⟩) n (n + 8)) ∧ MkW K b b1 n p R w w' := by
  subst hb hn
  have h1 : StrAt V p R := h.keep hB
  refine (lent_any p cap R V h1 hl).mono ?_
  rintro e w' ⟨rfl, hr, hb2⟩
  exact ⟨V.heap.size, rfl, ⟨hr, hB.trans ⟨hb2.os, hb2.tape, hb2.output, hb2.size, fun k hk => hb2.block k (by have := hB.size; omega)⟩, hB.size, rfl, hk, hk V w' hb2 hx⟩, h1.keep hb2⟩
theorem ansW_of {b1 sb rg g : Nat} {fold : Bool} {R : List ByteArray} {V : World} (h : TwoM b1 sb rg fold R V) (hg : Mn.Good fold R) (hz : V.heap.size = g) : AnsW g R fold sb rg V := by
  obtain ⟨⟨B, _, h1⟩, B2, q, c, _, h2, h3⟩ := h
  exact ⟨hz, ⟨B, h1⟩, ⟨B2, R.length, q, c, h2, h3⟩, hg⟩
/-- the laws' loop over what is asked -/
structure FdW (g k : Nat) (w8 V : World) : Prop where
  book : BkW (g + 1) g k V
  bel : Below g w8 V
  siz : g + 1 ≤ V.heap.size
theorem FdW.start {g : Nat} {w8 : World} (hz : w8.heap.size = g) : FdW g 0 w8 (w8.alloc (.cells #[.slice none 0 0, .slice none 0 0, .slice none 0 0] 40)) := by
  have h := heap_alloc_new w8 (.cells #[.slice none 0 0, .slice none 0 0, .slice none 0 0] 40)
  rw [hz] at h
  refine ⟨⟨_, _, _, _, _, BookM.start (g + 1) g _ h (by omega), fun i hi => by omega⟩, ?_, by simp; omega⟩
  rw [← hz]
  exact (Below.refl _ w8).alloc (Nat.le_refl _) _
theorem FdW.ask {g k sb rg : Nat} {w8 V : World} {L : List ByteArray} {fold : Bool} (h : FdW g k w8 V) (hA : AnsW g L fold sb rg w8) (hk : k ≤ 900) (t : ByteArray) (frm kind leave : Int) (ht : t.size ≤ 16777216) (hf : -9223372036854775808 ≤ frm ∧ frm ≤ 9223372036854775807) (hk1 : -9223372036854775808 ≤ kind ∧ kind ≤ 9223372036854775807) (hl : -9223372036854775808 ≤ leave ∧ leave ≤ 9223372036854775807) :
    Calls Try.prog 15 #[.pointer (some ⟨g, 0, none⟩), .pointer (some ⟨sb, 0, none⟩), .pointer (some ⟨rg, 0, none⟩), .agg #[.string t, .int .i64 frm, .int .i64 kind], .int .i64 leave] V fun e w' => e = .returned (.bool true) ∧ ∃ k', k' ≤ k + 2 ∧ FdW g k' w8 w' := by
  refine (answers_any (g + 1) g k sb rg L fold w8 V t frm kind leave hA h.bel h.book h.siz (by have := h.siz; omega) hk ht hf hk1 hl).mono ?_
  rintro e w' ⟨rfl, ⟨n', h1, h2⟩, h3⟩
  exact ⟨rfl, n', h1, h2, h.bel.trans h3, Nat.le_trans h.siz h3.size⟩
theorem FdW.settles {g k : Nat} {w8 V : World} (h : FdW g k w8 V) (hk : k ≤ 900) : Calls Try.prog 16 #[.pointer (some ⟨g, 0, none⟩)] V fun e w' => e = .returned (.bool true) ∧ Below g w8 w' := by
  obtain ⟨F, vf, vw, xs, ys, h1, h2⟩ := h.book
  refine (settles_any (g + 1) g k F vf vw xs ys V h1 (by omega) h2 h.siz).mono ?_
  rintro e w' ⟨rfl, h3⟩
  exact ⟨rfl, h.bel.trans h3⟩
end Go.Proofs.Ytlbfnchjbpioeaa
