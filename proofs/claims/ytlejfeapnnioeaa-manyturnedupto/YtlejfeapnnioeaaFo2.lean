/-
  The laws' found, as it lies in memory. Conditions: as each says.
-/
import Derived.Test.YtlejfeapnnioeaaFo1
import Derived.Test.YtlejfeapnnioeaaRdn
import Derived.Test.YtlejfeapnnioeaaRngS
import Derived.Test.YtlejfeapnnioeaaRngQ
import Derived.Maps.AppendAt
namespace Go.Proofs.Ytlejfeapnnioeaa
open Go.RowKit Go.Shelf
set_option linter.unusedVariables false
theorem put_rowV {V : World} {b k i : Nat} {t : TypeId} {F : Nat → Value} (h : V.heap[b]? = some (.cells (rowV F k).toArray t (0, 0))) (hi : i < k) (u : Value) : (V.setCell ⟨b, i, none⟩ u).heap[b]? = some (.cells (rowV (fun j => if j = i then u else F j) k).toArray t (0, 0)) := by
  have h1 : (V.setCell ⟨b, i, none⟩ u).heap[b]? = some (.cells ((rowV F k).toArray.setIfInBounds i u) t (0, 0)) := by
    simp [World.setCell, Array.getElem?_modify, h]
  rw [h1]
  congr 2
  apply Array.ext_getElem?
  intro j
  rw [Array.getElem?_setIfInBounds, List.getElem?_toArray, List.getElem?_toArray]
  by_cases hj : j < k
  · rw [rowV_get _ _ _ hj, rowV_get _ _ _ hj]
    by_cases e : i = j
    · subst e
      simp [rowV_len, hj]
    · rw [if_neg e, if_neg (fun h => e h.symm)]
  · rw [if_neg (by omega), List.getElem?_eq_none (by rw [rowV_len]; omega), List.getElem?_eq_none (by rw [rowV_len]; omega)]
def Away (o r : Value) : Prop := ∀ k, o.ownBlock = some k → r.ownBlock ≠ some k
theorem away_nil (o : Value) : Away o (.slice none 0 0) := fun k _ h => by simp [Value.ownBlock] at h
theorem away_sym {o r : Value} (h : Away o r) : Away r o := fun k h1 h2 => h k h2 h1
theorem away_next {w w' : World} {base2 n : Nat} {o o' r : Value} {xs : List Value} (hr : w.ownsRow base2 3 1 r n xs) (ha : Away o r) (hg : w.grownBy w' o.ownBlock) (hat : o'.ownBlock = o.ownBlock ∨ o'.ownBlock = some w.heap.size) : w'.ownsRow base2 3 1 r n xs ∧ Away o' r := by
  refine ⟨mr_kept hr fun k hk => hg.block k (hr.lt k hk).2 (fun e => ha k e.symm hk), fun k hk hk2 => ?_⟩
  rcases hat with h | h
  · exact ha k (by rw [← h]; exact hk) hk2
  · rw [h] at hk
    simp only [Option.some.injEq] at hk
    have := (hr.lt k hk2).2
    omega
/-- rows of numbers, in a row of theirs -/
structure RowsM (base o m : Nat) (F : Nat → List Nat) (v : Nat → Value) (V : World) : Prop where
  top : V.heap[o]? = some (.cells (rowV v m).toArray 53 (0, 0))
  row : ∀ i, i < m → V.ownsRow base 3 1 (v i) (F i).length (intL (F i))
  apart : ∀ i j, i < m → j < m → i ≠ j → Away (v i) (v j)
  lo : o < base
section
variable {base o m : Nat} {F : Nat → List Nat} {v : Nat → Value} {V V' : World}
theorem RowsM.lt (h : RowsM base o m F v V) : o < V.heap.size := (Array.getElem?_eq_some_iff.1 h.top).1
theorem RowsM.kept (h : RowsM base o m F v V) (h0 : V'.heap[o]? = V.heap[o]?) (hk : ∀ i k, i < m → (v i).ownBlock = some k → V'.heap[k]? = V.heap[k]?) : RowsM base o m F v V' :=
  ⟨h0.trans h.top, fun i hi => mr_kept (h.row i hi) fun k e => hk i k hi e, h.apart, h.lo⟩
theorem RowsM.keep (h : RowsM base o m F v V) (hb : Below V.heap.size V V') : RowsM base o m F v V' :=
  h.kept (hb.block o h.lt) fun i k hi e => hb.block k ((h.row i hi).lt k e).2
theorem RowsM.cell (h : RowsM base o m F v V) (i : Nat) (hi : i < m) : V.cell? ⟨o, i, none⟩ = some (v i) ∧ V.frozen? ⟨o, i, none⟩ = false := by
  refine ⟨?_, by simp [World.frozen?, h.top]⟩
  simp only [World.cell?, h.top]
  rw [List.getElem?_toArray, rowV_get _ _ _ hi]
  rfl
/-- a row that is no row of cells turns, or one of no row here -/
theorem RowsM.turn (h : RowsM base o m F v V) {r : Option Nat} (hg : V.grownBy V' r) (hr : ∀ k, r = some k → ∃ x : Obj, V.heap[k]? = some x ∧ x.isCells = false) : RowsM base o m F v V' := by
  have hne : ∀ k cs t z, V.heap[k]? = some (.cells cs t z) → some k ≠ r := by
    intro k cs t z hk e
    obtain ⟨x, h1, h2⟩ := hr k e.symm
    rw [hk] at h1
    cases h1
    simp [Obj.isCells] at h2
  refine h.kept (hg.block o h.lt (hne _ _ _ _ h.top)) fun i k hi e => ?_
  obtain ⟨cur, hc⟩ := mr_block (h.row i hi) e
  exact hg.block k ((h.row i hi).lt k e).2 (hne _ _ _ _ hc)
/-- a number more in one row -/
theorem RowsM.next {i : Nat} {q : Nat} {u : Value} {W : World} (h : RowsM base o m F v V) (hi : i < m) (ho : W.ownsRow base 3 1 u ((F i).length + 1) (intL (F i) ++ [.int .i64 (q : Int)])) (hg : V.grownBy W (v i).ownBlock) (hat : u.ownBlock = (v i).ownBlock ∨ u.ownBlock = some V.heap.size) {G : Nat → List Nat} (hG : ∀ j, G j = if i = j then F j ++ [q] else F j) :
    RowsM base o m G (fun j => if j = i then u else v j) (W.setCell ⟨o, i, none⟩ u) := by
  have hne : ∀ k, (v i).ownBlock = some k → o ≠ k := fun k e => by
    have := ((h.row i hi).lt k e).1
    have := h.lo
    omega
  have htop : W.heap[o]? = some (.cells (rowV v m).toArray 53 (0, 0)) := (hg.block o h.lt (fun e => hne o e.symm rfl)).trans h.top
  refine ⟨?_, fun j hj => ?_, fun j k hj hk hjk => ?_, h.lo⟩
  · refine (put_rowV htop hi u).trans ?_
    rfl
  · have hno : ∀ (x : Value) (n : Nat) (xs : List Value), W.ownsRow base 3 1 x n xs → (W.setCell ⟨o, i, none⟩ u).ownsRow base 3 1 x n xs := fun x n xs hx => mr_set hx (fun e => by
      have := (hx.lt o e).1
      have := h.lo
      omega) _ _
    rw [hG j]
    by_cases e : j = i
    · subst e
      rw [if_pos rfl, if_pos rfl, List.length_append, List.length_singleton]
      refine hno _ _ _ ?_
      have e2 : intL (F j ++ [q]) = intL (F j) ++ [.int .i64 (q : Int)] := by simp [intL]
      rw [e2]
      exact ho
    · rw [if_neg e, if_neg (fun q => e q.symm)]
      exact hno _ _ _ (away_next (h.row j hj) (h.apart i j hi hj (fun q => e q.symm)) hg hat).1
  · by_cases e1 : j = i
    · subst e1
      rw [if_pos rfl, if_neg (fun q => hjk q.symm)]
      exact (away_next (h.row k hk) (h.apart j k hi hk hjk) hg hat).2
    · rw [if_neg e1]
      by_cases e2 : k = i
      · subst e2
        rw [if_pos rfl]
        exact away_sym (away_next (h.row j hj) (h.apart k j hi hj (fun q => hjk q.symm)) hg hat).2
      · rw [if_neg e2]
        exact h.apart j k hj hk hjk
end
theorem RowsM.start (base o m : Nat) (V : World) (h : V.heap[o]? = some (.cells (rowV (fun _ => .slice none 0 0) m).toArray 53 (0, 0))) (lo : o < base) : RowsM base o m (fun _ => []) (fun _ => .slice none 0 0) V :=
  ⟨h, fun i hi => World.ownsRow_nil _ _ _ _, fun i j _ _ _ => away_nil _, lo⟩
theorem infoSl : (Try.prog.info? 53).map (fun i => (i.zero, i.size, i.bytes)) = some (some (.slice none 0 0), 1, 24) := by kernel_rfl
theorem made_rows (n : Nat) : madeCells (Value.slice none 0 0).cells (n * 1) = (rowV (fun _ => .slice none 0 0) n).toArray := by
  apply Array.ext'
  apply List.ext_getElem
  · simp [rowV, madeCells]
  · intro i h1 h2
    simp [rowV, madeCells, Value.cells, Nat.mod_one]
theorem make_rows (n : Nat) (hn : n ≤ 1000000) (w : World) : (Instr.makeSlice 38 (.int .i64 (n : Int)) (.int .i64 (n : Int))).run Try.prog w = .ok (.slice (some ⟨w.heap.size, 0, none⟩) n n) (w.alloc (.cells (rowV (fun _ => .slice none 0 0) n).toArray 53)) := by
  obtain ⟨i0, hi, hz0, hz1, hz2⟩ := info_parts infoSl
  have := run_make (P := Try.prog) w 38 53 i0 (.slice none 0 0) Try.underlying38 hi hz0 .i64 .i64 (n : Int) (n : Int) (by omega) (by omega) (by rw [hz2]; omega) (by omega)
  rw [this, hz1, Int.toNat_natCast, made_rows n]
theorem RowsM.set {base o m : Nat} {F : Nat → List Nat} {v : Nat → Value} {V : World} (h : RowsM base o m F v V) {k : Nat} (hk : k < base) (hko : k ≠ o) (j : Nat) (u : Value) : RowsM base o m F v (V.setCell ⟨k, j, none⟩ u) :=
  h.kept (set_heap V k o j u (Ne.symm hko)) fun i r hi e => set_heap V k r j u (by have := ((h.row i hi).lt r e).1; omega)
/-- what found knows, from round to round -/
structure FoJ (b m : Nat) (w5 : World) (F : Nat → List Nat) (l z k : Nat) (v : Nat → Value) (V : World) : Prop where
  kp : ∀ i, i < b + 11 → i ≠ b + 4 → i ≠ b + 6 → i ≠ b + 7 → i ≠ b + 8 → V.heap[i]? = w5.heap[i]?
  rows : RowsM (b + 11) (b + 4) m F v V
  bl : V.heap[b + 6]? = some (.cells #[.int .i64 (l : Int)] 3 (0, 0))
  bz : V.heap[b + 7]? = some (.cells #[.int .i64 (z : Int)] 3 (0, 0))
  bn : V.heap[b + 8]? = some (.cells #[.int .i64 (k : Int)] 3 (0, 0))
  bel : Below b w5 V
  siz : b + 11 ≤ V.heap.size
section
variable {b m l z k : Nat} {w5 : World} {F : Nat → List Nat} {v : Nat → Value} {X Y : World}
theorem FoJ.ab {row : Option Nat} (h : FoJ b m w5 F l z k v X) (hg : X.grownBy Y row) (hr : ∀ r, row = some r → b + 11 ≤ r ∧ ∃ o : Obj, X.heap[r]? = some o ∧ (o.isCells = false ∨ noW o)) : FoJ b m w5 F l z k v Y := by
  have hs := h.siz
  have k : ∀ i, i < b + 11 → Y.heap[i]? = X.heap[i]? := fun i hi => hg.block i (by omega) (fun e => by have := (hr i e.symm).1; omega)
  refine ⟨fun i h1 h2 h3 h4 h5 => (k i h1).trans (h.kp i h1 h2 h3 h4 h5), h.rows.turn hg (fun r e => ?_), (k _ (by omega)).trans h.bl, (k _ (by omega)).trans h.bz, (k _ (by omega)).trans h.bn, h.bel.trans ⟨hg.os, hg.tape, hg.output, hg.size, fun i hi => k i (by omega)⟩, Nat.le_trans hs hg.size⟩
  obtain ⟨_, o, h1, h2⟩ := hr r e
  exact ⟨o, h1, h2.elim id (fun h => h.elim)⟩
theorem FoJ.drewN (h : FoJ b m w5 F l z k v X) (j : Nat) : FoJ b m w5 F l z k v (X.drewN j) := ⟨h.kp, ⟨h.rows.top, h.rows.row, h.rows.apart, h.rows.lo⟩, h.bl, h.bz, h.bn, h.bel.drewN' j, h.siz⟩
theorem one_set {V : World} {a : Nat} {x y : Value} {t : TypeId} (h : V.heap[a]? = some (.cells #[x] t (0, 0))) : (V.setCell ⟨a, 0, none⟩ y).heap[a]? = some (.cells #[y] t (0, 0)) := by
  simp [World.setCell, Array.getElem?_modify] at h ⊢
  simp [h]
theorem FoJ.putL (h : FoJ b m w5 F l z k v X) (l' : Nat) : FoJ b m w5 F l' z k v (X.setCell ⟨b + 6, 0, none⟩ (.int .i64 (l' : Int))) :=
  ⟨fun i h1 h2 h3 h4 h5 => (set_heap X (b + 6) i 0 _ h3).trans (h.kp i h1 h2 h3 h4 h5), h.rows.set (by omega) (by omega) _ _, one_set h.bl, (set_heap X (b + 6) _ 0 _ (by omega)).trans h.bz, (set_heap X (b + 6) _ 0 _ (by omega)).trans h.bn, mb_set h.bel (by omega) _ _, by simpa [World.setCell] using h.siz⟩
theorem FoJ.putZ (h : FoJ b m w5 F l z k v X) (z' : Nat) : FoJ b m w5 F l z' k v (X.setCell ⟨b + 7, 0, none⟩ (.int .i64 (z' : Int))) :=
  ⟨fun i h1 h2 h3 h4 h5 => (set_heap X (b + 7) i 0 _ h4).trans (h.kp i h1 h2 h3 h4 h5), h.rows.set (by omega) (by omega) _ _, (set_heap X (b + 7) _ 0 _ (by omega)).trans h.bl, one_set h.bz, (set_heap X (b + 7) _ 0 _ (by omega)).trans h.bn, mb_set h.bel (by omega) _ _, by simpa [World.setCell] using h.siz⟩
theorem FoJ.putN (h : FoJ b m w5 F l z k v X) (k' : Nat) : FoJ b m w5 F l z k' v (X.setCell ⟨b + 8, 0, none⟩ (.int .i64 (k' : Int))) :=
  ⟨fun i h1 h2 h3 h4 h5 => (set_heap X (b + 8) i 0 _ h5).trans (h.kp i h1 h2 h3 h4 h5), h.rows.set (by omega) (by omega) _ _, (set_heap X (b + 8) _ 0 _ (by omega)).trans h.bl, (set_heap X (b + 8) _ 0 _ (by omega)).trans h.bz, one_set h.bn, mb_set h.bel (by omega) _ _, by simpa [World.setCell] using h.siz⟩
theorem keptW_set {B : Nat} {V : World} {a : Nat} (ha : a < B) (j : Nat) (u : Value) : KeptW B noW V (V.setCell ⟨a, j, none⟩ u) :=
  ⟨by simp [World.setCell], fun k o hk ho _ => (set_heap V a k j u (by omega)).trans ho⟩
/-- a number is laid behind one of the rows -/
theorem FoJ.next {i q : Nat} {u : Value} (h : FoJ b m w5 F l z k v X) (hi : i < m) (hY : Y.ownsRow (b + 11) 3 1 u ((F i).length + 1) (intL (F i) ++ [.int .i64 (q : Int)])) (hg : (X.alloc (.cells #[.int .i64 (q : Int)] 3)).grownBy Y (v i).ownBlock) (hat : u.ownBlock = (v i).ownBlock ∨ u.ownBlock = some (X.heap.size + 1)) {G : Nat → List Nat} (hG : ∀ j, G j = if i = j then F j ++ [q] else F j) :
    FoJ b m w5 G l z k (fun j => if j = i then u else v j) (Y.setCell ⟨b + 4, i, none⟩ u) ∧ KeptW (b + 11) noW X (Y.setCell ⟨b + 4, i, none⟩ u) := by
  have hs := h.siz
  have ha : Below X.heap.size X (X.alloc (.cells #[.int .i64 (q : Int)] 3)) := (Below.refl _ X).alloc (Nat.le_refl _) _
  have hr := h.rows.keep ha
  have hlo : ∀ r, (v i).ownBlock = some r → b + 11 ≤ r := fun r e => ((h.rows.row i hi).lt r e).1
  have hk : ∀ j, j < b + 11 → Y.heap[j]? = X.heap[j]? := fun j hj => (hg.block j (by simp; omega) (fun e => by have := hlo j e.symm; omega)).trans (ha.block j (by omega))
  have hk4 : ∀ j, j < b + 11 → j ≠ b + 4 → (Y.setCell ⟨b + 4, i, none⟩ u).heap[j]? = X.heap[j]? := fun j hj h4 => (set_heap Y (b + 4) j i u h4).trans (hk j hj)
  refine ⟨⟨fun j h1 h2 h3 h4 h5 => (hk4 j h1 h2).trans (h.kp j h1 h2 h3 h4 h5), hr.next hi hY hg (by rw [World.size_alloc]; exact hat) hG, (hk4 _ (by omega) (by omega)).trans h.bl, (hk4 _ (by omega) (by omega)).trans h.bz, (hk4 _ (by omega) (by omega)).trans h.bn, ?_, ?_⟩, ?_, ?_⟩
  · refine mb_set (h.bel.trans ⟨hg.os, hg.tape, hg.output, ?_, fun j hj => hk j (by omega)⟩) (by omega) _ _
    have := hg.size
    simp at this
    omega
  · have := hg.size
    simp [World.setCell] at this ⊢
    omega
  · have := hg.size
    simp [World.setCell] at this ⊢
    omega
  · intro r o hr2 ho hn
    have hlt := (Array.getElem?_eq_some_iff.1 ho).1
    refine (set_heap Y (b + 4) r i u (by omega)).trans ((hg.block r (by simp; omega) ?_).trans ((ha.block r hlt).trans ho))
    intro e
    obtain ⟨cur, hc⟩ := mr_block (h.rows.row i hi) e.symm
    rw [ho] at hc
    cases hc
    rcases hn with h1 | h1
    · simp [Obj.isCells] at h1
    · exact h1
end
end Go.Proofs.Ytlejfeapnnioeaa
