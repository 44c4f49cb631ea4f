/-
  Lists of lines that came out, written full and grown: what lies in memory. Conditions: as each says.
-/
import Derived.Test.YtchhdkmflppjhaaRcO
import Derived.Test.YtchhdkmflppjhaaEnC
import Derived.Test.YtchhdkmflppjhaaEnF
import Derived.Maps.AppendAt
namespace Go.Proofs.Ytchhdkmflppjhaa
open Go.RowKit
set_option linter.unusedVariables false
set_option linter.unusedSimpArgs false
def Awy (o r : Value) : Prop := ∀ k, o.ownBlock = some k → r.ownBlock ≠ some k
theorem awy_sym {o r : Value} (h : Awy o r) : Awy r o := fun k h1 h2 => h k h2 h1
theorem sc_heap (w : World) (b k o : Nat) (u : Value) (h : k ≠ b) : (w.setCell ⟨b, o, none⟩ u).heap[k]? = w.heap[k]? := by
  simp only [World.setCell]
  rw [Array.getElem?_modify, if_neg (fun e => h e.symm)]
theorem row_set {w : World} {base n size : Nat} {e : TypeId} {v : Value} {xs : List Value} (h : w.ownsRow base e size v n xs) {b : Nat} (hne : v.ownBlock ≠ some b) (o : Nat) (u : Value) : (w.setCell ⟨b, o, none⟩ u).ownsRow base e size v n xs :=
  row_kept h fun k hk => sc_heap w b k o u (fun e => hne (by rw [← e]; exact hk))
theorem row_block {w : World} {base n size : Nat} {e : TypeId} {v : Value} {xs : List Value} (h : w.ownsRow base e size v n xs) {k : Nat} (hk : v.ownBlock = some k) : ∃ cur, w.heap[k]? = some (.cells cur e (0, 0)) := by
  rcases h.2 with ⟨rfl, _⟩ | ⟨g, cap, cur, rfl, _, hg, _⟩
  · cases hk
  · have e1 : g = k := by simpa [Value.ownBlock] using hk
    subst e1
    exact ⟨_, hg⟩
/-- nothing but the own blocks of three lists has turned -/
structure Svd (X : Nat → Value) (w w' : World) : Prop where
  os : w'.os = w.os
  tape : w'.tape = w.tape
  output : w'.output = w.output
  size : w.heap.size ≤ w'.heap.size
  block : ∀ k, k < w.heap.size → (∀ i, i < 3 → (X i).ownBlock ≠ some k) → w'.heap[k]? = w.heap[k]?
theorem Svd.refl (X : Nat → Value) (w : World) : Svd X w w := ⟨rfl, rfl, rfl, Nat.le_refl _, fun _ _ _ => rfl⟩
theorem Svd.drewN {X : Nat → Value} {w w' : World} (h : Svd X w w') (k : Nat) : Svd X w (w'.drewN k) := ⟨h.os, h.tape, h.output, h.size, h.block⟩
theorem Svd.set {X : Nat → Value} {w w' : World} (h : Svd X w w') {b : Nat} (hb : (∃ i, i < 3 ∧ (X i).ownBlock = some b) ∨ w.heap.size ≤ b) (o : Nat) (u : Value) : Svd X w (w'.setCell ⟨b, o, none⟩ u) :=
  ⟨h.os, h.tape, h.output, by simpa [World.setCell] using h.size, fun k hk hX => by
    rw [sc_heap _ _ _ _ _ (fun e => ?_)]
    · exact h.block k hk hX
    · subst e
      rcases hb with ⟨i, hi, e⟩ | e
      · exact hX i hi e
      · omega⟩
/-- a row of its own grows -/
theorem Svd.grow {X : Nat → Value} {w w' w2 : World} {o : Obj} (h : Svd X w w') {b : Option Nat} (hg : (w'.alloc o).grownBy w2 b) (hb : ∀ k, b = some k → (∃ i, i < 3 ∧ (X i).ownBlock = some k) ∨ w.heap.size ≤ k) : Svd X w w2 :=
  ⟨hg.os.trans h.os, hg.tape.trans h.tape, hg.output.trans h.output, by have h1 := hg.size; have h2 := h.size; rw [World.size_alloc] at h1; omega, fun k hk hX => by
    have hs := h.size
    rw [hg.block k (by rw [World.size_alloc]; omega) (fun e => ?_)]
    · exact (Below.heap_alloc _ _ _ (by omega)).trans (h.block k hk hX)
    · rcases hb k e.symm with ⟨i, hi, e2⟩ | e2
      · exact hX i hi e2
      · omega⟩
def mkA (i : Nat) : Rec.Ln := (-100 - (i : Int), ⟨#[]⟩)
def fulA (i r : Nat) : List Rec.Ln := List.replicate r (mkA i)
theorem fulA_len (i r : Nat) : (fulA i r).length = r := List.length_replicate
theorem fulA_snoc (i r : Nat) : lnV (fulA i r) ++ [.int .i64 (-100 - (i : Int)), .string ⟨#[]⟩] = lnV (fulA i (r + 1)) := by
  have e : fulA i (r + 1) = fulA i r ++ [mkA i] := by unfold fulA; rw [List.replicate_succ']
  rw [e, lnV_append]
  rfl
def rwA (f : Nat → Value) (n : Nat) : List Value := (List.range n).map f
theorem rwA_len (f : Nat → Value) (n : Nat) : (rwA f n).length = n := by simp [rwA]
theorem rwA_get (f : Nat → Value) (n i : Nat) (h : i < n) : (rwA f n)[i]? = some (f i) := by simp [rwA, h]
theorem rwA_snoc (f : Nat → Value) (n : Nat) (u : Value) : rwA (fun j => if j = n then u else f j) (n + 1) = rwA f n ++ [u] := by
  unfold rwA
  rw [List.range_succ, List.map_append]
  congr 1
  · exact List.map_congr_left fun j hj => if_neg (by have := List.mem_range.1 hj; omega)
  · simp
/-- a kept list: it reads as its mark, and lies where D says -/
def KpA (B : Nat) (V : World) (m : Rec.Ln) (z : Value) (D : Nat → Nat → Prop) : Prop := ∃ p c r, z = .slice p r c ∧ r ≤ 140000 ∧ (r = 0 ∨ ∃ g, p = some ⟨g, 0, none⟩ ∧ B ≤ g ∧ (∃ cs f, V.heap[g]? = some (.cells cs 35 f)) ∧ (∀ t, t < r → V.cell? ⟨g, t * 2, none⟩ = some (.int .i64 m.1) ∧ V.cell? ⟨g, t * 2 + 1, none⟩ = some (.string m.2)) ∧ D g r)
theorem KpA.mono {B : Nat} {V V' : World} {m : Rec.Ln} {z : Value} {D D' : Nat → Nat → Prop} (h : KpA B V m z D) (hD : ∀ g r, g < V.heap.size → D g r → D' g r) (hc : ∀ g r, B ≤ g → (∃ cs f, V.heap[g]? = some (.cells cs 35 f)) → D g r → (∃ cs f, V'.heap[g]? = some (.cells cs 35 f)) ∧ ∀ t, t < r → (V.cell? ⟨g, t * 2, none⟩ = some (.int .i64 m.1) ∧ V.cell? ⟨g, t * 2 + 1, none⟩ = some (.string m.2)) → (V'.cell? ⟨g, t * 2, none⟩ = some (.int .i64 m.1) ∧ V'.cell? ⟨g, t * 2 + 1, none⟩ = some (.string m.2))) : KpA B V' m z D' := by
  obtain ⟨p, c, r, rfl, hr, h⟩ := h
  refine ⟨p, c, r, rfl, hr, h.imp id ?_⟩
  rintro ⟨g, rfl, h1, h2, h3, h4⟩
  obtain ⟨h5, h6⟩ := hc g r h1 h2 h4
  have hlt : g < V.heap.size := by
    obtain ⟨cs, f, h7⟩ := h2
    exact (Array.getElem?_eq_some_iff.1 h7).1
  exact ⟨g, rfl, h1, h5, fun t ht => h6 t ht (h3 t ht), hD g r hlt h4⟩
theorem cells_block {V V' : World} {g a : Nat} {m : Rec.Ln} (h8 : V'.heap[g]? = V.heap[g]?) (hc : V.cell? ⟨g, a, none⟩ = some (.int .i64 m.1) ∧ V.cell? ⟨g, a + 1, none⟩ = some (.string m.2)) : V'.cell? ⟨g, a, none⟩ = some (.int .i64 m.1) ∧ V'.cell? ⟨g, a + 1, none⟩ = some (.string m.2) :=
  ⟨(World.cell?_of_block (a := ⟨g, a, none⟩) h8).trans hc.1, (World.cell?_of_block (a := ⟨g, a + 1, none⟩) h8).trans hc.2⟩
/-- the lists, written over in part -/
structure Sa1 (B gl : Nat) (X : Nat → Value) (C : Nat → List Rec.Ln) (V0 V : World) : Prop where
  st : V.heap[gl]? = some (.cells #[X 0, X 1, X 2] 23 (0, 0))
  each : ∀ i, i < 3 → V.ownsRow B 35 2 (X i) (C i).length (lnV (C i))
  apart : ∀ i j, i < 3 → j < 3 → i ≠ j → Awy (X i) (X j)
  lo : gl < V0.heap.size
  bel : Svd X V0 V
theorem Sa1.put {B gl : Nat} {X : Nat → Value} {C : Nat → List Rec.Ln} {V0 V : World} (h : Sa1 B gl X C V0 V) {i k b : Nat} (hi : i < 3) (hb : (X i).ownBlock = some b) (x : Rec.Ln) : Sa1 B gl X (fun j => if j = i then (C i).set k x else C j) V0 ((V.setCell ⟨b, k * 2, none⟩ (.int .i64 x.1)).setCell ⟨b, k * 2 + 1, none⟩ (.string x.2)) := by
  have hbg : gl ≠ b := fun e => by
    subst e
    exact own_ty (h.each i hi) h.st (by decide) hb
  refine ⟨(sc_heap _ b gl _ _ hbg).trans ((sc_heap _ b gl _ _ hbg).trans h.st), fun j hj => ?_, h.apart, h.lo, (h.bel.set (.inl ⟨i, hi, hb⟩) _ _).set (.inl ⟨i, hi, hb⟩) _ _⟩
  by_cases e : j = i
  · subst e
    rw [if_pos rfl, List.length_set]
    obtain ⟨p, c, hp⟩ := row_shape (h.each j hj)
    have h9 := h.each j hj
    rw [hp] at h9 hb ⊢
    have hpb : p = some ⟨b, 0, none⟩ := by
      rcases h9.2 with ⟨h1, _⟩ | ⟨g, cap, cur, h1, _⟩
      · have h2 := congrArg Value.ownBlock h1
        rw [hb] at h2
        cases h2
      · cases h1
        have : g = b := by simpa [Value.ownBlock] using hb
        rw [this]
    subst hpb
    exact own_put h9 k x
  · rw [if_neg e]
    have hn : (X j).ownBlock ≠ some b := fun q => h.apart i j hi hj (Ne.symm e) b hb q
    exact row_set (row_set (h.each j hj) hn _ _) hn _ _
/-- lists at hand are kept at lengths of theirs: ahead of the i-th -/
structure Sa2 (B gl : Nat) (X : Nat → Value) (len : Nat → Nat) (V0 : World) (i : Nat) (vl : Value) (zs : Nat → Value) (V : World) : Prop where
  st : V.heap[gl]? = some (.cells #[X 0, X 1, X 2] 23 (0, 0))
  lrow : V.ownsRow V0.heap.size 23 1 vl (20 * i) (rwA zs (20 * i))
  rest : ∀ j, i ≤ j → j < 3 → V.ownsRow B 35 2 (X j) (len j) (lnV (fulA j (len j)))
  apart : ∀ a b, a < 3 → b < 3 → a ≠ b → Awy (X a) (X b)
  kept : ∀ j, j < 20 * i → KpA B V (mkA (j / 20)) (zs j) (fun g _ => ∀ a, i ≤ a → a < 3 → (X a).ownBlock ≠ some g)
  lo : gl < V0.heap.size
  bel : Svd X V0 V
structure Sa3 (B gl : Nat) (X : Nat → Value) (len : Nat → Nat) (V0 : World) (i q r : Nat) (l vl : Value) (zs : Nat → Value) (V : World) : Prop where
  st : V.heap[gl]? = some (.cells #[X 0, X 1, X 2] 23 (0, 0))
  lrow : V.ownsRow V0.heap.size 23 1 vl q (rwA zs q)
  rest : ∀ j, i < j → j < 3 → V.ownsRow B 35 2 (X j) (len j) (lnV (fulA j (len j)))
  apart : ∀ a b, a < 3 → b < 3 → a ≠ b → Awy (X a) (X b)
  hand : V.ownsRow B 35 2 l r (lnV (fulA i r))
  hl : ∀ j, i < j → j < 3 → Awy (X j) l
  hof : ∀ k, l.ownBlock = some k → (∃ a, a < 3 ∧ (X a).ownBlock = some k) ∨ V0.heap.size ≤ k
  kept : ∀ j, j < q → KpA B V (mkA (j / 20)) (zs j) (fun g rj => (∀ a, i < a → a < 3 → (X a).ownBlock ≠ some g) ∧ (l.ownBlock ≠ some g ∨ (j / 20 = i ∧ rj ≤ r)))
  lo : gl < V0.heap.size
  bel : Svd X V0 V
section
variable {B gl i q r : Nat} {l vl : Value} {X zs : Nat → Value} {len : Nat → Nat} {V0 V W : World}
theorem Sa1.settled {C : Nat → List Rec.Ln} (h : Sa1 B gl X C V0 V) (hC : ∀ i, i < 3 → C i = fulA i (len i)) : Sa2 B gl X len V0 0 (.slice none 0 0) zs V := by
  refine ⟨h.st, World.ownsRow_nil _ _ _ _, fun j _ hj => ?_, h.apart, fun j hj => by omega, h.lo, h.bel⟩
  have h1 := h.each j hj
  rw [hC j hj, fulA_len] at h1
  exact h1
theorem Sa2.take (h : Sa2 B gl X len V0 i vl zs V) (hi : i < 3) : Sa3 B gl X len V0 i (20 * i) (len i) (X i) vl zs V :=
  ⟨h.st, h.lrow, fun j h1 h2 => h.rest j (by omega) h2, h.apart, h.rest i (Nat.le_refl _) hi, fun j h1 h2 => h.apart j i h2 hi (by omega), fun k hk => .inl ⟨i, hi, hk⟩, fun j hj => (h.kept j hj).mono (fun g' r' _ hD => ⟨fun a h1 h2 => hD a (by omega) h2, .inl (hD i (Nat.le_refl _) hi)⟩) (fun _ _ _ h _ => ⟨h, fun _ _ h => h⟩), h.lo, h.bel⟩
theorem Sa3.leave (h : Sa3 B gl X len V0 i (20 * (i + 1)) r l vl zs V) : Sa2 B gl X len V0 (i + 1) vl zs V :=
  ⟨h.st, h.lrow, fun j h1 h2 => h.rest j (by omega) h2, h.apart, fun j hj => (h.kept j hj).mono (fun g' r' _ hD a h1 h2 => hD.1 a (by omega) h2) (fun _ _ _ h _ => ⟨h, fun _ _ h => h⟩), h.lo, h.bel⟩
/-- the list at hand is kept -/
theorem Sa3.keep {vl' : Value} (h : Sa3 B gl X len V0 i q r l vl zs V) (hq : q / 20 = i) (hr : r ≤ 140000) (ho : W.ownsRow V0.heap.size 23 1 vl' (q + 1) (rwA zs q ++ [l])) (hg : (V.alloc (.cells #[l] 23)).grownBy W vl.ownBlock) :
    Sa3 B gl X len V0 i (q + 1) r l vl' (fun j => if j = q then l else zs j) W := by
  have hlo := h.lo
  have hvs := h.bel.size
  have hne : ∀ k, vl.ownBlock = some k → V0.heap.size ≤ k := fun k e => (h.lrow.lt k e).1
  have hWs : V.heap.size ≤ W.heap.size := by have := hg.size; simp at this; omega
  have kk : ∀ k, k < V.heap.size → vl.ownBlock ≠ some k → W.heap[k]? = V.heap[k]? := fun k hk hv => by
    rw [hg.block k (by simp; omega) (fun e => hv e.symm)]
    exact Below.heap_alloc _ _ _ hk
  have s3 : ∀ {v : Value} {m : Nat} {ys : List Value}, V.ownsRow B 35 2 v m ys → W.ownsRow B 35 2 v m ys := fun {v m ys} hv =>
    row_kept hv fun k hk => kk k (hv.lt k hk).2 (fun e => by
      obtain ⟨cur, hc⟩ := row_block hv hk
      exact own_ty h.lrow hc (by decide) e)
  have hcell : ∀ k, B ≤ k → (∃ cs f, V.heap[k]? = some (.cells cs 35 f)) → W.heap[k]? = V.heap[k]? := fun k h1 h3 => by
    obtain ⟨cs, f, h3⟩ := h3
    exact kk k (Array.getElem?_eq_some_iff.1 h3).1 (own_ty h.lrow h3 (by decide))
  refine ⟨(kk gl (by omega) (fun e => by have := hne gl e; omega)).trans h.st, ?_, fun j h1 h2 => s3 (h.rest j h1 h2), h.apart, s3 h.hand, h.hl, h.hof, fun j hj => ?_, hlo, h.bel.grow hg (fun k e => .inr (hne k e))⟩
  · rw [rwA_snoc]
    exact ho
  · by_cases e : j = q
    · subst e
      rw [if_pos rfl, hq]
      rcases h.hand.2 with ⟨e1, e2⟩ | ⟨g', cap, cur, e1, hbg, hh, hnc, hcm, hcs, htake⟩
      · exact ⟨none, 0, 0, e1, by omega, .inl rfl⟩
      · have hob : l.ownBlock = some g' := by rw [e1]; rfl
        have hh2 := h.hand
        rw [e1] at hh2
        refine ⟨_, _, _, e1, hr, .inr ⟨g', rfl, hbg, ?_, ?_, ?_, ?_⟩⟩
        · exact ⟨cur, _, (hcell g' hbg ⟨cur, _, hh⟩).trans hh⟩
        · intro t ht
          have h9 := own_at hh2 t ht
          have e9 : (fulA i r).getD t (0, ⟨#[]⟩) = mkA i := by
            unfold fulA
            rw [List.getD_eq_getElem?_getD, List.getElem?_replicate, if_pos ht]
            rfl
          rw [e9] at h9
          exact cells_block (hcell g' hbg ⟨cur, _, hh⟩) h9
        · intro a h1 h2 e3
          exact h.hl a h1 h2 g' e3 hob
        · exact .inr ⟨rfl, Nat.le_refl _⟩
    · rw [if_neg e]
      refine (h.kept j (by omega)).mono (fun _ _ _ hD => hD) (fun g' r' hB hcs hD => ?_)
      have h8 := hcell g' hB hcs
      exact ⟨by rw [h8]; exact hcs, fun t _ hc => cells_block h8 hc⟩
/-- a mark is laid behind the list at hand -/
theorem Sa3.more {l' : Value} (h : Sa3 B gl X len V0 i q r l vl zs V) (hsB : B ≤ V0.heap.size) (ho : W.ownsRow B 35 2 l' (r + 1) (lnV (fulA i r) ++ [.int .i64 (-100 - (i : Int)), .string ⟨#[]⟩])) (hat : (l'.ownBlock = l.ownBlock ∧ (V.alloc (.cells #[.int .i64 (-100 - (i : Int)), .string ⟨#[]⟩] 35)).grownBy W l.ownBlock) ∨ (l'.ownBlock = some (V.heap.size + 1) ∧ (V.alloc (.cells #[.int .i64 (-100 - (i : Int)), .string ⟨#[]⟩] 35)).grownBy W none)) :
    Sa3 B gl X len V0 i q (r + 1) l' vl zs W := by
  rw [fulA_snoc] at ho
  have hlo := h.lo
  have hvs := h.bel.size
  have hg : (V.alloc (.cells #[.int .i64 (-100 - (i : Int)), .string ⟨#[]⟩] 35)).grownBy W l.ownBlock := by
    rcases hat with h1 | h1
    · exact h1.2
    · exact ⟨h1.2.os, h1.2.tape, h1.2.output, h1.2.size, fun k hk _ => h1.2.block k hk (by simp)⟩
  have hWs : V.heap.size ≤ W.heap.size := by have := hg.size; simp at this; omega
  have kk : ∀ k, k < V.heap.size → l.ownBlock ≠ some k → W.heap[k]? = V.heap[k]? := fun k hk hv => by
    rw [hg.block k (by simp; omega) (fun e => hv e.symm)]
    exact Below.heap_alloc _ _ _ hk
  have haw : ∀ k, l'.ownBlock = some k → l.ownBlock = some k ∨ k = V.heap.size + 1 := fun k e => by
    rcases hat with h1 | h1
    · exact .inl (by rw [← h1.1]; exact e)
    · rw [h1.1] at e
      simp only [Option.some.injEq] at e
      exact .inr e.symm
  refine ⟨(kk gl (by omega) (own_ty h.hand h.st (by decide))).trans h.st, row_kept h.lrow fun k hk => kk k (h.lrow.lt k hk).2 (fun e => ?_), fun j h1 h2 => row_kept (h.rest j h1 h2) fun k hk => kk k ((h.rest j h1 h2).lt k hk).2 (h.hl j h1 h2 k hk), h.apart, ho, fun j h1 h2 k h3 h4 => ?_, fun k hk => ?_, fun j hj => ?_, hlo, h.bel.grow hg h.hof⟩
  · obtain ⟨cur, hc⟩ := row_block h.lrow hk
    exact own_ty h.hand hc (by decide) e
  · rcases haw k h4 with h5 | h5
    · exact h.hl j h1 h2 k h3 h5
    · have := ((h.rest j h1 h2).lt k h3).2
      omega
  · rcases haw k hk with h5 | h5
    · exact h.hof k h5
    · exact .inr (by omega)
  · refine (h.kept j hj).mono (fun g' r' hlt hD => ⟨hD.1, ?_⟩) (fun g' r' hB hcs hD => ?_)
    · by_cases e : l'.ownBlock = some g'
      · rcases haw g' e with h5 | h5
        · rcases hD.2 with h6 | h6
          · exact absurd h5 h6
          · exact .inr ⟨h6.1, by omega⟩
        · omega
      · exact .inl e
    · have hlt : g' < V.heap.size := by
        obtain ⟨cs, f, h7⟩ := hcs
        exact (Array.getElem?_eq_some_iff.1 h7).1
      have hsame : W.heap[g']? = V.heap[g']? → (∃ cs f, W.heap[g']? = some (.cells cs 35 f)) ∧ ∀ t, t < r' → (V.cell? ⟨g', t * 2, none⟩ = some (.int .i64 (mkA (j / 20)).1) ∧ V.cell? ⟨g', t * 2 + 1, none⟩ = some (.string (mkA (j / 20)).2)) → (W.cell? ⟨g', t * 2, none⟩ = some (.int .i64 (mkA (j / 20)).1) ∧ W.cell? ⟨g', t * 2 + 1, none⟩ = some (.string (mkA (j / 20)).2)) := fun h8 => ⟨by rw [h8]; exact hcs, fun t _ hc => cells_block h8 hc⟩
      by_cases e : l.ownBlock = some g'
      · rcases hat with h1 | h1
        · have e' : l'.ownBlock = some g' := h1.1.trans e
          obtain ⟨cur, hc⟩ := row_block ho e'
          refine ⟨⟨cur, _, hc⟩, fun t ht _ => ?_⟩
          rcases hD.2 with h6 | h6
          · exact absurd e h6
          · have hrr : r' ≤ r := h6.2
            have ho2 := ho
            obtain ⟨p, c, hp⟩ := row_shape ho
            rw [hp] at ho2 e'
            have hpb : p = some ⟨g', 0, none⟩ := by
              rcases ho2.2 with ⟨h1, _⟩ | ⟨g, cap, cur, h1, _⟩
              · have h2 := congrArg Value.ownBlock h1
                rw [e'] at h2
                cases h2
              · cases h1
                have : g = g' := by simpa [Value.ownBlock] using e'
                rw [this]
            subst hpb
            have h9 := own_at ho2 t (by omega)
            have e9 : (fulA i (r + 1)).getD t (0, ⟨#[]⟩) = mkA i := by
              unfold fulA
              rw [List.getD_eq_getElem?_getD, List.getElem?_replicate, if_pos (by omega)]
              rfl
            rw [e9] at h9
            rw [h6.1]
            exact h9
        · refine hsame ?_
          rw [h1.2.block g' (by simp; omega) (by simp)]
          exact Below.heap_alloc _ _ _ hlt
      · exact hsame (kk g' hlt e)
end
end Go.Proofs.Ytchhdkmflppjhaa
