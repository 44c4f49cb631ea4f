/-
  Sets of words in memory. Conditions: as each says.
-/
import Derived.Test.YtlbfnchjbpioeaaMnB
import Derived.Test.YtlbfnchjbpioeaaBas
namespace Go.Proofs.Ytlbfnchjbpioeaa
open Go.RowKit
set_option linter.unusedVariables false
def rowV (F : Nat → Value) (m : Nat) : List Value := (List.range m).map F
theorem rowV_get (F : Nat → Value) (m k : Nat) (h : k < m) : (rowV F m)[k]? = some (F k) := by simp [rowV, h]
theorem rowV_len (F : Nat → Value) (m : Nat) : (rowV F m).length = m := by simp [rowV]
theorem rowV_congr {F G : Nat → Value} {m : Nat} (h : ∀ j, j < m → F j = G j) : rowV F m = rowV G m := by
  unfold rowV
  apply List.map_congr_left
  intro x hx
  exact h x (by simpa using hx)
theorem rowV_add (F : Nat → Value) (m d : Nat) : rowV F (m + d) = rowV F m ++ rowV (fun j => F (m + j)) d := by
  unfold rowV
  rw [List.range_add, List.map_append, List.map_map]
  rfl
theorem mr_shape {w : World} {base n size : Nat} {e : TypeId} {v : Value} {xs : List Value} (h : w.ownsRow base e size v n xs) : ∃ b cap, v = .slice b n cap := by
  rcases h.2 with ⟨rfl, rfl⟩ | ⟨g, cap, cur, rfl, _⟩
  · exact ⟨none, 0, rfl⟩
  · exact ⟨some ⟨g, 0, none⟩, cap, rfl⟩
theorem mr_other {w : World} {base n size : Nat} {e : TypeId} {v : Value} {xs : List Value} (h : w.ownsRow base e size v n xs) {B : Nat} {cs : Array Value} {t : TypeId} {fz : Nat × Nat} (hB : w.heap[B]? = some (.cells cs t fz)) (ht : t ≠ e) : v.ownBlock ≠ some B := by
  rcases h.2 with ⟨rfl, _⟩ | ⟨g, cap, cur, rfl, _, h2, _⟩
  · simp [Value.ownBlock]
  · intro q
    simp only [Value.ownBlock, Option.some.injEq] at q
    subst q
    rw [h2] at hB
    simp only [Option.some.injEq, Obj.cells.injEq] at hB
    exact ht hB.2.1.symm
theorem mr_kept {w w' : World} {base n size : Nat} {e : TypeId} {v : Value} {xs : List Value} (h : w.ownsRow base e size v n xs) (hb : ∀ k, v.ownBlock = some k → w'.heap[k]? = w.heap[k]?) : w'.ownsRow base e size v n xs := by
  refine ⟨h.1, ?_⟩
  rcases h.2 with h0 | ⟨g, cap, cur, rfl, h1, h2, h3⟩
  · exact .inl h0
  · exact .inr ⟨g, cap, cur, rfl, h1, by rw [hb g rfl]; exact h2, h3⟩
theorem set_heap (w : World) (b k o : Nat) (u : Value) (h : k ≠ b) : (w.setCell ⟨b, o, none⟩ u).heap[k]? = w.heap[k]? := by
  simp only [World.setCell, Array.getElem?_modify]
  rw [if_neg (by omega)]
theorem mr_set {w : World} {base n size : Nat} {e : TypeId} {v : Value} {xs : List Value} (h : w.ownsRow base e size v n xs) {b : Nat} (hne : v.ownBlock ≠ some b) (o : Nat) (u : Value) : (w.setCell ⟨b, o, none⟩ u).ownsRow base e size v n xs :=
  mr_kept h fun k hk => set_heap w b k o u (fun q => hne (by rw [hk, q]))
theorem mr_block {w : World} {base n size : Nat} {e : TypeId} {v : Value} {xs : List Value} (h : w.ownsRow base e size v n xs) {k : Nat} (hk : v.ownBlock = some k) : ∃ cur, w.heap[k]? = some (.cells cur e (0, 0)) := by
  rcases h.2 with ⟨rfl, _⟩ | ⟨g, cap, cur, rfl, _, h2, _⟩
  · simp [Value.ownBlock] at hk
  · simp only [Value.ownBlock, Option.some.injEq] at hk
    subst hk
    exact ⟨cur, h2⟩
/-- a row that grows leaves those of other types as they are -/
theorem mr_apart {w w' : World} {B B2 n m s1 s2 : Nat} {e1 e2 : TypeId} {u v : Value} {xs ys : List Value} {o : Obj} (hr : w.ownsRow B e1 s1 u n xs) (hv : w.ownsRow B2 e2 s2 v m ys) (hne : e1 ≠ e2) (hg : (w.alloc o).grownBy w' v.ownBlock) : w'.ownsRow B e1 s1 u n xs := by
  refine mr_kept hr fun k hk => ?_
  have hlt := (hr.lt k hk).2
  obtain ⟨cur, h2⟩ := mr_block hr hk
  rw [hg.block k (by simp; omega) (fun e => mr_other hv h2 hne e.symm), Below.heap_alloc _ _ _ hlt]
theorem mr_cells_apart {w w' : World} {B2 m s2 k : Nat} {t e2 : TypeId} {cs : Array Value} {fz : Nat × Nat} {v : Value} {ys : List Value} {o : Obj} (hk : w.heap[k]? = some (.cells cs t fz)) (hv : w.ownsRow B2 e2 s2 v m ys) (hne : t ≠ e2) (hg : (w.alloc o).grownBy w' v.ownBlock) : w'.heap[k]? = some (.cells cs t fz) := by
  have hlt := (Array.getElem?_eq_some_iff.1 hk).1
  rw [hg.block k (by simp; omega) (fun e => mr_other hv hk hne e.symm), Below.heap_alloc _ _ _ hlt]
  exact hk
theorem ow_cell {w : World} {base e size n cap g : Nat} {F : Nat → Value} (h : w.ownsRow base e size (.slice (some ⟨g, 0, none⟩) n cap) n (rowV F (n * size))) (k : Nat) (hk : k < n * size) : w.cell? ⟨g, k, none⟩ = some (F k) ∧ w.frozen? ⟨g, k, none⟩ = false := by
  have h1 := h.cells (g := g) rfl k _ (rowV_get F _ k hk)
  rw [Addr.add_lit] at h1
  obtain ⟨cur, h2⟩ := mr_block h (k := g) rfl
  refine ⟨by simpa using h1, ?_⟩
  simp [World.frozen?, h2]
theorem ow_put {w : World} {base e size n cap g : Nat} {F : Nat → Value} (h : w.ownsRow base e size (.slice (some ⟨g, 0, none⟩) n cap) n (rowV F (n * size))) (k : Nat) (hk : k < n * size) (u : Value) : (w.setCell ⟨g, k, none⟩ u).ownsRow base e size (.slice (some ⟨g, 0, none⟩) n cap) n (rowV (fun j => if j = k then u else F j) (n * size)) := by
  refine ⟨by rw [rowV_len], ?_⟩
  rcases h.2 with ⟨h0, _⟩ | ⟨g', cap', cur, h1, h2, h3, h4, h5, h6, h7⟩
  · simp at h0
  · simp only [Value.slice.injEq, Option.some.injEq, Addr.mk.injEq, and_true] at h1
    obtain ⟨rfl, _, rfl⟩ := h1
    refine .inr ⟨g, cap, cur.setIfInBounds k u, rfl, h2, ?_, h4, h5, by simpa using h6, ?_⟩
    · simp [World.setCell, Array.getElem?_modify, h3]
    · apply List.ext_getElem?
      intro j
      have h8 := congrArg (fun l => l[j]?) h7
      simp only [List.getElem?_take] at h8
      rw [List.getElem?_take]
      by_cases hj : j < n * size
      · rw [if_pos hj] at h8 ⊢
        rw [rowV_get _ _ _ hj]
        rw [rowV_get _ _ _ hj] at h8
        simp only [Array.toList_setIfInBounds, List.getElem?_set]
        by_cases e1 : k = j
        · subst e1
          rw [if_pos rfl, if_pos rfl]
          have hlt : k < cur.toList.length := by
            rw [Array.length_toList, h6]
            exact Nat.lt_of_lt_of_le hk (Nat.mul_le_mul_right _ h4)
          simp [Array.length_toList ▸ hlt]
        · rw [if_neg e1, if_neg (fun q => e1 q.symm)]
          exact h8
      · rw [if_neg hj, List.getElem?_eq_none (by rw [rowV_len]; omega)]
/-- a node's cells, a word's cells -/
def ndF (nx : Nat → Nat → Int) (ln wd : Nat → Int) (j : Nat) : Value := if j % 258 < 256 then .int .i16 (nx (j / 258) (j % 258)) else if j % 258 = 256 then .int .i64 (ln (j / 258)) else .int .i16 (wd (j / 258))
def wrF (wl sh : Nat → Int) (j : Nat) : Value := if j % 2 = 0 then .int .i64 (wl (j / 2)) else .int .i16 (sh (j / 2))
theorem ndF_nx (nx : Nat → Nat → Int) (ln wd : Nat → Int) (i c : Nat) (hc : c < 256) : ndF nx ln wd (i * 258 + c) = .int .i16 (nx i c) := by
  unfold ndF
  rw [show (i * 258 + c) % 258 = c by omega, show (i * 258 + c) / 258 = i by omega, if_pos hc]
theorem ndF_ln (nx : Nat → Nat → Int) (ln wd : Nat → Int) (i : Nat) : ndF nx ln wd (i * 258 + 256) = .int .i64 (ln i) := by
  unfold ndF
  rw [show (i * 258 + 256) % 258 = 256 by omega, show (i * 258 + 256) / 258 = i by omega]
  rfl
theorem ndF_wd (nx : Nat → Nat → Int) (ln wd : Nat → Int) (i : Nat) : ndF nx ln wd (i * 258 + 257) = .int .i16 (wd i) := by
  unfold ndF
  rw [show (i * 258 + 257) % 258 = 257 by omega, show (i * 258 + 257) / 258 = i by omega]
  rfl
theorem wrF_wl (wl sh : Nat → Int) (j : Nat) : wrF wl sh (j * 2) = .int .i64 (wl j) := by
  unfold wrF
  rw [show j * 2 % 2 = 0 by omega, show j * 2 / 2 = j by omega, if_pos rfl]
theorem wrF_sh (wl sh : Nat → Int) (j : Nat) : wrF wl sh (j * 2 + 1) = .int .i16 (sh j) := by
  unfold wrF
  rw [if_neg (by omega), show (j * 2 + 1) / 2 = j by omega]
structure SetM (B sb g : Nat) (wv : Value) (n cn m : Nat) (nx : Nat → Nat → Int) (ln wd wl sh : Nat → Int) (w : World) : Prop where
  st : w.heap[sb]? = some (.cells #[.slice (some ⟨g, 0, none⟩) n cn, wv] 69 (0, 0))
  nod : w.ownsRow B 79 258 (.slice (some ⟨g, 0, none⟩) n cn) n (rowV (ndF nx ln wd) (n * 258))
  wrd : w.ownsRow B 82 2 wv m (rowV (wrF wl sh) (m * 2))
  sB : B ≤ sb
section
variable {B sb g : Nat} {wv : Value} {n cn m : Nat} {nx : Nat → Nat → Int} {ln wd wl sh : Nat → Int} {w w' : World}
theorem SetM.lt (h : SetM B sb g wv n cn m nx ln wd wl sh w) : sb < w.heap.size := (Array.getElem?_eq_some_iff.1 h.st).1
theorem SetM.congr (h : SetM B sb g wv n cn m nx ln wd wl sh w) {nx' : Nat → Nat → Int} {ln' wd' wl' sh' : Nat → Int} (h1 : ∀ i c, i < n → c < 256 → nx i c = nx' i c) (h2 : ∀ i, i < n → ln i = ln' i) (h3 : ∀ i, i < n → wd i = wd' i) (h4 : ∀ j, j < m → wl j = wl' j) (h5 : ∀ j, j < m → sh j = sh' j) : SetM B sb g wv n cn m nx' ln' wd' wl' sh' w := by
  have e1 : rowV (ndF nx ln wd) (n * 258) = rowV (ndF nx' ln' wd') (n * 258) := rowV_congr fun j hj => by
    unfold ndF
    split
    · rw [h1 _ _ (by omega) (by assumption)]
    · split
      · rw [h2 _ (by omega)]
      · rw [h3 _ (by omega)]
  have e2 : rowV (wrF wl sh) (m * 2) = rowV (wrF wl' sh') (m * 2) := rowV_congr fun j hj => by
    unfold wrF
    split
    · rw [h4 _ (by omega)]
    · rw [h5 _ (by omega)]
  exact ⟨h.st, e1 ▸ h.nod, e2 ▸ h.wrd, h.sB⟩
theorem SetM.keep (h : SetM B sb g wv n cn m nx ln wd wl sh w) (hb : Below w.heap.size w w') : SetM B sb g wv n cn m nx ln wd wl sh w' :=
  ⟨(hb.block sb h.lt).trans h.st, mr_kept h.nod fun k hk => hb.block k (h.nod.lt k hk).2, mr_kept h.wrd fun k hk => hb.block k (h.wrd.lt k hk).2, h.sB⟩
theorem SetM.drew (h : SetM B sb g wv n cn m nx ln wd wl sh w) (k : Nat) : SetM B sb g wv n cn m nx ln wd wl sh (w.drewN k) := ⟨h.st, h.nod, h.wrd, h.sB⟩
theorem SetM.st0 (h : SetM B sb g wv n cn m nx ln wd wl sh w) : w.cell? ⟨sb, 0, none⟩ = some (.slice (some ⟨g, 0, none⟩) n cn) ∧ w.cell? ⟨sb, 1, none⟩ = some wv ∧ w.frozen? ⟨sb, 0, none⟩ = false ∧ w.frozen? ⟨sb, 1, none⟩ = false := by
  simp [World.cell?, World.frozen?, h.st]
theorem SetM.c_nx (h : SetM B sb g wv n cn m nx ln wd wl sh w) (i c : Nat) (hi : i < n) (hc : c < 256) : w.cell? ⟨g, i * 258 + c, none⟩ = some (.int .i16 (nx i c)) ∧ w.frozen? ⟨g, i * 258 + c, none⟩ = false := by
  have := ow_cell h.nod (i * 258 + c) (by omega)
  rw [ndF_nx _ _ _ _ _ hc] at this
  exact this
theorem SetM.c_ln (h : SetM B sb g wv n cn m nx ln wd wl sh w) (i : Nat) (hi : i < n) : w.cell? ⟨g, i * 258 + 256, none⟩ = some (.int .i64 (ln i)) := by
  have := ow_cell h.nod (i * 258 + 256) (by omega)
  rw [ndF_ln] at this
  exact this.1
theorem SetM.c_wd (h : SetM B sb g wv n cn m nx ln wd wl sh w) (i : Nat) (hi : i < n) : w.cell? ⟨g, i * 258 + 257, none⟩ = some (.int .i16 (wd i)) ∧ w.frozen? ⟨g, i * 258 + 257, none⟩ = false := by
  have := ow_cell h.nod (i * 258 + 257) (by omega)
  rw [ndF_wd] at this
  exact this
theorem SetM.wform (h : SetM B sb g wv n cn m nx ln wd wl sh w) (hm : 0 < m) : ∃ g2 cw, wv = .slice (some ⟨g2, 0, none⟩) m cw := by
  rcases h.wrd.2 with ⟨_, h0⟩ | ⟨g2, cap, cur, hv, _⟩
  · omega
  · exact ⟨g2, cap, hv⟩
theorem SetM.c_wl {g2 cw : Nat} (h : SetM B sb g (.slice (some ⟨g2, 0, none⟩) m cw) n cn m nx ln wd wl sh w) (j : Nat) (hj : j < m) : w.cell? ⟨g2, j * 2, none⟩ = some (.int .i64 (wl j)) := by
  have := ow_cell h.wrd (j * 2) (by omega)
  rw [wrF_wl] at this
  exact this.1
theorem SetM.c_sh {g2 cw : Nat} (h : SetM B sb g (.slice (some ⟨g2, 0, none⟩) m cw) n cn m nx ln wd wl sh w) (j : Nat) (hj : j < m) : w.cell? ⟨g2, j * 2 + 1, none⟩ = some (.int .i16 (sh j)) ∧ w.frozen? ⟨g2, j * 2 + 1, none⟩ = false := by
  have := ow_cell h.wrd (j * 2 + 1) (by omega)
  rw [wrF_sh] at this
  exact this
theorem SetM.sb_ne (h : SetM B sb g wv n cn m nx ln wd wl sh w) : sb ≠ g := fun e => by
  have := mr_other h.nod h.st (by decide)
  simp [Value.ownBlock] at this
  omega
theorem SetM.put (h : SetM B sb g wv n cn m nx ln wd wl sh w) (k : Nat) (hk : k < n * 258) (u : Value) {nx' : Nat → Nat → Int} {ln' wd' : Nat → Int} (hu : ∀ j, j < n * 258 → (if j = k then u else ndF nx ln wd j) = ndF nx' ln' wd' j) : SetM B sb g wv n cn m nx' ln' wd' wl sh (w.setCell ⟨g, k, none⟩ u) := by
  have hne := h.sb_ne
  obtain ⟨cur, hcur⟩ := mr_block h.nod (k := g) rfl
  refine ⟨(set_heap w g sb k u hne).trans h.st, ?_, mr_set h.wrd (mr_other h.wrd hcur (by decide)) k u, h.sB⟩
  have := ow_put h.nod k hk u
  rw [rowV_congr hu] at this
  exact this
theorem SetM.put_nx (h : SetM B sb g wv n cn m nx ln wd wl sh w) (i c : Nat) (hi : i < n) (hc : c < 256) (v : Int) : SetM B sb g wv n cn m (fun x y => if x = i ∧ y = c then v else nx x y) ln wd wl sh (w.setCell ⟨g, i * 258 + c, none⟩ (.int .i16 v)) := by
  refine h.put (i * 258 + c) (by omega) _ fun j hj => ?_
  unfold ndF
  by_cases e : j = i * 258 + c
  · subst e
    rw [if_pos rfl, show (i * 258 + c) % 258 = c by omega, show (i * 258 + c) / 258 = i by omega, if_pos hc]
    dsimp only
    rw [if_pos ⟨rfl, rfl⟩]
  · rw [if_neg e]
    split
    · dsimp only
      rw [if_neg (by omega)]
    · rfl
theorem SetM.put_wd (h : SetM B sb g wv n cn m nx ln wd wl sh w) (i : Nat) (hi : i < n) (v : Int) : SetM B sb g wv n cn m nx ln (fun x => if x = i then v else wd x) wl sh (w.setCell ⟨g, i * 258 + 257, none⟩ (.int .i16 v)) := by
  refine h.put (i * 258 + 257) (by omega) _ fun j hj => ?_
  unfold ndF
  by_cases e : j = i * 258 + 257
  · subst e
    rw [if_pos rfl, show (i * 258 + 257) % 258 = 257 by omega, show (i * 258 + 257) / 258 = i by omega, if_neg (by omega), if_neg (by omega)]
    dsimp only
    rw [if_pos rfl]
  · rw [if_neg e]
    split
    · rfl
    · split
      · rfl
      · dsimp only
        rw [if_neg (by omega)]
theorem SetM.put_sh {g2 cw : Nat} (h : SetM B sb g (.slice (some ⟨g2, 0, none⟩) m cw) n cn m nx ln wd wl sh w) (j : Nat) (hj : j < m) (v : Int) : SetM B sb g (.slice (some ⟨g2, 0, none⟩) m cw) n cn m nx ln wd wl (fun x => if x = j then v else sh x) (w.setCell ⟨g2, j * 2 + 1, none⟩ (.int .i16 v)) := by
  have hne : sb ≠ g2 := fun e => by
    have := mr_other h.wrd h.st (by decide)
    simp [Value.ownBlock] at this
    omega
  obtain ⟨cur, hcur⟩ := mr_block h.wrd (k := g2) rfl
  refine ⟨(set_heap w g2 sb _ _ hne).trans h.st, mr_set h.nod (mr_other h.nod hcur (by decide)) _ _, ?_, h.sB⟩
  have := ow_put h.wrd (j * 2 + 1) (by omega) (.int .i16 v)
  rw [rowV_congr (G := wrF wl (fun x => if x = j then v else sh x)) fun k hk => ?_] at this
  · exact this
  · unfold wrF
    by_cases e : k = j * 2 + 1
    · subst e
      rw [if_pos rfl, if_neg (by omega), show (j * 2 + 1) / 2 = j by omega]
      dsimp only
      rw [if_pos rfl]
    · rw [if_neg e]
      split
      · rfl
      · dsimp only
        rw [if_neg (by omega)]
theorem SetM.gB (h : SetM B sb g wv n cn m nx ln wd wl sh w) : B ≤ g ∧ g < w.heap.size := h.nod.lt g rfl
end
theorem mb_set {base b : Nat} {w0 w : World} (h : Below base w0 w) (hb : base ≤ b) (o : Nat) (u : Value) : Below base w0 (w.setCell ⟨b, o, none⟩ u) :=
  ⟨h.os, h.tape, h.output, by simpa [World.setCell] using h.size, fun k hk => by
    rw [← h.block k hk]
    simp only [World.setCell, Array.getElem?_modify]
    rw [if_neg (by omega)]⟩
theorem mb_up {base : Nat} {a b c : World} (h : Below base a b) (hb : base ≤ b.heap.size) (k : Below b.heap.size b c) : Below base a c :=
  h.trans ⟨k.os, k.tape, k.output, k.size, fun i hi => k.block i (by omega)⟩
end Go.Proofs.Ytlbfnchjbpioeaa
