/-
  made: what lies in memory while a packed text is made. Conditions: as each says.
-/
import Derived.Test.YtchjmhgalbkjkaaMadB
import Derived.Test.YtchjmhgalbkjkaaRws
namespace Go.Proofs.Ytchjmhgalbkjkaa
open Go.RowKit Go.Shelf
set_option linter.unusedVariables false
/-- the pieces' places and sequences -/
def ptsP : Nat → List Lz.Pc → List Pt
  | _, [] => []
  | i, x :: l => (i, nums x.lit, x.off, x.len) :: ptsP (i + (Lz.enc1 x).length) l
theorem ptsP_snoc (x : Lz.Pc) : ∀ (a : List Lz.Pc) (i : Nat), ptsP i (a ++ [x]) = ptsP i a ++ [(i + (Lz.enc a).length, nums x.lit, x.off, x.len)]
  | [], i => by simp [ptsP, Lz.enc]
  | y :: a, i => by
    rw [List.cons_append, ptsP, ptsP_snoc x a, ptsP, Lz.enc, List.length_append, Nat.add_assoc]
    rfl
theorem ptsP_length : ∀ (a : List Lz.Pc) (i : Nat), (ptsP i a).length = a.length
  | [], i => rfl
  | y :: a, i => by rw [ptsP, List.length_cons, List.length_cons, ptsP_length a]
/-- the result's box, the box of m, the three rows -/
structure Mb (b : Nat) (w0 : World) (tb : ByteArray) (sv lv av : Value) (m : Nat) (S : List Nat) (nl : Nat) (pl : List Pt) (na : Nat) (pa : List Pt) (W : World) : Prop where
  res : W.heap[b]? = some (.cells #[.string ⟨#[]⟩, .string ⟨#[]⟩, .slice none 0 0, .slice none 0 0] 31 (0, 0))
  box : W.heap[b + 1]? = some (.cells #[.string tb, .string ⟨#[]⟩, lv, av] 31 (0, 0))
  rs : OwnM W b sv m (byv S)
  rl : W.ownsRow b 39 3 lv nl (pqv pl)
  ra : W.ownsRow b 3 1 av na (plv pa)
  bel : Below b w0 W
  siz : b + 2 ≤ W.heap.size
section
variable {b : Nat} {w0 W W' : World} {tb : ByteArray} {sv lv av : Value} {m : Nat} {S : List Nat} {nl : Nat} {pl : List Pt} {na : Nat} {pa : List Pt}
theorem Mb.cells (h : Mb b w0 tb sv lv av m S nl pl na pa W) : W.cell? ⟨b + 1, 0, none⟩ = some (.string tb) ∧ W.cell? ⟨b + 1, 2, none⟩ = some lv ∧ W.cell? ⟨b + 1, 3, none⟩ = some av ∧ W.cell? ⟨b + 1, 1, none⟩ = some (.string ⟨#[]⟩) := by
  have := h.box
  simp [World.cell?, this]
theorem Mb.frozen (h : Mb b w0 tb sv lv av m S nl pl na pa W) (k : Nat) : W.frozen? ⟨b + 1, k, none⟩ = false := by
  have := h.box
  simp [World.frozen?, this]
theorem Mb.type5 (h : Mb b w0 tb sv lv av m S nl pl na pa W) : ∀ k, sv.ownBlock = some k → ∃ cs fz, W.heap[k]? = some (.cells cs 5 fz) := by
  intro k hk
  rcases h.rs.2 with ⟨rfl, _⟩ | ⟨g, cap, cur, fz, rfl, _, h2, _⟩
  · simp [Value.ownBlock] at hk
  · simp only [Value.ownBlock, Option.some.injEq] at hk
    subst hk
    exact ⟨_, _, h2⟩
/-- whatever turns no block of these -/
theorem Mb.kept (h : Mb b w0 tb sv lv av m S nl pl na pa W) (hos : W'.os = W.os) (htp : W'.tape = W.tape) (hou : W'.output = W.output) (hs : W.heap.size ≤ W'.heap.size) (hb : ∀ k, k < W.heap.size → W'.heap[k]? = W.heap[k]?) : Mb b w0 tb sv lv av m S nl pl na pa W' := by
  have hsz := h.siz
  have hg : W.grownBy W' none := ⟨hos, htp, hou, hs, fun k hk _ => hb k hk⟩
  refine ⟨(hb b (by omega)).trans h.res, (hb (b + 1) (by omega)).trans h.box, h.rs.kept fun k hk => hb k (h.rs.lt k hk).2, ?_, ?_, ?_, by omega⟩
  · refine h.rl.kept hg ?_
    cases e : lv.ownBlock with
    | none => exact .inl rfl
    | some k => exact .inr (by simp)
  · refine h.ra.kept hg ?_
    cases e : av.ownBlock with
    | none => exact .inl rfl
    | some k => exact .inr (by simp)
  · exact h.bel.trans ⟨hos, htp, hou, hs, fun k hk => hb k (by omega)⟩
theorem Mb.new (h : Mb b w0 tb sv lv av m S nl pl na pa W) (o : Obj) : Mb b w0 tb sv lv av m S nl pl na pa (W.alloc o) :=
  h.kept rfl rfl rfl (by simp) (fun k hk => Below.heap_alloc _ _ _ hk)
theorem Mb.below (h : Mb b w0 tb sv lv av m S nl pl na pa W) (hb : Below W.heap.size W W') : Mb b w0 tb sv lv av m S nl pl na pa W' :=
  h.kept hb.os hb.tape hb.output hb.size hb.block
/-- a block of another kind stays through what grows a row of bytes -/
theorem ty_ne {W : World} {k g : Nat} {cs cs' : Array Value} {t t' : TypeId} {fz fz' : Nat × Nat} (h : W.heap[k]? = some (.cells cs t fz)) (h' : W.heap[g]? = some (.cells cs' t' fz')) (ht : t ≠ t') : k ≠ g := by
  intro e
  subst e
  rw [h] at h'
  cases h'
  exact ht rfl
theorem own_ty {w : World} {base n size : Nat} {e : TypeId} {v : Value} {xs : List Value} (h : w.ownsRow base e size v n xs) {k : Nat} {cs : Array Value} {t : TypeId} {fz : Nat × Nat} (hk : w.heap[k]? = some (.cells cs t fz)) (ht : t ≠ e) : v.ownBlock ≠ some k := by
  intro e1
  obtain ⟨c1, z1, h1⟩ := row_type h k e1
  exact ty_ne hk h1 ht rfl
theorem ne_of {v : Value} {row : Option Nat} (h : ∀ k, v.ownBlock = some k → row ≠ some k) : v.ownBlock = none ∨ v.ownBlock ≠ row := by
  cases e : v.ownBlock with
  | none => exact .inl rfl
  | some k => exact .inr (fun e2 => h k e e2.symm)
/-- the text so far grows -/
theorem Mb.said (h : Mb b w0 tb sv lv av m S nl pl na pa W) {sv' : Value} {m' : Nat} {S' : List Nat} (hg : W.grownBy W' sv.ownBlock) (ho : OwnM W' b sv' m' (byv S')) : Mb b w0 tb sv' lv av m' S' nl pl na pa W' := by
  have hsz := h.siz
  have far : ∀ {k : Nat} {cs : Array Value} {t : TypeId} {fz : Nat × Nat}, W.heap[k]? = some (.cells cs t fz) → t ≠ 5 → some k ≠ sv.ownBlock := by
    intro k cs t fz hk ht e
    obtain ⟨c1, z1, h1⟩ := h.type5 k e.symm
    exact ty_ne hk h1 ht rfl
  refine ⟨(hg.block b (by omega) (far h.res (by decide))).trans h.res, (hg.block (b + 1) (by omega) (far h.box (by decide))).trans h.box, ho, ?_, ?_, ?_, Nat.le_trans hsz hg.size⟩
  · refine h.rl.kept hg (ne_of fun k hk e => ?_)
    obtain ⟨c1, z1, h1⟩ := row_type h.rl k hk
    exact far h1 (by decide) e.symm
  · refine h.ra.kept hg (ne_of fun k hk e => ?_)
    obtain ⟨c1, z1, h1⟩ := row_type h.ra k hk
    exact far h1 (by decide) e.symm
  · exact h.bel.grown hg (by omega) (fun k hk => (h.rs.lt k hk).1)
theorem grown_setc (W : World) (k o : Nat) (u : Value) : W.grownBy (W.setCell ⟨k, o, none⟩ u) (some k) :=
  ⟨rfl, rfl, rfl, by simp [World.setCell], fun i _ hne => by
    simp only [World.setCell, Array.getElem?_modify]
    rw [if_neg (fun e => hne (by rw [e]))]⟩
theorem setc_at {W : World} {k : Nat} {cs : Array Value} {t : TypeId} {fz : Nat × Nat} (h : W.heap[k]? = some (.cells cs t fz)) (o : Nat) (u : Value) : (W.setCell ⟨k, o, none⟩ u).heap[k]? = some (.cells (cs.setIfInBounds o u) t fz) := by
  simp [World.setCell, Array.getElem?_modify, h]
theorem box_set (h : Mb b w0 tb sv lv av m S nl pl na pa W) (o : Nat) (u : Value) : (W.setCell ⟨b + 1, o, none⟩ u).heap[b + 1]? = some (.cells (#[.string tb, .string ⟨#[]⟩, lv, av].setIfInBounds o u) 31 (0, 0)) := by
  exact setc_at h.box o u
/-- a turned box: the rows stay -/
theorem Mb.turned (h : Mb b w0 tb sv lv av m S nl pl na pa W) (o : Nat) (u : Value) : (W.setCell ⟨b + 1, o, none⟩ u).heap[b]? = some (.cells #[.string ⟨#[]⟩, .string ⟨#[]⟩, .slice none 0 0, .slice none 0 0] 31 (0, 0)) ∧ OwnM (W.setCell ⟨b + 1, o, none⟩ u) b sv m (byv S) ∧ (W.setCell ⟨b + 1, o, none⟩ u).ownsRow b 39 3 lv nl (pqv pl) ∧ (W.setCell ⟨b + 1, o, none⟩ u).ownsRow b 3 1 av na (plv pa) ∧ Below b w0 (W.setCell ⟨b + 1, o, none⟩ u) ∧ b + 2 ≤ (W.setCell ⟨b + 1, o, none⟩ u).heap.size := by
  have hsz := h.siz
  have hg := grown_setc W (b + 1) o u
  refine ⟨(hg.block b (by omega) (by simp)).trans h.res, h.rs.kept fun k hk => hg.block k (h.rs.lt k hk).2 ?_, h.rl.kept hg (ne_of fun k hk e => ?_), h.ra.kept hg (ne_of fun k hk e => ?_), h.bel.setCell (p := ⟨b + 1, o, none⟩) (by show b ≤ b + 1; omega) u, Nat.le_trans hsz hg.size⟩
  · obtain ⟨c1, z1, h1⟩ := h.type5 k hk
    intro e
    cases e
    exact ty_ne h.box h1 (by decide) rfl
  · cases e
    exact own_ty h.rl h.box (by decide) hk
  · cases e
    exact own_ty h.ra h.box (by decide) hk
theorem Mb.text (h : Mb b w0 tb sv lv av m S nl pl na pa W) (t : ByteArray) : Mb b w0 t sv lv av m S nl pl na pa (W.setCell ⟨b + 1, 0, none⟩ (.string t)) := by
  obtain ⟨h1, h2, h3, h4, h5, h6⟩ := h.turned 0 (.string t)
  exact ⟨h1, box_set h 0 _, h2, h3, h4, h5, h6⟩
/-- the places: a row grows, and goes into the box -/
theorem Mb.places (h : Mb b w0 tb sv lv av m S nl pl na pa W) {av' : Value} {na' : Nat} {pa' : List Pt} (hg : W.grownBy W' av.ownBlock) (ho : W'.ownsRow b 3 1 av' na' (plv pa')) :
    Mb b w0 tb sv lv av' m S nl pl na' pa' (W'.setCell ⟨b + 1, 3, none⟩ av') ∧ W'.cell? ⟨b + 1, 3, none⟩ = some av ∧ W'.frozen? ⟨b + 1, 3, none⟩ = false := by
  have hsz := h.siz
  have far : ∀ {k : Nat} {cs : Array Value} {t : TypeId} {fz : Nat × Nat}, W.heap[k]? = some (.cells cs t fz) → t ≠ 3 → some k ≠ av.ownBlock := by
    intro k cs t fz hk ht e
    obtain ⟨c1, z1, h1⟩ := row_type h.ra k e.symm
    exact ty_ne hk h1 ht rfl
  have hbx : W'.heap[b + 1]? = some (.cells #[.string tb, .string ⟨#[]⟩, lv, av] 31 (0, 0)) := (hg.block (b + 1) (by omega) (far h.box (by decide))).trans h.box
  have hre : W'.heap[b]? = some (.cells #[.string ⟨#[]⟩, .string ⟨#[]⟩, .slice none 0 0, .slice none 0 0] 31 (0, 0)) := (hg.block b (by omega) (far h.res (by decide))).trans h.res
  have hrl : W'.ownsRow b 39 3 lv nl (pqv pl) := h.rl.kept hg (ne_of fun k hk e => by
    obtain ⟨c1, z1, h1⟩ := row_type h.rl k hk
    exact far h1 (by decide) e.symm)
  have hrs : OwnM W' b sv m (byv S) := h.rs.kept fun k hk => hg.block k (h.rs.lt k hk).2 (by
    obtain ⟨c1, z1, h1⟩ := h.type5 k hk
    exact far h1 (by decide))
  have hg2 := grown_setc W' (b + 1) 3 av'
  have hbl : Below b w0 W' := h.bel.grown hg (by omega) (fun k hk => (h.ra.lt k hk).1)
  refine ⟨⟨(hg2.block b (by have := hg.size; omega) (by simp)).trans hre, ?_, hrs.kept fun k hk => hg2.block k (hrs.lt k hk).2 ?_, hrl.kept hg2 (ne_of fun k hk e => ?_), ho.kept hg2 (ne_of fun k hk e => ?_), hbl.setCell (p := ⟨b + 1, 3, none⟩) (by show b ≤ b + 1; omega) _, Nat.le_trans hsz (Nat.le_trans hg.size hg2.size)⟩, ?_, ?_⟩
  · exact setc_at hbx _ _
  · intro e
    cases e
    rcases hrs.2 with ⟨rfl, _⟩ | ⟨g, cap, cur, fz, rfl, _, h2, _⟩
    · simp [Value.ownBlock] at hk
    · simp only [Value.ownBlock, Option.some.injEq] at hk
      subst hk
      exact ty_ne hbx h2 (by decide) rfl
  · cases e
    exact own_ty hrl hbx (by decide) hk
  · cases e
    exact own_ty ho hbx (by decide) hk
  · simp [World.cell?, hbx]
  · simp [World.frozen?, hbx]
/-- the sequences likewise -/
theorem Mb.seqs (h : Mb b w0 tb sv lv av m S nl pl na pa W) {lv' : Value} {nl' : Nat} {pl' : List Pt} (hg : W.grownBy W' lv.ownBlock) (ho : W'.ownsRow b 39 3 lv' nl' (pqv pl')) :
    Mb b w0 tb sv lv' av m S nl' pl' na pa (W'.setCell ⟨b + 1, 2, none⟩ lv') ∧ W'.cell? ⟨b + 1, 2, none⟩ = some lv ∧ W'.frozen? ⟨b + 1, 2, none⟩ = false := by
  have hsz := h.siz
  have far : ∀ {k : Nat} {cs : Array Value} {t : TypeId} {fz : Nat × Nat}, W.heap[k]? = some (.cells cs t fz) → t ≠ 39 → some k ≠ lv.ownBlock := by
    intro k cs t fz hk ht e
    obtain ⟨c1, z1, h1⟩ := row_type h.rl k e.symm
    exact ty_ne hk h1 ht rfl
  have hbx : W'.heap[b + 1]? = some (.cells #[.string tb, .string ⟨#[]⟩, lv, av] 31 (0, 0)) := (hg.block (b + 1) (by omega) (far h.box (by decide))).trans h.box
  have hre : W'.heap[b]? = some (.cells #[.string ⟨#[]⟩, .string ⟨#[]⟩, .slice none 0 0, .slice none 0 0] 31 (0, 0)) := (hg.block b (by omega) (far h.res (by decide))).trans h.res
  have hra : W'.ownsRow b 3 1 av na (plv pa) := h.ra.kept hg (ne_of fun k hk e => by
    obtain ⟨c1, z1, h1⟩ := row_type h.ra k hk
    exact far h1 (by decide) e.symm)
  have hrs : OwnM W' b sv m (byv S) := h.rs.kept fun k hk => hg.block k (h.rs.lt k hk).2 (by
    obtain ⟨c1, z1, h1⟩ := h.type5 k hk
    exact far h1 (by decide))
  have hg2 := grown_setc W' (b + 1) 2 lv'
  have hbl : Below b w0 W' := h.bel.grown hg (by omega) (fun k hk => (h.rl.lt k hk).1)
  refine ⟨⟨(hg2.block b (by have := hg.size; omega) (by simp)).trans hre, ?_, hrs.kept fun k hk => hg2.block k (hrs.lt k hk).2 ?_, ho.kept hg2 (ne_of fun k hk e => ?_), hra.kept hg2 (ne_of fun k hk e => ?_), hbl.setCell (p := ⟨b + 1, 2, none⟩) (by show b ≤ b + 1; omega) _, Nat.le_trans hsz (Nat.le_trans hg.size hg2.size)⟩, ?_, ?_⟩
  · exact setc_at hbx _ _
  · intro e
    cases e
    rcases hrs.2 with ⟨rfl, _⟩ | ⟨g, cap, cur, fz, rfl, _, h2, _⟩
    · simp [Value.ownBlock] at hk
    · simp only [Value.ownBlock, Option.some.injEq] at hk
      subst hk
      exact ty_ne hbx h2 (by decide) rfl
  · cases e
    exact own_ty ho hbx (by decide) hk
  · cases e
    exact own_ty hra hbx (by decide) hk
  · simp [World.cell?, hbx]
  · simp [World.frozen?, hbx]
end
end Go.Proofs.Ytchjmhgalbkjkaa
