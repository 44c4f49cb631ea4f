/-
  record: what lies in memory of a Builder, and how it turns. Conditions: as each says.
-/
import Derived.Test.YtlplbnlfajdcbaaGreatDoorRcB
import Derived.Test.YtlplbnlfajdcbaaGreatDoorRdn
import Derived.Lib.AppendStr
import Derived.Deep.AppendLies
import Derived.Maps.AppendAt
namespace Rec
open Code Sums
def ens : Nat → List Ln → List Nat
  | _, [] => []
  | a, x :: l => (a + x.2.size) :: ens (a + x.2.size) l
theorem ens_len : ∀ (l : List Ln) (a : Nat), (ens a l).length = l.length
  | [], _ => rfl
  | x :: l, a => by rw [ens, List.length_cons, List.length_cons, ens_len l]
theorem ens_snoc (x : Ln) : ∀ (l : List Ln) (a : Nat), ens a (l ++ [x]) = ens a l ++ [a + (txs l).length + x.2.size]
  | [], a => by simp [ens, txs]
  | y :: l, a => by
    rw [List.cons_append, ens, ens_snoc x l, ens, txs, List.length_append, bl_length, List.cons_append]
    congr 3
    omega
def mn : List Ln → Int
  | [] => 0
  | x :: l => l.foldl (fun m y => min m y.1) x.1
def mx : List Ln → Int
  | [] => 0
  | x :: l => l.foldl (fun m y => max m y.1) x.1
theorem mn_snoc (l : List Ln) (x : Ln) : mn (l ++ [x]) = if l = [] then x.1 else min (mn l) x.1 := by
  cases l with
  | nil => rfl
  | cons y l => rw [if_neg (by simp), List.cons_append]; simp [mn, List.foldl_append]
theorem mx_snoc (l : List Ln) (x : Ln) : mx (l ++ [x]) = if l = [] then x.1 else max (mx l) x.1 := by
  cases l with
  | nil => rfl
  | cons y l => rw [if_neg (by simp), List.cons_append]; simp [mx, List.foldl_append]
end Rec
namespace Go.Proofs.YtlplbnlfajdcbaaGreatDoor
open Go.RowKit
set_option linter.unusedVariables false
theorem ret_tup3 {a b c d e f : Value} (h : a = b) (h2 : c = d) (h3 : e = f) : Ending.returned (.tuple #[a, c, e]) = .returned (.tuple #[b, d, f]) := by rw [h, h2, h3]
def itv (l : List Int) : List Value := l.map fun n => Value.int .i64 n
def stV (l : List Rec.Ln) : List Value := itv (Rec.sts l)
def enV (l : List Rec.Ln) : List Value := itv ((Rec.ens 0 l).map fun n : Nat => (n : Int))
theorem itv_len (l : List Int) : (itv l).length = l.length := List.length_map ..
theorem itv_one (l : List Int) : ∀ u ∈ itv l, u.oneCell' = true := by
  intro u hu
  obtain ⟨z, _, rfl⟩ := List.mem_map.1 hu
  rfl
theorem infoI : (Tryz.prog.info? 3).map (fun i => (i.zero, i.size, i.bytes)) = some (some (.int .i64 0), 1, 8) := by kernel_rfl
theorem row_kept {w w' : World} {base n size : Nat} {e : TypeId} {v : Value} {xs : List Value} (h : w.ownsRow base e size v n xs) (hb : ∀ k, v.ownBlock = some k → w'.heap[k]? = w.heap[k]?) : w'.ownsRow base e size v n xs := by
  refine ⟨h.1, ?_⟩
  rcases h.2 with h0 | ⟨g, cap, cur, rfl, h1, h2, h3⟩
  · exact .inl h0
  · exact .inr ⟨g, cap, cur, rfl, h1, by rw [hb g rfl]; exact h2, h3⟩
theorem row_type {w : World} {base n size : Nat} {e : TypeId} {v : Value} {xs : List Value} (h : w.ownsRow base e size v n xs) : ∀ k, v.ownBlock = some k → ∃ cs fz, w.heap[k]? = some (.cells cs e fz) := by
  intro k hk
  rcases h.2 with ⟨rfl, _⟩ | ⟨g, cap, cur, rfl, h1, h2, _⟩
  · simp [Value.ownBlock] at hk
  · simp only [Value.ownBlock, Option.some.injEq] at hk
    subst hk
    exact ⟨_, _, h2⟩
theorem row_shape {w : World} {base n size : Nat} {e : TypeId} {v : Value} {xs : List Value} (h : w.ownsRow base e size v n xs) : ∃ b cap, v = .slice b n cap := by
  rcases h.2 with ⟨rfl, rfl⟩ | ⟨g, cap, cur, rfl, _⟩
  · exact ⟨none, 0, rfl⟩
  · exact ⟨some ⟨g, 0, none⟩, cap, rfl⟩
theorem ty_ne {W : World} {k g : Nat} {cs cs' : Array Value} {t t' : TypeId} {fz fz' : Nat × Nat} (h : W.heap[k]? = some (.cells cs t fz)) (h' : W.heap[g]? = some (.cells cs' t' fz')) (ht : t ≠ t') : k ≠ g := by
  intro e
  subst e
  rw [h] at h'
  cases h'
  exact ht rfl
theorem own_ty {w : World} {base n size : Nat} {e : TypeId} {v : Value} {xs : List Value} (h : w.ownsRow base e size v n xs) {k : Nat} {cs : Array Value} {t : TypeId} {fz : Nat × Nat} (hk : w.heap[k]? = some (.cells cs t fz)) (ht : t ≠ e) : v.ownBlock ≠ some k := by
  intro e1
  obtain ⟨c1, z1, h1⟩ := row_type h k e1
  exact ty_ne hk h1 ht rfl
theorem grown_setc (W : World) (k o : Nat) (u : Value) : W.grownBy (W.setCell ⟨k, o, none⟩ u) (some k) :=
  ⟨rfl, rfl, rfl, by simp [World.setCell], fun i _ hne => by
    simp only [World.setCell, Array.getElem?_modify]
    rw [if_neg (fun e => hne (by rw [e]))]⟩
theorem setc_at {W : World} {k : Nat} {cs : Array Value} {t : TypeId} {fz : Nat × Nat} (h : W.heap[k]? = some (.cells cs t fz)) (o : Nat) (u : Value) : (W.setCell ⟨k, o, none⟩ u).heap[k]? = some (.cells (cs.setIfInBounds o u) t fz) := by
  simp [World.setCell, Array.getElem?_modify, h]
theorem str_byv (s : ByteArray) : Lib.strCells s = byv (Sums.bl s) := by
  unfold Lib.strCells byv Sums.bl
  rw [List.map_map]
  rfl
/-- an append of a text, as a step of a region that draws its order -/
theorem step_append_str {ops : Array Oper} {o : Oper} {a : Act} {w : World} {K : Act → World → Prop} {Q : Exit → Act → World → Prop} {E : Prop} (hgd : o.guard = none) (sl x : Operand)
    (ho : o.op = .call { callee := .builtin .append, args := #[sl, x], argTypes := #[52, 9] })
    (base : Nat) (v : Value) (n : Nat) (xs : List Value) (hs : a.eval sl = v) (hown : w.ownsRow base 5 1 v n xs) (s : ByteArray) (hx : a.eval x = .string s)
    (h63 : n + s.size ≤ maxLen) (hbytes : n + s.size ≤ 140737488355328) (hbase : base ≤ w.heap.size)
    (h : ∀ v' w', w'.ownsRow base 5 1 v' (n + s.size) (xs ++ byv (Sums.bl s)) → w.grownBy w' v.ownBlock → K (a.put o.dst v') w') :
    if Region.wanted o (yielded ops a.tmps) = true then Oper.wp Tryz.prog o a w K Q else E := by
  have hw : Region.wanted o (yielded ops a.tmps) = true := by simp [Region.wanted, hgd]
  rw [if_pos hw]
  obtain ⟨i0, hi, hz0, hz1, hz2⟩ := info_parts infoB
  obtain ⟨v', w', hr, h1, h2, h3⟩ := Lib.run_append_own_string (P := Tryz.prog) w base 52 9 o.type 5 i0 Tryz.underlying52 Tryz.underlying9 hi hz0 hz1 hz2 v n xs hown s h63 hbytes hbase
  unfold Oper.wp execOp
  simp only [ho, resolve, invoke, builtin, Sem.run_bind, Sem.run_pure, Result.andThen_ok, List.map_toArray, List.map_cons, List.map_nil, hs, hx, hr]
  exact h _ _ (by rw [← str_byv]; exact h1) h2
/-- block g holds a Builder: three rows of its own, from B on, and three numbers -/
structure Bw (B g : Nat) (S E : List Int) (T : List Nat) (sv ev tv : Value) (nu mi ma : Int) (w : World) : Prop where
  hB : B ≤ g
  row : w.heap[g]? = some (.cells #[sv, ev, tv, .int .i64 nu, .int .i64 mi, .int .i64 ma] 136 (0, 0))
  hs : w.ownsRow B 3 1 sv S.length (itv S)
  he : w.ownsRow B 3 1 ev E.length (itv E)
  ht : w.ownsRow B 5 1 tv T.length (byv T)
  ap : ∀ k, sv.ownBlock = some k → ev.ownBlock ≠ some k
section
variable {B g : Nat} {S E : List Int} {T : List Nat} {sv ev tv : Value} {nu mi ma : Int} {w w' : World}
theorem Bw.lt (h : Bw B g S E T sv ev tv nu mi ma w) : g < w.heap.size := (Array.getElem?_eq_some_iff.1 h.row).1
theorem Bw.cell (h : Bw B g S E T sv ev tv nu mi ma w) (o : Nat) : w.cell? ⟨g, o, none⟩ = (#[sv, ev, tv, .int .i64 nu, .int .i64 mi, .int .i64 ma] : Array Value)[o]? := by
  simp [World.cell?, h.row]
theorem Bw.fz (h : Bw B g S E T sv ev tv nu mi ma w) (o : Nat) : w.frozen? ⟨g, o, none⟩ = false := by
  simp [World.frozen?, h.row]
theorem Bw.drewN (h : Bw B g S E T sv ev tv nu mi ma w) (n : Nat) : Bw B g S E T sv ev tv nu mi ma (w.drewN n) := ⟨h.hB, h.row, h.hs, h.he, h.ht, h.ap⟩
theorem Bw.below (h : Bw B g S E T sv ev tv nu mi ma w) (hb : Below w.heap.size w w') : Bw B g S E T sv ev tv nu mi ma w' :=
  ⟨h.hB, (hb.block g h.lt).trans h.row, row_kept h.hs fun k hk => hb.block k (h.hs.lt k hk).2, row_kept h.he fun k hk => hb.block k (h.he.lt k hk).2, row_kept h.ht fun k hk => hb.block k (h.ht.lt k hk).2, h.ap⟩
/-- what was there ahead of B is not the Builder's -/
theorem Bw.rows_ne (h : Bw B g S E T sv ev tv nu mi ma w) : sv.ownBlock ≠ some g ∧ ev.ownBlock ≠ some g ∧ tv.ownBlock ≠ some g :=
  ⟨own_ty h.hs h.row (by decide), own_ty h.he h.row (by decide), own_ty h.ht h.row (by decide)⟩
theorem Bw.set (h : Bw B g S E T sv ev tv nu mi ma w) (o : Nat) (u : Value) : (w.setCell ⟨g, o, none⟩ u).heap[g]? = some (.cells (#[sv, ev, tv, .int .i64 nu, .int .i64 mi, .int .i64 ma].setIfInBounds o u) 136 (0, 0)) ∧ (w.setCell ⟨g, o, none⟩ u).ownsRow B 3 1 sv S.length (itv S) ∧ (w.setCell ⟨g, o, none⟩ u).ownsRow B 3 1 ev E.length (itv E) ∧ (w.setCell ⟨g, o, none⟩ u).ownsRow B 5 1 tv T.length (byv T) := by
  obtain ⟨n1, n2, n3⟩ := h.rows_ne
  have hg := grown_setc w g o u
  exact ⟨setc_at h.row o u, row_kept h.hs fun k hk => hg.block k (h.hs.lt k hk).2 (fun e => n1 (by rw [hk, e])), row_kept h.he fun k hk => hg.block k (h.he.lt k hk).2 (fun e => n2 (by rw [hk, e])), row_kept h.ht fun k hk => hg.block k (h.ht.lt k hk).2 (fun e => n3 (by rw [hk, e]))⟩
theorem Bw.set3 (h : Bw B g S E T sv ev tv nu mi ma w) (n : Int) : Bw B g S E T sv ev tv n mi ma (w.setCell ⟨g, 3, none⟩ (.int .i64 n)) := by
  obtain ⟨a1, a2, a3, a4⟩ := h.set 3 (.int .i64 n)
  exact ⟨h.hB, a1, a2, a3, a4, h.ap⟩
theorem Bw.set4 (h : Bw B g S E T sv ev tv nu mi ma w) (n : Int) : Bw B g S E T sv ev tv nu n ma (w.setCell ⟨g, 4, none⟩ (.int .i64 n)) := by
  obtain ⟨a1, a2, a3, a4⟩ := h.set 4 (.int .i64 n)
  exact ⟨h.hB, a1, a2, a3, a4, h.ap⟩
theorem Bw.set5 (h : Bw B g S E T sv ev tv nu mi ma w) (n : Int) : Bw B g S E T sv ev tv nu mi n (w.setCell ⟨g, 5, none⟩ (.int .i64 n)) := by
  obtain ⟨a1, a2, a3, a4⟩ := h.set 5 (.int .i64 n)
  exact ⟨h.hB, a1, a2, a3, a4, h.ap⟩
theorem Bw.below_set (h : Bw B g S E T sv ev tv nu mi ma w) (o : Nat) (u : Value) {w0 : World} (hb : Below B w0 w) : Below B w0 (w.setCell ⟨g, o, none⟩ u) := hb.setCell (p := ⟨g, o, none⟩) h.hB u
theorem Bw.bel_g (h : Bw B g S E T sv ev tv nu mi ma w) {v : Value} {S' : List Value} {n e s : Nat} (hv : w.ownsRow B e s v n S') (hg : w.grownBy w' v.ownBlock) (hBs : B ≤ w.heap.size) {w0 : World} (hb : Below B w0 w) : Below B w0 w' := hb.grown hg hBs (fun k hk => (hv.lt k hk).1)
/-- a stamp more -/
theorem Bw.stamp (h : Bw B g S E T sv ev tv nu mi ma w) {q cap : Nat} {x : Int} (hg : w.grownBy w' sv.ownBlock) (hat : sv.ownBlock = some q ∨ q = w.heap.size) (ho : w'.ownsRow B 3 1 (.slice (some ⟨q, 0, none⟩) (S.length + 1) cap) (S.length + 1) (itv S ++ [.int .i64 x])) :
    Bw B g (S ++ [x]) E T (.slice (some ⟨q, 0, none⟩) (S.length + 1) cap) ev tv nu mi ma (w'.setCell ⟨g, 0, none⟩ (.slice (some ⟨q, 0, none⟩) (S.length + 1) cap)) ∧ w'.heap[g]? = some (.cells #[sv, ev, tv, .int .i64 nu, .int .i64 mi, .int .i64 ma] 136 (0, 0)) := by
  obtain ⟨n1, n2, n3⟩ := h.rows_ne
  have hr : w'.heap[g]? = some (.cells #[sv, ev, tv, .int .i64 nu, .int .i64 mi, .int .i64 ma] 136 (0, 0)) := (hg.block g h.lt (fun e => n1 e.symm)).trans h.row
  have he' : w'.ownsRow B 3 1 ev E.length (itv E) := row_kept h.he fun k hk => hg.block k (h.he.lt k hk).2 (fun e => h.ap k e.symm hk)
  have ht' : w'.ownsRow B 5 1 tv T.length (byv T) := row_kept h.ht fun k hk => hg.block k (h.ht.lt k hk).2 (fun e => by
    obtain ⟨c1, z1, q1⟩ := row_type h.ht k hk
    exact own_ty h.hs q1 (by decide) e.symm)
  have hap : ∀ k, (Value.slice (some ⟨q, 0, none⟩) (S.length + 1) cap).ownBlock = some k → ev.ownBlock ≠ some k := by
    intro k hk
    simp only [Value.ownBlock, Option.some.injEq] at hk
    subst hk
    rcases hat with e | rfl
    · exact h.ap _ e
    · intro e
      have := (h.he.lt _ e).2
      omega
  have h1 : Bw B g (S ++ [x]) E T (.slice (some ⟨q, 0, none⟩) (S.length + 1) cap) ev tv nu mi ma (w'.setCell ⟨g, 0, none⟩ (.slice (some ⟨q, 0, none⟩) (S.length + 1) cap)) := by
    have hg2 := grown_setc w' g 0 (.slice (some ⟨q, 0, none⟩) (S.length + 1) cap)
    have hl : (S ++ [x]).length = S.length + 1 := by simp
    refine ⟨h.hB, setc_at hr 0 _, ?_, row_kept he' fun k hk => hg2.block k (he'.lt k hk).2 (fun e => n2 (by rw [hk, e])), row_kept ht' fun k hk => hg2.block k (ht'.lt k hk).2 (fun e => n3 (by rw [hk, e])), hap⟩
    have ho' : w'.ownsRow B 3 1 (.slice (some ⟨q, 0, none⟩) (S.length + 1) cap) (S ++ [x]).length (itv (S ++ [x])) := by
      rw [hl]
      unfold itv at ho ⊢
      rw [List.map_append]
      exact ho
    exact row_kept ho' fun k hk => hg2.block k (ho'.lt k hk).2 (fun e => own_ty ho' hr (by decide) (by rw [hk, e]))
  exact ⟨h1, hr⟩
/-- an end more -/
theorem Bw.end_ (h : Bw B g S E T sv ev tv nu mi ma w) {q cap : Nat} {x : Int} (hg : w.grownBy w' ev.ownBlock) (hat : ev.ownBlock = some q ∨ q = w.heap.size) (ho : w'.ownsRow B 3 1 (.slice (some ⟨q, 0, none⟩) (E.length + 1) cap) (E.length + 1) (itv E ++ [.int .i64 x])) :
    Bw B g S (E ++ [x]) T sv (.slice (some ⟨q, 0, none⟩) (E.length + 1) cap) tv nu mi ma (w'.setCell ⟨g, 1, none⟩ (.slice (some ⟨q, 0, none⟩) (E.length + 1) cap)) ∧ w'.heap[g]? = some (.cells #[sv, ev, tv, .int .i64 nu, .int .i64 mi, .int .i64 ma] 136 (0, 0)) := by
  obtain ⟨n1, n2, n3⟩ := h.rows_ne
  have hr : w'.heap[g]? = some (.cells #[sv, ev, tv, .int .i64 nu, .int .i64 mi, .int .i64 ma] 136 (0, 0)) := (hg.block g h.lt (fun e => n2 e.symm)).trans h.row
  have hs' : w'.ownsRow B 3 1 sv S.length (itv S) := row_kept h.hs fun k hk => hg.block k (h.hs.lt k hk).2 (fun e => h.ap k hk e.symm)
  have ht' : w'.ownsRow B 5 1 tv T.length (byv T) := row_kept h.ht fun k hk => hg.block k (h.ht.lt k hk).2 (fun e => by
    obtain ⟨c1, z1, q1⟩ := row_type h.ht k hk
    exact own_ty h.he q1 (by decide) e.symm)
  have hap : ∀ k, sv.ownBlock = some k → (Value.slice (some ⟨q, 0, none⟩) (E.length + 1) cap).ownBlock ≠ some k := by
    intro k hk e
    simp only [Value.ownBlock, Option.some.injEq] at e
    subst e
    rcases hat with e | rfl
    · exact h.ap _ hk e
    · have := (h.hs.lt _ hk).2
      omega
  have hg2 := grown_setc w' g 1 (.slice (some ⟨q, 0, none⟩) (E.length + 1) cap)
  have hl : (E ++ [x]).length = E.length + 1 := by simp
  refine ⟨⟨h.hB, setc_at hr 1 _, row_kept hs' fun k hk => hg2.block k (hs'.lt k hk).2 (fun e => n1 (by rw [hk, e])), ?_, row_kept ht' fun k hk => hg2.block k (ht'.lt k hk).2 (fun e => n3 (by rw [hk, e])), hap⟩, hr⟩
  have ho' : w'.ownsRow B 3 1 (.slice (some ⟨q, 0, none⟩) (E.length + 1) cap) (E ++ [x]).length (itv (E ++ [x])) := by
    rw [hl]
    unfold itv at ho ⊢
    rw [List.map_append]
    exact ho
  exact row_kept ho' fun k hk => hg2.block k (ho'.lt k hk).2 (fun e => own_ty ho' hr (by decide) (by rw [hk, e]))
/-- a text more -/
theorem Bw.text (h : Bw B g S E T sv ev tv nu mi ma w) {tv' : Value} {t : List Nat} (hg : w.grownBy w' tv.ownBlock) (ho : w'.ownsRow B 5 1 tv' (T.length + t.length) (byv T ++ byv t)) :
    Bw B g S E (T ++ t) sv ev tv' nu mi ma (w'.setCell ⟨g, 2, none⟩ tv') ∧ w'.heap[g]? = some (.cells #[sv, ev, tv, .int .i64 nu, .int .i64 mi, .int .i64 ma] 136 (0, 0)) := by
  obtain ⟨n1, n2, n3⟩ := h.rows_ne
  have hr : w'.heap[g]? = some (.cells #[sv, ev, tv, .int .i64 nu, .int .i64 mi, .int .i64 ma] 136 (0, 0)) := (hg.block g h.lt (fun e => n3 e.symm)).trans h.row
  have far : ∀ {v : Value} {n : Nat} {xs : List Value}, w.ownsRow B 3 1 v n xs → w'.ownsRow B 3 1 v n xs := fun hv => row_kept hv fun k hk => hg.block k (hv.lt k hk).2 (fun e => by
    obtain ⟨c1, z1, q1⟩ := row_type hv k hk
    exact own_ty h.ht q1 (by decide) e.symm)
  have hs' := far h.hs
  have he' := far h.he
  have hg2 := grown_setc w' g 2 tv'
  have ho' : w'.ownsRow B 5 1 tv' (T ++ t).length (byv (T ++ t)) := by
    rw [List.length_append, byv_append]
    exact ho
  exact ⟨⟨h.hB, setc_at hr 2 _, row_kept hs' fun k hk => hg2.block k (hs'.lt k hk).2 (fun e => n1 (by rw [hk, e])), row_kept he' fun k hk => hg2.block k (he'.lt k hk).2 (fun e => n2 (by rw [hk, e])), row_kept ho' fun k hk => hg2.block k (ho'.lt k hk).2 (fun e => own_ty ho' hr (by decide) (by rw [hk, e])), h.ap⟩, hr⟩
end
/-- block g holds a Builder of these lines -/
structure Bdr (B g : Nat) (L : List Rec.Ln) (w : World) : Prop where
  ex : ∃ sv ev tv, Bw B g (Rec.sts L) ((Rec.ens 0 L).map fun n : Nat => (n : Int)) (Rec.txs L) sv ev tv (Rec.nmF L : Int) (Rec.mn L) (Rec.mx L) w
  ok : ∀ x ∈ L, Rec.bad x = 0
  sz : Rec.szF L ≤ 131072
theorem Bdr.below {B g : Nat} {L : List Rec.Ln} {w w' : World} (h : Bdr B g L w) (hb : Below w.heap.size w w') : Bdr B g L w' := by
  obtain ⟨sv, ev, tv, hw⟩ := h.ex
  exact ⟨⟨sv, ev, tv, hw.below hb⟩, h.ok, h.sz⟩
theorem Bdr.lt {B g : Nat} {L : List Rec.Ln} {w : World} (h : Bdr B g L w) : g < w.heap.size := by
  obtain ⟨sv, ev, tv, hw⟩ := h.ex
  exact hw.lt
theorem new_any (w : World) :
    Calls Tryz.prog 49 #[] w fun e w' => e = .returned (.pointer (some ⟨w.heap.size, 0, none⟩)) ∧ Bdr w.heap.size w.heap.size [] w' ∧ Below w.heap.size w w' := by
  go_enter Tryz.func49, Tryz.ntmps49
  go_wp2_with fail
  go_ret
  refine ⟨rfl, ⟨⟨.slice none 0 0, .slice none 0 0, .slice none 0 0, Nat.le_refl _, ?_, World.ownsRow_nil _ _ _ _, World.ownsRow_nil _ _ _ _, World.ownsRow_nil _ _ _ _, fun k hk => by simp [Value.ownBlock] at hk⟩, by simp, by decide⟩, (Below.refl _ _).alloc (Nat.le_refl _) _⟩
  exact heap_alloc_new w _
end Go.Proofs.YtlplbnlfajdcbaaGreatDoor
