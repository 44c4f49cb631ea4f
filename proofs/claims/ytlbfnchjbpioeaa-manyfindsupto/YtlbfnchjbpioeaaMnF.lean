/-
  (*many.Set).join: what lies in memory while it goes over the beginnings. Conditions: as each says.
-/
import Derived.Test.YtlbfnchjbpioeaaMnE
namespace Go.Proofs.Ytlbfnchjbpioeaa
open Go.RowKit
set_option linter.unusedVariables false
structure Jm (B sb g : Nat) (wv : Value) (n cn m : Nat) (nx : Nat → Nat → Int) (ln wd wl sh : Nat → Int) (gt : Nat) (tl : Nat → Int) (gu cu q : Nat) (F : Nat → Int) (w0 w : World) : Prop where
  set : SetM B sb g wv n cn m nx ln wd wl sh w
  tls : w.ownsRow B 76 1 (.slice (some ⟨gt, 0, none⟩) n n) n (rowV (fun i => .int .i16 (tl i)) (n * 1))
  que : w.ownsRow (gt + 1) 76 1 (.slice (some ⟨gu, 0, none⟩) q cu) q (rowV (fun i => .int .i16 (F i)) (q * 1))
  bel : Below B w0 w
  gtB : B ≤ gt
section
variable {B sb g : Nat} {wv : Value} {n cn m : Nat} {nx : Nat → Nat → Int} {ln wd wl sh : Nat → Int} {gt : Nat} {tl : Nat → Int} {gu cu q : Nat} {F : Nat → Int} {w0 w w' : World}
theorem Jm.drew (h : Jm B sb g wv n cn m nx ln wd wl sh gt tl gu cu q F w0 w) (k : Nat) : Jm B sb g wv n cn m nx ln wd wl sh gt tl gu cu q F w0 (w.drewN k) := ⟨h.set.drew k, h.tls, h.que, h.bel.drewN' k, h.gtB⟩
theorem Jm.congr (h : Jm B sb g wv n cn m nx ln wd wl sh gt tl gu cu q F w0 w) {nx' : Nat → Nat → Int} {wd' sh' tl' F' : Nat → Int} (h1 : ∀ i c, i < n → c < 256 → nx i c = nx' i c) (h3 : ∀ i, i < n → wd i = wd' i) (h5 : ∀ j, j < m → sh j = sh' j) (h6 : ∀ i, i < n → tl i = tl' i) (h7 : ∀ i, i < q → F i = F' i) : Jm B sb g wv n cn m nx' ln wd' wl sh' gt tl' gu cu q F' w0 w := by
  refine ⟨h.set.congr h1 (fun _ _ => rfl) h3 (fun _ _ => rfl) h5, ?_, ?_, h.bel, h.gtB⟩
  · have e : rowV (fun i => Value.int .i16 (tl i)) (n * 1) = rowV (fun i => Value.int .i16 (tl' i)) (n * 1) := rowV_congr fun j hj => by rw [h6 j (by omega)]
    exact e ▸ h.tls
  · have e : rowV (fun i => Value.int .i16 (F i)) (q * 1) = rowV (fun i => Value.int .i16 (F' i)) (q * 1) := rowV_congr fun j hj => by rw [h7 j (by omega)]
    exact e ▸ h.que
theorem Jm.ne_tls (h : Jm B sb g wv n cn m nx ln wd wl sh gt tl gu cu q F w0 w) {b : Nat} {cs : Array Value} {t : TypeId} {fz : Nat × Nat} (hb : w.heap[b]? = some (.cells cs t fz)) (ht : t ≠ 76) (o : Nat) (u : Value) : (w.setCell ⟨b, o, none⟩ u).ownsRow B 76 1 (.slice (some ⟨gt, 0, none⟩) n n) n (rowV (fun i => .int .i16 (tl i)) (n * 1)) ∧ (w.setCell ⟨b, o, none⟩ u).ownsRow (gt + 1) 76 1 (.slice (some ⟨gu, 0, none⟩) q cu) q (rowV (fun i => .int .i16 (F i)) (q * 1)) :=
  ⟨mr_set h.tls (mr_other h.tls hb ht) o u, mr_set h.que (mr_other h.que hb ht) o u⟩
theorem Jm.put_nx (h : Jm B sb g wv n cn m nx ln wd wl sh gt tl gu cu q F w0 w) (i c : Nat) (hi : i < n) (hc : c < 256) (v : Int) : Jm B sb g wv n cn m (fun x y => if x = i ∧ y = c then v else nx x y) ln wd wl sh gt tl gu cu q F w0 (w.setCell ⟨g, i * 258 + c, none⟩ (.int .i16 v)) := by
  obtain ⟨cur, hcur⟩ := mr_block h.set.nod (k := g) rfl
  obtain ⟨a, b⟩ := h.ne_tls hcur (by decide) (i * 258 + c) (.int .i16 v)
  exact ⟨h.set.put_nx i c hi hc v, a, b, mb_set h.bel h.set.gB.1 _ _, h.gtB⟩
theorem Jm.put_wd (h : Jm B sb g wv n cn m nx ln wd wl sh gt tl gu cu q F w0 w) (i : Nat) (hi : i < n) (v : Int) : Jm B sb g wv n cn m nx ln (fun x => if x = i then v else wd x) wl sh gt tl gu cu q F w0 (w.setCell ⟨g, i * 258 + 257, none⟩ (.int .i16 v)) := by
  obtain ⟨cur, hcur⟩ := mr_block h.set.nod (k := g) rfl
  obtain ⟨a, b⟩ := h.ne_tls hcur (by decide) (i * 258 + 257) (.int .i16 v)
  exact ⟨h.set.put_wd i hi v, a, b, mb_set h.bel h.set.gB.1 _ _, h.gtB⟩
theorem Jm.put_sh {g2 cw : Nat} (h : Jm B sb g (.slice (some ⟨g2, 0, none⟩) m cw) n cn m nx ln wd wl sh gt tl gu cu q F w0 w) (j : Nat) (hj : j < m) (v : Int) : Jm B sb g (.slice (some ⟨g2, 0, none⟩) m cw) n cn m nx ln wd wl (fun x => if x = j then v else sh x) gt tl gu cu q F w0 (w.setCell ⟨g2, j * 2 + 1, none⟩ (.int .i16 v)) := by
  obtain ⟨cur, hcur⟩ := mr_block h.set.wrd (k := g2) rfl
  obtain ⟨a, b⟩ := h.ne_tls hcur (by decide) (j * 2 + 1) (.int .i16 v)
  exact ⟨h.set.put_sh j hj v, a, b, mb_set h.bel (h.set.wrd.lt g2 rfl).1 _ _, h.gtB⟩
theorem SetM.far (h : SetM B sb g wv n cn m nx ln wd wl sh w) {b : Nat} {cs : Array Value} {fz : Nat × Nat} (hb : w.heap[b]? = some (.cells cs 76 fz)) (o : Nat) (u : Value) : SetM B sb g wv n cn m nx ln wd wl sh (w.setCell ⟨b, o, none⟩ u) := by
  have hne : sb ≠ b := fun e => by
    subst e
    rw [h.st] at hb
    simp at hb
  exact ⟨(set_heap w b sb o u hne).trans h.st, mr_set h.nod (mr_other h.nod hb (by decide)) o u, mr_set h.wrd (mr_other h.wrd hb (by decide)) o u, h.sB⟩
theorem Jm.put_tl (h : Jm B sb g wv n cn m nx ln wd wl sh gt tl gu cu q F w0 w) (i : Nat) (hi : i < n) (v : Int) : Jm B sb g wv n cn m nx ln wd wl sh gt (fun x => if x = i then v else tl x) gu cu q F w0 (w.setCell ⟨gt, i, none⟩ (.int .i16 v)) := by
  obtain ⟨cur, hcur⟩ := mr_block h.tls (k := gt) rfl
  have hp := ow_put h.tls i (by omega) (.int .i16 v)
  have e : rowV (fun j => if j = i then Value.int .i16 v else .int .i16 (tl j)) (n * 1) = rowV (fun j => Value.int .i16 (if j = i then v else tl j)) (n * 1) := rowV_congr fun j _ => by
    split <;> rfl
  refine ⟨h.set.far hcur i _, ?_, mr_set h.que ?_ i _, mb_set h.bel h.gtB _ _, h.gtB⟩
  · rw [← e]
    exact hp
  · intro k
    have := (h.que.lt gt k).1
    omega
theorem Jm.c_tl (h : Jm B sb g wv n cn m nx ln wd wl sh gt tl gu cu q F w0 w) (i : Nat) (hi : i < n) : w.cell? ⟨gt, i, none⟩ = some (.int .i16 (tl i)) ∧ w.frozen? ⟨gt, i, none⟩ = false := ow_cell h.tls i (by omega)
theorem Jm.c_qu (h : Jm B sb g wv n cn m nx ln wd wl sh gt tl gu cu q F w0 w) (i : Nat) (hi : i < q) : w.cell? ⟨gu, i, none⟩ = some (.int .i16 (F i)) := (ow_cell h.que i (by omega)).1
theorem Jm.push (h : Jm B sb g wv n cn m nx ln wd wl sh gt tl gu cu q F w0 w) {o : Obj} {gu' cu' : Nat} {v : Int} {F' : Nat → Int} (hs : B ≤ w.heap.size) (ho : w'.ownsRow (gt + 1) 76 1 (.slice (some ⟨gu', 0, none⟩) (q + 1) cu') (q + 1) (rowV (fun i => .int .i16 (F i)) (q * 1) ++ [.int .i16 v])) (hg : (w.alloc o).grownBy w' (Value.slice (some ⟨gu, 0, none⟩) q cu).ownBlock) (h1 : ∀ i, i < q → F i = F' i) (h2 : F' q = v) :
    Jm B sb g wv n cn m nx ln wd wl sh gt tl gu' cu' (q + 1) F' w0 w' := by
  have hq := (h.que.lt gu rfl).1
  have hgt := (h.tls.lt gt rfl).2
  refine ⟨⟨mr_cells_apart h.set.st h.que (by decide) hg, mr_apart h.set.nod h.que (by decide) hg, mr_apart h.set.wrd h.que (by decide) hg, h.set.sB⟩, ?_, ?_, (h.bel.alloc hs _).grown hg (by simp; omega) (fun k hk => by have := (h.que.lt k hk).1; have := h.gtB; omega), h.gtB⟩
  · refine mr_kept h.tls fun k hk => ?_
    simp only [Value.ownBlock, Option.some.injEq] at hk
    subst hk
    rw [hg.block gt (by simp; omega) (by simp [Value.ownBlock]; omega), Below.heap_alloc _ _ _ hgt]
  · have e : rowV (fun i => Value.int .i16 (F i)) (q * 1) ++ [.int .i16 v] = rowV (fun i => Value.int .i16 (F' i)) ((q + 1) * 1) := by
      rw [show (q + 1) * 1 = q * 1 + 1 by omega, rowV_add]
      congr 1
      · exact rowV_congr fun j hj => by rw [h1 j (by omega)]
      · simp only [rowV, List.range, List.range.loop, List.map_cons, List.map_nil]
        rw [show q * 1 + 0 = q by omega, h2]
    exact e ▸ ho
end
theorem infoH : (Try.prog.info? 76).map (fun i => (i.zero, i.size, i.bytes)) = some (some (.int .i16 0), 1, 2) := by kernel_rfl
theorem made_zero (n : Nat) : madeCells (Value.int .i16 0).cells (n * 1) = (rowV (fun _ => .int .i16 0) (n * 1)).toArray := by
  apply Array.ext'
  apply List.ext_getElem
  · simp [rowV, madeCells]
  · intro i h1 h2
    simp [rowV, madeCells, Value.cells, Nat.mod_one]
theorem make_tls (n : Nat) (hn : n ≤ 4294967296) (w : World) : (Instr.makeSlice 104 (.int .i64 (n : Int)) (.int .i64 (n : Int))).run Try.prog w = .ok (.slice (some ⟨w.heap.size, 0, none⟩) n n) (w.alloc (.cells (rowV (fun _ => .int .i16 0) (n * 1)).toArray 76)) := by
  obtain ⟨i0, hi, hz0, hz1, hz2⟩ := info_parts infoH
  have := run_make (P := Try.prog) w 104 76 i0 (.int .i16 0) Try.underlying104 hi hz0 .i64 .i64 (n : Int) (n : Int) (by omega) (by omega) (by rw [hz2]; omega) (by omega)
  rw [this, hz1, Int.toNat_natCast, made_zero n]
theorem h1_news (w : World) (c : Int) (t : TypeId) : ∀ (j : Nat) (u : Value), [Value.int .i16 c][j]? = some u → (w.alloc (.cells #[.int .i16 c] t)).cell? ((⟨w.heap.size, 0, none⟩ : Addr).add j) = some u := by
  intro j u hu
  have hj : j < 1 := (List.getElem?_eq_some_iff.1 hu).1
  obtain rfl : j = 0 := by omega
  rw [Addr.add_lit]
  simp at hu
  subst hu
  have := heap_alloc_new w (.cells #[.int .i16 c] t)
  simp only [World.cell?]
  rw [this]
  rfl
theorem h1_one (c : Int) : ∀ u ∈ [Value.int .i16 c], u.oneCell' = true := by
  intro u hu
  simp at hu
  rw [hu]
  rfl
end Go.Proofs.Ytlbfnchjbpioeaa
