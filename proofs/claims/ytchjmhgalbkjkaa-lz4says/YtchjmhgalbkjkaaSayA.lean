/-
  What stays through Lz4Says; stops of a walk. Conditions: as each says.
-/
import Derived.Test.YtchjmhgalbkjkaaMadF
import Derived.Test.YtchjmhgalbkjkaaJnA
import Derived.Test.YtchjmhgalbkjkaaPrtN
import Derived.Test.YtchjmhgalbkjkaaShn
namespace Go.Proofs.Ytchjmhgalbkjkaa
open Go.RowKit Go.Shelf
set_option linter.unusedVariables false
theorem stop_reg (id : Nat) {F : Fence} {n : Nat} {P : Program} {Q : Exit → Act → World → Prop} {a : Act} {w : World} {ops : Array Oper} {d : Bool} (h : Hid (Code.wpIn F n P (.region id ops d) Q a w)) : Code.wpIn F n P (.region id ops d) Q a w := h.out
/-- the result's box, the box of m and its two rows -/
structure Sy (b : Nat) (w0 : World) (c ga gl N lc ac : Nat) (P1 S1 : ByteArray) (pts : List Pt) (rv : Value) (W : World) : Prop where
  res : Boxed W b 4 rv
  box : W.heap[c]? = some (.cells #[.string P1, .string S1, .slice (some ⟨gl, 0, none⟩) N lc, .slice (some ⟨ga, 0, none⟩) N ac] 31 (0, 0))
  ra : ∃ cs, W.heap[ga]? = some (.cells cs 3 (0, 0)) ∧ cs.toList.take N = plv pts
  rl : ∃ cs, W.heap[gl]? = some (.cells cs 39 (0, 0)) ∧ cs.toList.take (N * 3) = pqv pts
  bel : Below b w0 W
  lt : b < c
section
variable {b c ga gl N lc ac : Nat} {w0 W W' : World} {P1 S1 : ByteArray} {pts : List Pt} {rv : Value}
theorem Sy.kept (h : Sy b w0 c ga gl N lc ac P1 S1 pts rv W) (hb : ∀ k, k = b ∨ k = c ∨ k = ga ∨ k = gl → k < W.heap.size → W'.heap[k]? = W.heap[k]?) (hbel : Below b w0 W') : Sy b w0 c ga gl N lc ac P1 S1 pts rv W' := by
  obtain ⟨cs, h1, h2⟩ := h.ra
  obtain ⟨ds, h3, h4⟩ := h.rl
  refine ⟨(hb b (.inl rfl) h.res.lt).trans h.res, (hb c (by simp) (Array.getElem?_eq_some_iff.1 h.box).1).trans h.box, ⟨cs, (hb ga (by simp) (Array.getElem?_eq_some_iff.1 h1).1).trans h1, h2⟩, ⟨ds, (hb gl (by simp) (Array.getElem?_eq_some_iff.1 h3).1).trans h3, h4⟩, hbel, h.lt⟩
theorem Sy.siz (h : Sy b w0 c ga gl N lc ac P1 S1 pts rv W) : b ≤ W.heap.size := Nat.le_of_lt h.res.lt
theorem Sy.below (h : Sy b w0 c ga gl N lc ac P1 S1 pts rv W) (hb : Below W.heap.size W W') : Sy b w0 c ga gl N lc ac P1 S1 pts rv W' :=
  h.kept (fun k _ hk => hb.block k hk) (h.bel.trans (hb.mono h.siz))
theorem Sy.new (h : Sy b w0 c ga gl N lc ac P1 S1 pts rv W) (o : Obj) : Sy b w0 c ga gl N lc ac P1 S1 pts rv (W.alloc o) :=
  h.kept (fun k _ hk => Below.heap_alloc _ _ _ hk) (h.bel.alloc h.siz _)
theorem Sy.drew (h : Sy b w0 c ga gl N lc ac P1 S1 pts rv W) : Sy b w0 c ga gl N lc ac P1 S1 pts rv { W with drawn := W.drawn + 1 } :=
  h.kept (fun k _ hk => rfl) ⟨h.bel.os, h.bel.tape, h.bel.output, h.bel.size, h.bel.block⟩
theorem Sy.cells (h : Sy b w0 c ga gl N lc ac P1 S1 pts rv W) : W.cell? ⟨c, 0, none⟩ = some (.string P1) ∧ W.cell? ⟨c, 1, none⟩ = some (.string S1) ∧ W.cell? ⟨c, 2, none⟩ = some (.slice (some ⟨gl, 0, none⟩) N lc) ∧ W.cell? ⟨c, 3, none⟩ = some (.slice (some ⟨ga, 0, none⟩) N ac) :=
  ⟨cell_of h.box 0 _ rfl, cell_of h.box 1 _ rfl, cell_of h.box 2 _ rfl, cell_of h.box 3 _ rfl⟩
theorem take_at {cs : Array Value} {n j : Nat} {xs : List Value} {v : Value} (h : cs.toList.take n = xs) (hv : xs[j]? = some v) : cs[j]? = some v := by
  rw [← h, List.getElem?_take] at hv
  split at hv
  · simpa using hv
  · cases hv
theorem Sy.at_ (h : Sy b w0 c ga gl N lc ac P1 S1 pts rv W) {j : Nat} {x : Pt} (hx : pts[j]? = some x) : W.cell? ⟨ga, j, none⟩ = some (.int .i64 (x.1 : Int)) := by
  obtain ⟨cs, h1, h2⟩ := h.ra
  exact cell_of h1 j _ (take_at h2 (plv_at pts j x hx))
theorem Sy.seq (h : Sy b w0 c ga gl N lc ac P1 S1 pts rv W) {j : Nat} {x : Pt} (hx : pts[j]? = some x) : W.cell? ⟨gl, j * 3, none⟩ = some (.string x.2.1) ∧ W.cell? ⟨gl, j * 3 + 1, none⟩ = some (.int .i64 (x.2.2.1 : Int)) ∧ W.cell? ⟨gl, j * 3 + 2, none⟩ = some (.int .i64 (x.2.2.2 : Int)) := by
  obtain ⟨cs, h1, h2⟩ := h.rl
  obtain ⟨q1, q2, q3⟩ := pqv_at pts j x hx
  rw [Nat.mul_comm] at q1 q2 q3
  exact ⟨cell_of h1 _ _ (take_at h2 q1), cell_of h1 _ _ (take_at h2 q2), cell_of h1 _ _ (take_at h2 q3)⟩
end
theorem own_block {w : World} {base n size : Nat} {e : TypeId} {v : Value} {xs : List Value} (h : w.ownsRow base e size v n xs) (hn : 0 < n) : ∃ g cap cs, v = .slice (some ⟨g, 0, none⟩) n cap ∧ base ≤ g ∧ w.heap[g]? = some (.cells cs e (0, 0)) ∧ cs.toList.take (n * size) = xs := by
  rcases h.2 with ⟨_, h0⟩ | ⟨g, cap, cur, rfl, h1, h2, _, _, _, h3⟩
  · omega
  · exact ⟨g, cap, cur, rfl, h1, h2, h3⟩
theorem made_sy {b : Nat} {w0 w2 w3 : World} {lv av : Value} {N : Nat} {P1 S1 : ByteArray} {pts : List Pt} (hN : 0 < N) (hres : Boxed w2 b 4 (.bool false)) (hb2 : Below b w0 w2) (hb3 : Below w2.heap.size w2 w3) (hl : w3.ownsRow w2.heap.size 39 3 lv N (pqv pts)) (ha : w3.ownsRow w2.heap.size 3 1 av N (plv pts)) :
    ∃ ga gl lc ac, lv = .slice (some ⟨gl, 0, none⟩) N lc ∧ av = .slice (some ⟨ga, 0, none⟩) N ac ∧ Sy b w0 w3.heap.size ga gl N lc ac P1 S1 pts (.bool false) (w3.alloc (.cells #[.string P1, .string S1, .slice (some ⟨gl, 0, none⟩) N lc, .slice (some ⟨ga, 0, none⟩) N ac] 31)) := by
  obtain ⟨gl, lc, cl, rfl, _, hl2, hl3⟩ := own_block hl hN
  obtain ⟨ga, ac, ca, rfl, _, ha2, ha3⟩ := own_block ha hN
  rw [Nat.mul_one] at ha3
  have hbs := hres.lt
  have hs := hb3.size
  have hbel : Below b w0 w3 := hb2.trans (hb3.mono (by omega))
  refine ⟨ga, gl, lc, ac, rfl, rfl, ⟨?_, heap_alloc_new w3 _, ⟨ca, ?_, ha3⟩, ⟨cl, ?_, hl3⟩, hbel.alloc (by omega) _, by omega⟩⟩
  · exact (Below.heap_alloc _ _ _ (by omega)).trans ((hb3.block b (by omega)).trans hres)
  · exact (Below.heap_alloc _ _ _ (Array.getElem?_eq_some_iff.1 ha2).1).trans ha2
  · exact (Below.heap_alloc _ _ _ (Array.getElem?_eq_some_iff.1 hl2).1).trans hl2
end Go.Proofs.Ytchjmhgalbkjkaa
