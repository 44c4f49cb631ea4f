/-
  What dragnetlaw7.ManyTurned knows while it lays the words in another order. Conditions: as each says.
-/
import Derived.Test.YtlejfeapnnioeaaTu1
namespace Go.Proofs.Ytlejfeapnnioeaa
open Go.RowKit Go.Shelf
set_option linter.unusedVariables false
structure TuW (b pb : Nat) (w w3 : World) (L : List ByteArray) (m : Nat) (is : List Nat) (q : Option Addr) (n1 c : Nat) (V : World) : Prop where
  kp : ∀ i, i < pb → V.heap[i]? = w3.heap[i]?
  pl : V.heap[pb]? = some (.cells (rowV (fun i => .int .i64 (Mn.plF is i : Int)) m).toArray 3 (0, 0))
  row : V.ownsRow (pb + 1) 9 1 (.slice q n1 c) n1 (strL (Mn.ord L is))
  bel : Below b w V
  lo : b ≤ pb
  len : is.length = n1
section
variable {b pb m n1 c : Nat} {w w3 V V' : World} {L : List ByteArray} {is : List Nat} {q : Option Addr}
theorem TuW.siz (h : TuW b pb w w3 L m is q n1 c V) : pb + 1 ≤ V.heap.size := (Array.getElem?_eq_some_iff.1 h.pl).1
theorem TuW.drewN (h : TuW b pb w w3 L m is q n1 c V) (e : ∃ j, V' = V.drewN j) : TuW b pb w w3 L m is q n1 c V' := by
  obtain ⟨j, rfl⟩ := e
  exact ⟨h.kp, h.pl, h.row, h.bel.drewN' j, h.lo, h.len⟩
theorem TuW.at (h : TuW b pb w w3 L m is q n1 c V) {j : Nat} (hj : j < n1) : ∃ g, q = some ⟨g, 0, none⟩ ∧ V.cell? ⟨g, j, none⟩ = some (.string (L.getD (is.getD j 0) ByteArray.empty)) := by
  have hl := h.len
  obtain ⟨g, off, h1, h2⟩ := str_at h.row (by rw [Mn.ord_len]; exact hl.symm) j (by rw [Mn.ord_len]; omega)
  have h3 : off = 0 := by
    rcases h.row.2 with ⟨h4, _⟩ | ⟨g', cap', cur, h4, _⟩
    · rw [h1] at h4
      cases h4
    · rw [h1] at h4
      simp only [Value.slice.injEq, Option.some.injEq, Addr.mk.injEq] at h4
      exact h4.1.2.1
  subst h3
  rw [Mn.ord_get L is j (by omega), Nat.zero_add] at h2
  exact ⟨g, h1, h2⟩
theorem TuW.word (h : TuW b pb w w3 L m is q n1 c V) {gw : Nat} (hs : StrAt w3 (some ⟨gw, 0, none⟩) L) (hg : gw < pb) {k : Nat} (hk : k < L.length) : V.cell? ⟨gw, k, none⟩ = some (.string (L.getD k ByteArray.empty)) := by
  obtain ⟨g, off, h1, h2⟩ := hs k hk
  cases h1
  rw [Nat.zero_add] at h2
  exact (World.cell?_of_block (a := ⟨gw, k, none⟩) (h.kp gw hg)).trans h2
theorem TuW.cell (h : TuW b pb w w3 L m is q n1 c V) {k : Nat} (hk : k < m) : V.cell? ⟨pb, k, none⟩ = some (.int .i64 (Mn.plF is k : Int)) ∧ V.frozen? ⟨pb, k, none⟩ = false := by
  refine ⟨?_, by simp [World.frozen?, h.pl]⟩
  simp only [World.cell?, h.pl]
  rw [List.getElem?_toArray, rowV_get _ _ _ hk]
  rfl
/-- its place is told -/
theorem TuW.put (h : TuW b pb w w3 L m is q n1 c V) (k : Nat) : (V.setCell ⟨pb, k, none⟩ (.int .i64 (n1 : Int))).ownsRow (pb + 1) 9 1 (.slice q n1 c) n1 (strL (Mn.ord L is)) ∧ pb + 1 ≤ (V.setCell ⟨pb, k, none⟩ (.int .i64 (n1 : Int))).heap.size :=
  ⟨mr_set h.row (fun e => by have := (h.row.lt pb e).1; omega) _ _, by simpa [World.setCell] using h.siz⟩
/-- a word more -/
theorem TuW.next (h : TuW b pb w w3 L m is q n1 c V) {k : Nat} (hk : k < m) (hn : k ∉ is) {x : ByteArray} (hx : L.getD k ByteArray.empty = x) {q' : Option Addr} {c' : Nat} {o : Obj} (ho : V'.ownsRow (pb + 1) 9 1 (.slice q' (n1 + 1) c') (n1 + 1) (strL (Mn.ord L is) ++ [.string x])) (hg : ((V.setCell ⟨pb, k, none⟩ (.int .i64 (n1 : Int))).alloc o).grownBy V' (Value.slice q n1 c).ownBlock) : TuW b pb w w3 L m (is ++ [k]) q' (n1 + 1) c' V' := by
  have hs := h.siz
  have hlo := h.lo
  have hr : ∀ r, (Value.slice q n1 c).ownBlock = some r → pb + 1 ≤ r := fun r e => (h.row.lt r e).1
  have kk : ∀ i, i < pb + 1 → V'.heap[i]? = (V.setCell ⟨pb, k, none⟩ (.int .i64 (n1 : Int))).heap[i]? := fun i hi => by
    rw [hg.block i (by simp [World.setCell]; omega) (fun e => by have := hr i e.symm; omega)]
    exact Below.heap_alloc _ _ _ (by simp [World.setCell]; omega)
  refine ⟨fun i hi => ((kk i (by omega)).trans (set_heap V pb i k _ (by omega))).trans (h.kp i hi), ?_, ?_, ?_, hlo, by rw [List.length_append, h.len]; rfl⟩
  · refine (kk pb (by omega)).trans ((put_rowV h.pl hk _).trans ?_)
    rw [rowV_congr (G := fun i => .int .i64 (Mn.plF (is ++ [k]) i : Int)) fun i _ => by
      rw [Mn.plF_snoc hn, h.len]
      by_cases e : i = k
      · rw [if_pos e, if_pos e]
      · rw [if_neg e, if_neg e]]
  · rw [Mn.ord_snoc, hx, show strL (Mn.ord L is ++ [x]) = strL (Mn.ord L is) ++ [.string x] by simp [strL]]
    exact ho
  · have h1 : Below b w (V.setCell ⟨pb, k, none⟩ (.int .i64 (n1 : Int))) := mb_set h.bel hlo _ _
    refine (h1.alloc (by simp [World.setCell]; omega) o).grown hg (by simp [World.setCell]; omega) (fun r e => by have := hr r e; omega)
end
def slen (v : Value) : Nat := match v with | .slice _ n _ => n | _ => 0
theorem made_ints (n : Nat) : madeCells (Value.int .i64 0).cells (n * 1) = (rowV (fun _ => .int .i64 0) n).toArray := by
  apply Array.ext'
  apply List.ext_getElem
  · simp [rowV, madeCells]
  · intro i h1 h2
    simp [rowV, madeCells, Value.cells, Nat.mod_one]
theorem make_ints (n : Nat) (hn : n ≤ 1000000) (w : World) : (Instr.makeSlice 53 (.int .i64 (n : Int)) (.int .i64 (n : Int))).run Try.prog w = .ok (.slice (some ⟨w.heap.size, 0, none⟩) n n) (w.alloc (.cells (rowV (fun _ => .int .i64 0) n).toArray 3)) := by
  obtain ⟨i0, hi, hz0, hz1, hz2⟩ := info_parts infoI
  have := run_make (P := Try.prog) w 53 3 i0 (.int .i64 0) Try.underlying53 hi hz0 .i64 .i64 (n : Int) (n : Int) (by omega) (by omega) (by rw [hz2]; omega) (by omega)
  rw [this, hz1, Int.toNat_natCast, made_ints n]
theorem TuW.start (b : Nat) (w w2 : World) (L : List ByteArray) (m : Nat) (hB : Below b w w2) (hb : b ≤ w2.heap.size) : TuW b w2.heap.size w w2 L m [] none 0 0 (w2.alloc (.cells (rowV (fun _ => .int .i64 0) m).toArray 3)) :=
  ⟨fun i hi => Below.heap_alloc _ _ _ hi, heap_alloc_new w2 _, World.ownsRow_nil _ _ _ _, hB.alloc hb _, hb, rfl⟩
end Go.Proofs.Ytlejfeapnnioeaa
