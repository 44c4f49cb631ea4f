/-
  Rows of bytes, of ints and of sequences. Conditions: as each says.
-/
import Derived.Test.YtchjmhgalbkjkabPrtB
import Derived.Test.YtchjmhgalbkjkabExp
import Derived.Test.YtchjmhgalbkjkabMk
import Derived.Deep.AppendLies
namespace Go.Proofs.Ytchjmhgalbkjkab
open Go.RowKit Go.Shelf
set_option linter.unusedVariables false
theorem ownM_shape {w : World} {base n : Nat} {v : Value} {xs : List Value} (h : OwnM w base v n xs) : ∃ b cap, v = .slice b n cap := by
  rcases h.2 with ⟨rfl, rfl⟩ | ⟨g, cap, cur, fz, rfl, _⟩
  · exact ⟨none, 0, rfl⟩
  · exact ⟨some ⟨g, 0, none⟩, cap, rfl⟩
theorem ownM_some {w : World} {base n : Nat} {v : Value} {xs : List Value} (h : OwnM w base v n xs) (h0 : 0 < n) : ∃ g cap, v = .slice (some ⟨g, 0, none⟩) n cap ∧ n ≤ cap := by
  rcases h.2 with ⟨_, h1⟩ | ⟨g, cap, cur, fz, rfl, _, _, _, h2, _⟩
  · omega
  · exact ⟨g, cap, rfl, h2⟩
theorem conv_none (c : Nat) (w : World) : (convert 49 9 (.slice none 0 c)).run Try.prog w = .ok (.string ⟨#[]⟩) w :=
  run_convert_bytes_nil w 49 5 Try.underlying49 Try.underlying5 0 c 9 Try.underlying9
theorem conv_zero (g o c : Nat) (w : World) : (convert 49 9 (.slice (some ⟨g, o, none⟩) 0 c)).run Try.prog w = .ok (.string ⟨#[]⟩) w :=
  run_convert_bytes_arg w 49 5 Try.underlying49 Try.underlying5 g o 0 c [] rfl (fun i hi => absurd hi (by omega)) 9 Try.underlying9
/-- the end of a row, as a text -/
theorem conv_end (B m k g cap c2 : Nat) (l : List Nat) (wr : World) (hl : l.length = k + m) (hown : OwnM wr B (.slice (some ⟨g, 0, none⟩) (k + m) cap) (k + m) (byv l)) :
    (convert 49 9 (.slice (some ⟨g, k, none⟩) m c2)).run Try.prog wr = .ok (.string (nums (l.drop k))) wr := by
  refine run_convert_bytes_arg wr 49 5 Try.underlying49 Try.underlying5 g k m c2 _ (by simp [hl]) (fun i hi => ?_) 9 Try.underlying9
  rw [hown.cellAt g rfl (k + i) (by omega)]
  unfold byv
  rw [List.getElem?_map, List.getD_eq_getElem?_getD, List.getElem?_map, List.getElem?_drop, List.getElem?_eq_getElem (show k + i < l.length by omega)]
  rfl
/-- what stands behind k cells of a row, as a slice and as a text -/
theorem rest_text (B n k : Nat) (v : Value) (l : List Nat) (w : World) (hk : k ≤ n) (hl : l.length = n) (hown : OwnM w B v n (byv l)) :
    ∃ v', (Instr.slice 49 v (some (.int .i64 (k : Int))) none none).run Try.prog w = .ok v' w ∧ (convert 49 9 v').run Try.prog w = .ok (.string (nums (l.drop k))) w := by
  obtain ⟨i0, hi, hz0, hz1, hz2⟩ := info_parts infoB
  obtain ⟨m, rfl⟩ : ∃ m, n = k + m := ⟨n - k, by omega⟩
  have hrun : ∀ (b : Option Addr) (cap : Nat), (Instr.slice 49 (.slice b (k + m) cap) (some (.int .i64 (k : Int))) none none).run Try.prog w = .ok (.slice (if cap = k then b else b.map (·.add k)) m (cap - k)) w := by
    intro b cap
    simp [Instr.slice, Instr.sliceBounds, Instr.sliceBound, asIntOf, run_underlying Try.underlying49, sizeOf, typeInfo, hi, hz1]
  rcases hown.2 with ⟨rfl, h0⟩ | ⟨g, cap, cur, fz, rfl, hb, hg, hfz, hnc, _⟩
  · obtain ⟨rfl, rfl⟩ : k = 0 ∧ m = 0 := by omega
    obtain rfl : l = [] := List.length_eq_zero_iff.1 (by omega)
    refine ⟨_, hrun none 0, ?_⟩
    exact conv_none 0 w
  · refine ⟨_, hrun (some ⟨g, 0, none⟩) cap, ?_⟩
    by_cases hc : cap = k
    · obtain rfl : m = 0 := by omega
      rw [if_pos hc]
      have : l.drop k = [] := List.drop_eq_nil_of_le (by omega)
      rw [this]
      exact conv_zero g 0 _ w
    · rw [if_neg hc]
      show (convert 49 9 (.slice (some ((⟨g, 0, none⟩ : Addr).add k)) m (cap - k))).run Try.prog w = _
      rw [Addr.add_lit, Nat.zero_add]
      exact conv_end B m k g cap _ l w hl hown
theorem one_news (w : World) (c : Int) (t : TypeId) : ∀ (j : Nat) (u : Value), [Value.int .u8 c][j]? = some u → (w.alloc (.cells #[.int .u8 c] t)).cell? ((⟨w.heap.size, 0, none⟩ : Addr).add j) = some u := by
  intro j u hu
  have hj : j < 1 := (List.getElem?_eq_some_iff.1 hu).1
  obtain rfl : j = 0 := by omega
  rw [Addr.add_lit]
  simp at hu
  subst hu
  have := heap_alloc_new w (.cells #[.int .u8 c] t)
  simp only [World.cell?]
  rw [this]
  rfl
theorem one_cell (c : Int) : ∀ u ∈ [Value.int .u8 c], u.oneCell' = true := by
  intro u hu
  obtain rfl : u = _ := by simpa using hu
  rfl
theorem below_up {base : Nat} {a b c : World} (h : Below base a b) (hb : base ≤ b.heap.size) (k : Below b.heap.size b c) : Below base a c :=
  h.trans ⟨k.os, k.tape, k.output, k.size, fun i hi => k.block i (by omega)⟩
/-- a block of another kind stays while the row grows -/
theorem part_blk {w w' : World} {base n : Nat} {v : Value} {xs : List Value} (hg : w.grownBy w' v.ownBlock) (h : OwnM w base v n xs) (b : Nat) (cs : Array Value) (t : TypeId) {o : Obj} (ho : o = .cells cs t (0, 0)) (ht : t ≠ 5) (hb : w.heap[b]? = some o) : w'.heap[b]? = some (.cells cs t (0, 0)) := by
  subst ho
  rw [hg.block b (Array.getElem?_eq_some_iff.1 hb).1 ?_]
  · exact hb
  · intro e
    rcases h.2 with ⟨rfl, _⟩ | ⟨g, cap, cur, fz, rfl, _, h2, _⟩
    · simp [Value.ownBlock] at e
    · simp only [Value.ownBlock, Option.some.injEq] at e
      subst e
      rw [h2] at hb
      simp only [Option.some.injEq, Obj.cells.injEq] at hb
      exact ht hb.2.1.symm
def plv (l : List Pt) : List Value := l.map fun x => .int .i64 (x.1 : Int)
def pqv : List Pt → List Value
  | [] => []
  | x :: l => .string x.2.1 :: .int .i64 (x.2.2.1 : Int) :: .int .i64 (x.2.2.2 : Int) :: pqv l
theorem plv_append (a b : List Pt) : plv (a ++ b) = plv a ++ plv b := by unfold plv; exact List.map_append
theorem pqv_append : ∀ a b, pqv (a ++ b) = pqv a ++ pqv b
  | [], b => rfl
  | c :: a, b => by simp [pqv, pqv_append a b]
theorem pqv_at : ∀ (l : List Pt) (j : Nat) (x : Pt), l[j]? = some x → (pqv l)[3 * j]? = some (.string x.2.1) ∧ (pqv l)[3 * j + 1]? = some (.int .i64 (x.2.2.1 : Int)) ∧ (pqv l)[3 * j + 2]? = some (.int .i64 (x.2.2.2 : Int))
  | [], j, x, h => by simp at h
  | y :: l, 0, x, h => by
    simp at h
    subst h
    simp [pqv]
  | y :: l, j + 1, x, h => by
    simp at h
    have := pqv_at l j x h
    simp only [pqv, show 3 * (j + 1) = 3 * j + 1 + 1 + 1 by omega, show 3 * j + 1 + 1 + 1 + 1 = (3 * j + 1) + 1 + 1 + 1 by omega, show 3 * j + 1 + 1 + 1 + 2 = (3 * j + 2) + 1 + 1 + 1 by omega, List.getElem?_cons_succ]
    exact this
theorem plv_at (l : List Pt) (j : Nat) (x : Pt) (h : l[j]? = some x) : (plv l)[j]? = some (.int .i64 (x.1 : Int)) := by
  unfold plv
  rw [List.getElem?_map, h]
  rfl
theorem infoI : (Try.prog.info? 3).map (fun i => (i.zero, i.size, i.bytes)) = some (some (.int .i64 0), 1, 8) := by kernel_rfl
theorem infoQ : (Try.prog.info? 32).map (fun i => (i.zero, i.size, i.bytes)) = some (some (.agg #[.string ⟨#[]⟩, .int .i64 0, .int .i64 0]), 3, 32) := by kernel_rfl
theorem three_news (w : World) (x y z : Value) (t : TypeId) {B : Nat} (hB : B = w.heap.size) : ∀ (j : Nat) (u : Value), [x, y, z][j]? = some u → (w.alloc (.cells #[x, y, z] t)).cell? ((⟨B, 0, none⟩ : Addr).add j) = some u := by
  intro j u hu
  subst hB
  have hj : j < 3 := (List.getElem?_eq_some_iff.1 hu).1
  have := heap_alloc_new w (.cells #[x, y, z] t)
  rcases (show j = 0 ∨ j = 1 ∨ j = 2 by omega) with rfl | rfl | rfl <;> rw [Addr.add_lit] <;> simp only [World.cell?] <;> rw [this] <;> exact hu
theorem three_one (a b : Int) (t : ByteArray) : ∀ u ∈ [Value.string t, .int .i64 a, .int .i64 b], u.oneCell' = true := by
  intro u hu
  simp at hu
  rcases hu with rfl | rfl | rfl <;> rfl
theorem int_news (w : World) (x : Value) (t : TypeId) {B : Nat} (hB : B = w.heap.size) : ∀ (j : Nat) (u : Value), [x][j]? = some u → (w.alloc (.cells #[x] t)).cell? ((⟨B, 0, none⟩ : Addr).add j) = some u := by
  intro j u hu
  subst hB
  have hj : j < 1 := (List.getElem?_eq_some_iff.1 hu).1
  have := heap_alloc_new w (.cells #[x] t)
  obtain rfl : j = 0 := by omega
  rw [Addr.add_lit]
  simp only [World.cell?]
  rw [this]
  exact hu
theorem int_one (a : Int) : ∀ u ∈ [Value.int .i64 a], u.oneCell' = true := by
  intro u hu
  simp at hu
  subst hu
  rfl
theorem row_shape' {w : World} {base n size : Nat} {e : TypeId} {v : Value} {xs : List Value} (h : w.ownsRow base e size v n xs) : ∃ b cap, v = .slice b n cap := by
  rcases h.2 with ⟨rfl, rfl⟩ | ⟨g, cap, cur, rfl, _⟩
  · exact ⟨none, 0, rfl⟩
  · exact ⟨some ⟨g, 0, none⟩, cap, rfl⟩
theorem row_type {w : World} {base n size : Nat} {e : TypeId} {v : Value} {xs : List Value} (h : w.ownsRow base e size v n xs) : ∀ k, v.ownBlock = some k → ∃ cs fz, w.heap[k]? = some (.cells cs e fz) := by
  intro k hk
  rcases h.2 with ⟨rfl, _⟩ | ⟨g, cap, cur, rfl, h1, h2, _⟩
  · simp [Value.ownBlock] at hk
  · simp only [Value.ownBlock, Option.some.injEq] at hk
    subst hk
    exact ⟨_, _, h2⟩
/-- rows of other things don't meet -/
theorem row_apart {w : World} {base n size n' size' : Nat} {e e' : TypeId} {v v' : Value} {xs xs' : List Value} (h : w.ownsRow base e size v n xs) (h' : w.ownsRow base e' size' v' n' xs') (hne : e ≠ e') : v.ownBlock = none ∨ v.ownBlock ≠ v'.ownBlock := by
  cases hv : v.ownBlock with
  | none => exact .inl rfl
  | some k =>
    right
    intro e1
    obtain ⟨c1, z1, h1⟩ := row_type h k hv
    obtain ⟨c2, z2, h2⟩ := row_type h' k e1.symm
    rw [h1] at h2
    cases h2
    exact hne rfl
/-- a block of another kind stays while a row grows -/
theorem part_stay {w w' : World} {base n size : Nat} {e : TypeId} {v : Value} {xs : List Value} (h : w.ownsRow base e size v n xs) (hg : w.grownBy w' v.ownBlock) {b : Nat} {cs : Array Value} {t : TypeId} {fz : Nat × Nat} (ht : t ≠ e) (hb : w.heap[b]? = some (.cells cs t fz)) : w'.heap[b]? = some (.cells cs t fz) := by
  rw [hg.block b (Array.getElem?_eq_some_iff.1 hb).1 ?_]
  · exact hb
  · intro e1
    obtain ⟨c1, z1, h1⟩ := row_type h b e1.symm
    rw [h1] at hb
    cases hb
    exact ht rfl
theorem grown_below {w w' : World} (h : Below w.heap.size w w') : w.grownBy w' none := ⟨h.os, h.tape, h.output, h.size, fun k hk _ => h.block k hk⟩
theorem grown_new {w w' : World} {row : Option Nat} (h : w.grownBy w' row) (o : Obj) : w.grownBy (w'.alloc o) row :=
  ⟨h.os, h.tape, h.output, Nat.le_trans h.size (by simp), fun k hk hr => by
    rw [Below.heap_alloc _ _ _ (Nat.lt_of_lt_of_le hk h.size)]
    exact h.block k hk hr⟩
theorem none_apart (b : Option Addr) {n cap : Nat} : (Value.slice b n cap).ownBlock = none ∨ (Value.slice b n cap).ownBlock ≠ none := by
  cases h : (Value.slice b n cap).ownBlock with
  | none => exact .inl rfl
  | some k => exact .inr (by simp)
end Go.Proofs.Ytchjmhgalbkjkab
