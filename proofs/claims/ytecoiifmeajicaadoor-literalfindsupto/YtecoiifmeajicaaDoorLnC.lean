/-
  Lines that came: what holds of them; a variable's box to which a text or a byte is appended. Conditions: as each says.
-/
import Derived.Test.YtecoiifmeajicaaDoorLnB
import Derived.Test.YtecoiifmeajicaaDoorCount
import Derived.Lib.AppendStr
import Derived.Maps.AppendAt
namespace Go.Proofs.YtecoiifmeajicaaDoor
open Go.RowKit Go.Shelf
set_option linter.unusedVariables false
def pv (pre : List Ln) : List (Nat × ByteArray) := pre.map (·.1)
theorem pv_snoc (pre : List Ln) (x : Ln) : pv (pre ++ [x]) = pv pre ++ [x.1] := by simp [pv]
theorem lines_in (s : ByteArray) : ∀ (f a : Nat) (x : Nat × ByteArray), x ∈ Swar.linesF s f a → x.1 + x.2.size ≤ s.size
  | 0, _, _, h => by simp [Swar.linesF] at h
  | f + 1, a, x, h => by
    rw [Swar.linesF] at h
    by_cases ha : a < s.size
    · rw [if_pos ha, List.mem_cons] at h
      rcases h with rfl | h
      · obtain ⟨h1, h2, _⟩ := Swar.end_char s a (by omega)
        show a + (s.extract a _).size ≤ s.size
        rw [Swar.ext_len s a _ h1 h2]
        omega
      · exact lines_in s f _ x h
    · rw [if_neg ha] at h
      cases h
theorem pv_lines (s : ByteArray) (hs : s.size ≤ 140737488351232) : pv (lnL s) = Swar.linesF s (s.size + 1) 0 := by
  unfold pv lnL
  rw [List.map_map]
  conv => rhs; rw [← List.map_id (Swar.linesF s (s.size + 1) 0)]
  apply List.map_congr_left
  intro x hx
  have := lines_in s _ _ x hx
  exact toLn_val x (by omega)
def good (s : ByteArray) (pre : List Ln) : Prop := ∀ q x, q ++ [x] <+: pre → x.1.1 = (Swar.joined (pv q)).length ∧ Swar.idxL x.1.2 10 0 = -1 ∧ q.length + 1 ≤ s.size
theorem good_nil (s : ByteArray) : good s [] := fun q x h => by have := List.prefix_nil.1 h; simp at this
theorem good_snoc (s : ByteArray) (pre : List Ln) (x : Ln) (h : good s pre) (h1 : x.1.1 = (Swar.joined (pv pre)).length) (h2 : Swar.idxL x.1.2 10 0 = -1) (h3 : pre.length + 1 ≤ s.size) : good s (pre ++ [x]) := by
  intro q y hq
  by_cases hl : q.length < pre.length
  · exact h q y (List.prefix_of_prefix_length_le hq (List.prefix_append _ _) (by simp; omega))
  · have hle := hq.length_le
    simp at hle
    have e := List.IsPrefix.eq_of_length hq (by simp; omega)
    have e1 := List.append_inj e (by omega)
    obtain ⟨rfl, e2⟩ := e1
    cases e2
    exact ⟨h1, h2, h3⟩
theorem not_good (s : ByteArray) (pre : List Ln) (x : Ln) (h : ¬ (x.1.1 = (Swar.joined (pv pre)).length ∧ Swar.idxL x.1.2 10 0 = -1 ∧ pre.length + 1 ≤ s.size)) : ¬ good s (pre ++ [x]) := fun g => h (g pre x (List.prefix_refl _))
theorem good_lines (s : ByteArray) (hs : s.size ≤ 140737488351232) (pre : List Ln) (h : pre <+: lnL s) : good s pre := by
  intro q x hq
  have h1 : pv q ++ [x.1] <+: Swar.linesF s (s.size + 1) 0 := by
    have := (hq.trans h).map (·.1)
    rw [← pv_lines s hs]
    simpa [pv] using this
  have := Swar.lines_pre s _ _ _ _ h1
  refine ⟨by omega, this.2.1, ?_⟩
  have h3 := this.2.2
  simp [pv] at h3
  omega
theorem boxed_app {W w1 : World} {n₀ B : Nat} {t e : TypeId} {v v' : Value} {k m : Nat} {xs ys : List Value} (hv : Boxed W B t v) (hte : t ≠ e) (hrow : W.ownsRow n₀ e 1 v k xs) (hn₀ : n₀ ≤ W.heap.size) (hB : n₀ ≤ B)
    (hown' : w1.ownsRow n₀ e 1 v' m ys) (hg : W.grownBy w1 v.ownBlock) :
    Boxed w1 B t v ∧ Boxed (w1.setCell ⟨B, 0, none⟩ v') B t v' ∧ (w1.setCell ⟨B, 0, none⟩ v').ownsRow n₀ e 1 v' m ys ∧ KeepsOthers W (w1.setCell ⟨B, 0, none⟩ v') ∧ Below n₀ W (w1.setCell ⟨B, 0, none⟩ v')
      ∧ (∀ B' t' u, Boxed W B' t' u → t' ≠ e → B' ≠ B → Boxed (w1.setCell ⟨B, 0, none⟩ v') B' t' u) := by
  have hv1 : Boxed w1 B t v := hv.kept hg (hv.not_row hte hrow)
  have hc : ∀ (j : Nat) (o : Obj), v.ownBlock = some j → W.heap[j]? = some o → o.isCells = true := by
    intro j o ej hj
    rcases hrow.2 with ⟨rfl, _⟩ | ⟨g, cap, cur, rfl, _, hgb, _⟩
    · simp [Value.ownBlock] at ej
    · obtain rfl : g = j := by simpa [Value.ownBlock] using ej
      rw [hgb] at hj
      cases hj
      rfl
  refine ⟨hv1, hv1.set v', hown'.kept (grownBy_setCell' w1 B v') (.inr (hv1.not_row hte hown').symm), (KeepsOthers.of_grownBy hg hc).trans (KeepsOthers.setCell _ _ _), ?_, ?_⟩
  · exact ((Below.refl n₀ W).grown hg hn₀ (fun j ej => (hrow.lt j ej).1)).setCell (p := ⟨B, 0, none⟩) hB v'
  · intro B' t' u hu ht' hne
    exact (hu.kept hg (hu.not_row ht' hrow)).other hne v'
theorem row_set {W : World} {n₀ B : Nat} {t e : TypeId} {u v : Value} {k : Nat} {xs : List Value} (h : Boxed W B t u) (hte : t ≠ e) (hrow : W.ownsRow n₀ e 1 v k xs) (u' : Value) : (W.setCell ⟨B, 0, none⟩ u').ownsRow n₀ e 1 v k xs :=
  hrow.kept (grownBy_setCell' W B u') (.inr (h.not_row hte hrow).symm)
theorem slice_shape {W : World} {n₀ : Nat} {e : TypeId} {v : Value} {k : Nat} {xs : List Value} (h : W.ownsRow n₀ e 1 v k xs) : ∃ (p : Option Addr) (c : Nat), v = .slice p k c := by
  rcases h.2 with ⟨rfl, rfl⟩ | ⟨g, cap, cur, rfl, _⟩
  · exact ⟨none, 0, rfl⟩
  · exact ⟨_, cap, rfl⟩
theorem stopApp {F : Fence} {n' : Nat} {P : Program} {ops : Array Oper} {rest : List Oper} {o : Oper} {a : Act} {Q : Exit → Act → World → Prop} {w : World} (sl x : Operand) (t u : TypeId)
    (ho : o.op = .call { callee := .builtin .append, args := #[sl, x], argTypes := #[t, u] }) (h : Hid (wpListIn F n' P ops Q (o :: rest) a w)) : wpListIn F n' P ops Q (o :: rest) a w := h.out
theorem wpListIn_append_str {F : Fence} {n' : Nat} {P : Program} {ops : Array Oper} {rest : List Oper} {o : Oper} {a : Act} {Q : Exit → Act → World → Prop} (w : World) (hgd : o.guard = none) (sl x : Operand) (t u : TypeId)
    (ho : o.op = .call { callee := .builtin .append, args := #[sl, x], argTypes := #[t, u] })
    (base : Nat) (e : TypeId) (i : TypeInfo) (ht : P.underlying t = some (.slice e)) (hu : P.underlying u = some .string) (hi : P.info? e = some i) (hz : i.zero = some (.int .u8 0)) (hsize : i.size = 1) (hby : i.bytes = 1)
    (v : Value) (n : Nat) (xs : List Value) (hs : a.eval sl = v) (hown : w.ownsRow base e 1 v n xs) (s : ByteArray) (hx : a.eval x = .string s) (h63 : n + s.size ≤ maxLen) (hbytes : n + s.size ≤ 140737488355328) (hbase : base ≤ w.heap.size)
    (h : ∀ v' w', w'.ownsRow base e 1 v' (n + s.size) (xs ++ Go.Lib.strCells s) → w.grownBy w' v.ownBlock → wpListIn F n' P ops Q rest (a.put o.dst v') w') : wpListIn F n' P ops Q (o :: rest) a w := by
  refine wpListIn_plain hgd fun K hK => ?_
  obtain ⟨v', w', hr, h2, h3, h4⟩ := Go.Lib.run_append_own_string (P := P) w base t u o.type e i ht hu hi hz hsize hby v n xs hown s h63 hbytes hbase
  unfold Oper.wpIn
  refine ⟨by simp [Oper.about, ho, resolve, Target.leads, Sem.run_pure], ?_⟩
  rw [Oper.semAt_plain F _ _ (by rw [ho]; intro c hc'; cases hc')]
  simp [execOp, ho, resolve, invoke, builtin, hs, hx, hr, Result.andThen]
  exact hK _ _ (h v' w' h2 h3)
theorem strc_byv (s : ByteArray) : Go.Lib.strCells s = byv (Sums.bl s) := by
  unfold Go.Lib.strCells byv Sums.bl
  rw [List.map_map]
  rfl
theorem own_push {n₀ n m : Nat} {W : World} {v : Value} {l : List Nat} {s : ByteArray} (h : W.ownsRow n₀ 5 1 v (n + s.size) (byv l ++ Go.Lib.strCells s)) : W.ownsRow n₀ 5 1 v (n + s.size) (byv (l ++ Sums.bl s)) := by
  rw [byv_append, ← strc_byv]
  exact h
end Go.Proofs.YtecoiifmeajicaaDoor
