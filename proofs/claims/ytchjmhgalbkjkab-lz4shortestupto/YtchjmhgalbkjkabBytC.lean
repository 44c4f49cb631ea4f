/-
  What stays through a loop over the parts of a packed text. Conditions: as each says.
-/
import Derived.Test.YtchjmhgalbkjkabPrtN
import Derived.Test.YtchjmhgalbkjkabQk
import Derived.BigFrameIn
import Derived.Shelf.RegionOpen
namespace Go.Proofs.Ytchjmhgalbkjkab
open Go.RowKit Go.Shelf
set_option linter.unusedVariables false
set_option linter.unusedSimpArgs false
theorem str_ne (t : ByteArray) (h : t.size ≠ 0) (w : World) : (binOp .neq 9 (.string t) (.string ⟨#[]⟩)).run Try.prog w = .ok (.bool true) w := by
  have hne : ¬ t.toList = (⟨#[]⟩ : ByteArray).toList := by
    intro e
    rw [ByteArray.toList_eq, ByteArray.toList_eq] at e
    have : t = ⟨#[]⟩ := ByteArray.ext (Array.toList_inj.1 e)
    rw [this] at h
    exact h rfl
  have e0 : (⟨#[]⟩ : ByteArray).toList = [] := by rw [ByteArray.toList_eq]
  rw [e0] at hne
  simp [go_sem]
  exact hne
theorem eq_bool (a b : Bool) (w : World) : (binOp .eql 4 (.bool a) (.bool b)).run Try.prog w = .ok (.bool (a == b)) w := by cases a <;> cases b <;> kernel_rfl
theorem skip_call {F : Fence} {n : Nat} {P : Program} {ops : Array Oper} {Q : Exit → Act → World → Prop} {a : Act} {w : World} {rest : List Oper} {o : Oper} (hw : Region.wanted o (yielded ops a.tmps) = false) (ha : o.about P w a.eval = none) (hd : a.put o.dst undef = a) (h : wpListIn F n P ops Q rest a w) : wpListIn F n P ops Q (o :: rest) a w := wpListIn_skip hw ha (by rw [hd]; exact h)
theorem nil_func (fn : Fn) (first cap : Array Value) (w : World) : (binOp .eql 44 (.func fn first cap) .nilFunc).run Try.prog w = .ok (.bool false) w := by kernel_rfl
theorem grown_set (W : World) (k : Nat) (u : Value) : W.grownBy (W.setCell ⟨k, 0, none⟩ u) (some k) :=
  ⟨rfl, rfl, rfl, by simp [World.setCell], fun i _ hne => by
    simp only [World.setCell, Array.getElem?_modify]
    rw [if_neg (fun e => hne (by rw [e]))]⟩
theorem kept_set {W : World} {k : Nat} {t : TypeId} {v : Value} (B : Nat) (h : Boxed W k t v) (ht : t ≠ 67) (u : Value) : KeptW B WrP W (W.setCell ⟨k, 0, none⟩ u) :=
  ⟨by simp [World.setCell], fun i o _ hi ho => by
    rw [(grown_set W k u).block i (Array.getElem?_eq_some_iff.1 hi).1 (fun e => ?_)]
    · exact hi
    · cases e
      have h3 : W.heap[k]? = some (.cells #[v] t (0, 0)) := h
      rw [h3] at hi
      cases hi
      rcases ho with ho | ⟨cs, ho⟩
      · cases ho
      · cases ho
        exact ht rfl⟩
theorem kp_set {W : World} {k : Nat} {t : TypeId} {v : Value} (h : Boxed W k t v) (ht : t ≠ 67 ∧ t ≠ 63) (u : Value) : KpP W (W.setCell ⟨k, 0, none⟩ u) :=
  ⟨by simp [World.setCell], fun i o hi ho => by
    rw [(grown_set W k u).block i (Array.getElem?_eq_some_iff.1 hi).1 (fun e => ?_)]
    · exact hi
    · cases e
      have h3 : W.heap[k]? = some (.cells #[v] t (0, 0)) := h
      rw [h3] at hi
      cases hi
      rcases ho with ⟨cs, ho⟩ | ⟨cs, ho⟩
      · cases ho
        exact ht.1 rfl
      · cases ho
        exact ht.2 rfl⟩
theorem kept_new (B : Nat) (W : World) (o : Obj) : KeptW B WrP W (W.alloc o) := ⟨by simp, fun i x _ h _ => (Below.heap_alloc _ _ _ (Array.getElem?_eq_some_iff.1 h).1).trans h⟩
theorem kp_new (W : World) (o : Obj) : KpP W (W.alloc o) := ⟨by simp, fun i x h _ => (Below.heap_alloc _ _ _ (Array.getElem?_eq_some_iff.1 h).1).trans h⟩
theorem KpP.refl (W : World) : KpP W W := ⟨Nat.le_refl _, fun _ _ h _ => h⟩
abbrev Turn (B : Nat) (W : World) (row : Option Nat) : Prop := ∀ r, row = some r → B ≤ r ∧ ∃ o : Obj, W.heap[r]? = some o ∧ (o.isCells = false ∨ WrP o)
theorem no_turn {W : World} {row : Option Nat} {B k : Nat} {cs : Array Value} {t : TypeId} {fz : Nat × Nat} (h : W.heap[k]? = some (.cells cs t fz)) (hr : Turn B W row) (ht : t ≠ 67) : some k ≠ row := by
  intro e
  obtain ⟨_, o, h1, h2⟩ := hr _ e.symm
  rw [h] at h1
  cases h1
  rcases h2 with h2 | ⟨cs, h2⟩
  · cases h2
  · cases h2
    exact ht rfl
theorem cells_ab {W W' : World} {row : Option Nat} {B k : Nat} {cs : Array Value} {t : TypeId} {fz : Nat × Nat} (h : W.heap[k]? = some (.cells cs t fz)) (hg : W.grownBy W' row) (hr : Turn B W row) (ht : t ≠ 67) : W'.heap[k]? = some (.cells cs t fz) :=
  (hg.block k (Array.getElem?_eq_some_iff.1 h).1 (no_turn h hr ht)).trans h
theorem box_ab {W W' : World} {row : Option Nat} {B B' : Nat} {t : TypeId} {v : Value} (h : Boxed W B' t v) (hg : W.grownBy W' row) (hr : Turn B W row) (ht : t ≠ 67) : Boxed W' B' t v := cells_ab h hg hr ht
/-- a sequence, as it lies -/
def Sb (W : World) (X : Nat) (x : Pt) : Prop := W.heap[X]? = some (.cells #[.string x.2.1, .int .i64 (x.2.2.1 : Int), .int .i64 (x.2.2.2 : Int)] 32 (0, 0))
theorem Sb.cells {W : World} {X : Nat} {x : Pt} (h : Sb W X x) : W.cell? ⟨X, 0, none⟩ = some (.string x.2.1) ∧ W.cell? ⟨X, 1, none⟩ = some (.int .i64 (x.2.2.1 : Int)) ∧ W.cell? ⟨X, 2, none⟩ = some (.int .i64 (x.2.2.2 : Int)) := by
  unfold Sb at h
  simp [World.cell?, h]
theorem kept_bel {W W' : World} (B : Nat) (h : Below W.heap.size W W') : KeptW B WrP W W' := ⟨h.size, fun k o _ hk _ => (h.block k (Array.getElem?_eq_some_iff.1 hk).1).trans hk⟩
theorem kp_bel {W W' : World} (h : Below W.heap.size W W') : KpP W W' := ⟨h.size, fun k o hk _ => (h.block k (Array.getElem?_eq_some_iff.1 hk).1).trans hk⟩
theorem Sb.other {W : World} {X k : Nat} {x : Pt} (h : Sb W X x) (hne : X ≠ k) (u : Value) : Sb (W.setCell ⟨k, 0, none⟩ u) X x :=
  ((grown_set W k u).block X (Array.getElem?_eq_some_iff.1 h).1 (fun e => by cases e; exact hne rfl)).trans h
theorem Sb.ne {W : World} {X k : Nat} {x : Pt} {t : TypeId} {v : Value} (h : Sb W X x) (hk : Boxed W k t v) (ht : t ≠ 32) : X ≠ k := by
  intro e
  subst e
  have h3 : W.heap[X]? = some (.cells #[v] t (0, 0)) := hk
  unfold Sb at h
  rw [h3] at h
  cases h
theorem bel_box {W W' : World} {k : Nat} {t : TypeId} {v : Value} (hb : Below W.heap.size W W') (h : Boxed W k t v) : Boxed W' k t v := (hb.block k h.lt).trans h
end Go.Proofs.Ytchjmhgalbkjkab
