/-
  What stays through the loops of the law RecordGoes. Conditions: as each says.
-/
import Derived.Test.YtchhdkmflppjhaaGoA
import Derived.Test.YtchhdkmflppjhaaRngB
import Derived.RangeFuncBox
namespace Go.Proofs.Ytchhdkmflppjhaa
open Go.RowKit Go.Shelf
set_option linter.unusedVariables false
theorem g_with {F : Fence} {n : Nat} {P : Program} {c : Code} {Q : Exit → Act → World → Prop} {a' : Act} {V : World} (h : ∀ a, a = a' → Code.wpIn F n P c Q a V) : Code.wpIn F n P c Q a' V := h a' rfl
theorem g_to {K : Act → World → Prop} {a a' : Act} {V : World} (h : K a V) (e : a = a') : K a' V := e ▸ h
theorem g_act {F : Fence} {n : Nat} {P : Program} {c : Code} {Q : Exit → Act → World → Prop} {a a' : Act} {V : World} (e : a = a') (h : Code.wpIn F n P c Q a' V) : Code.wpIn F n P c Q a V := e ▸ h
abbrev fnG (c : Nat) : Value := .func (.func 30) #[] #[.pointer (some ⟨c + 1, 0, none⟩)]
theorem store_lastG {P : Program} (X : World) (x v : Value) (t : TypeId) (n : Nat) (hn : n = X.heap.size) (hv : v.oneCell' = true) : (store ⟨n, 0, none⟩ v).run P (X.alloc (.cells #[x] t)) = .ok () (X.alloc (.cells #[v] t)) := by
  subst hn
  have h := Boxed.new X t x
  rw [run_store P _ _ v _ hv, h.cell, h.frozen]
  show Result.ok () _ = _
  rw [World.setCell_alloc_at _ _ _ _ _ rfl]
  rfl
theorem boxG_other {W : World} {B k : Nat} {t : TypeId} {v : Value} (h : Boxed W B t v) (hne : k ≠ B) (u : Value) : Boxed (W.setCell ⟨k, 0, none⟩ u) B t v := (Below.heap_setCell W ⟨k, 0, none⟩ u B (fun e => hne e.symm)).trans h
theorem boxG_ab {W W' : World} {row : Option Nat} {B B' : Nat} {t : TypeId} {v : Value} (h : Boxed W B' t v) (hg : W.grownBy W' row) (hr : ∀ r, row = some r → B ≤ r ∧ ∃ o : Obj, W.heap[r]? = some o ∧ (o.isCells = false ∨ noO o)) : Boxed W' B' t v := by
  refine h.kept hg ?_
  intro e
  obtain ⟨_, o, h1, h2⟩ := hr _ e.symm
  have h3 : W.heap[B']? = some (.cells #[v] t (0, 0)) := h
  rw [h3] at h1
  cases h1
  rcases h2 with h2 | h2
  · cases h2
  · exact h2
theorem rowG_ab {W W' : World} {row : Option Nat} {B B' n sz : Nat} {e : TypeId} {v : Value} {xs : List Value} (h : W.ownsRow B' e sz v n xs) (hg : W.grownBy W' row) (hr : ∀ r, row = some r → B ≤ r ∧ ∃ o : Obj, W.heap[r]? = some o ∧ (o.isCells = false ∨ noO o)) : W'.ownsRow B' e sz v n xs :=
  ⟨h.1, h.2.imp id fun ⟨g, cap, cur, e1, e2, e3, r⟩ => ⟨g, cap, cur, e1, e2, by
    rw [hg.block g (Array.getElem?_eq_some_iff.1 e3).1 (fun e => ?_)]
    · exact e3
    · obtain ⟨_, o, h1, h2⟩ := hr _ e.symm
      rw [e3] at h1
      cases h1
      rcases h2 with h2 | h2
      · cases h2
      · exact h2, r⟩⟩
/-- what stays through all loops -/
structure Gx (s : ByteArray) (L : List Rec.Ln) (b c : Nat) (v : Value) (leave : Int) (w W : World) : Prop where
  lv : Boxed W b 3 (.int .i64 leave)
  res : Boxed W (b + 1) 4 (.bool false)
  want : Boxed W c 23 v
  txt : Boxed W (c + 1) 9 (.string s)
  all : Boxed W (c + 2) 32 (fnG c)
  row : W.ownsRow (b + 2) 35 2 v L.length (lnV L)
  bel : Below b w W
section
variable {s : ByteArray} {L : List Rec.Ln} {b c : Nat} {v : Value} {leave : Int} {w W W' : World}
theorem Gx.ab {row : Option Nat} {B : Nat} (hB : b ≤ B) (hbw : b ≤ w.heap.size) (h : Gx s L b c v leave w W) (hg : W.grownBy W' row) (hr : ∀ r, row = some r → B ≤ r ∧ ∃ o : Obj, W.heap[r]? = some o ∧ (o.isCells = false ∨ noO o)) : Gx s L b c v leave w W' :=
  ⟨boxG_ab h.lv hg hr, boxG_ab h.res hg hr, boxG_ab h.want hg hr, boxG_ab h.txt hg hr, boxG_ab h.all hg hr, rowG_ab h.row hg hr, h.bel.trans ⟨hg.os, hg.tape, hg.output, hg.size, fun k hk => by
      by_cases e : some k = row
      · obtain ⟨h1, _⟩ := hr k e.symm
        omega
      · exact hg.block k (Nat.lt_of_lt_of_le hk (Nat.le_trans hbw h.bel.size)) e⟩⟩
theorem Gx.setk {k0 u : Value} {K : Nat} (h : Gx s L b c v leave w W) (hk : Boxed W K 3 k0) (hK : c + 3 ≤ K) (hbc : b + 2 ≤ c) : Gx s L b c v leave w (W.setCell ⟨K, 0, none⟩ u) :=
  ⟨boxG_other h.lv (by omega) _, boxG_other h.res (by omega) _, boxG_other h.want (by omega) _, boxG_other h.txt (by omega) _, boxG_other h.all (by omega) _, row_kept h.row fun i hi => Below.heap_setCell _ _ _ _ (fun e => hk.not_row (by decide) h.row (by rw [hi]; exact congrArg some e.symm)), h.bel.setCell (p := ⟨K, 0, none⟩) (by show b ≤ K; omega) _⟩
theorem Gx.drew (h : Gx s L b c v leave w W) (k : Nat) : Gx s L b c v leave w (W.drewN k) := ⟨h.lv, h.res, h.want, h.txt, h.all, h.row, h.bel.drewN' k⟩
theorem Gx.alloc (h : Gx s L b c v leave w W) (hbw : b ≤ w.heap.size) (o : Obj) : Gx s L b c v leave w (W.alloc o) := h.ab (Nat.le_refl b) hbw (World.grownBy_alloc W o none) (fun r e => by cases e)
end
theorem keptG_set (B : Nat) (W : World) (k : Nat) (u : Value) : KeptW B noO W (W.setCell ⟨k, 0, none⟩ u) :=
  ⟨by simp [World.setCell], fun i o _ h ho => by
    rcases ho with ho | ho
    · exact (KeepsOthers.setCell W ⟨k, 0, none⟩ u).same i o h ho
    · exact ho.elim⟩
theorem keptG_ab {B B' : Nat} {W X Y : World} {row : Option Nat} (h : KeptW B noO W X) (hg : X.grownBy Y row) (hr : ∀ r, row = some r → B' ≤ r ∧ ∃ o : Obj, X.heap[r]? = some o ∧ (o.isCells = false ∨ noO o)) (hB : W.heap.size ≤ B') : KeptW B noO W Y :=
  ⟨Nat.le_trans h.size hg.size, fun k o hk hw ho => by
    have h1 := h.same k o hk hw ho
    have hlt := (Array.getElem?_eq_some_iff.1 hw).1
    rw [hg.block k (Array.getElem?_eq_some_iff.1 h1).1 (fun e => by have := (hr k e.symm).1; omega)]
    exact h1⟩
theorem KpC.put {b : Nat} (W : World) (k : Nat) (o o' : Obj) (h : W.heap[k]? = some o) (h1 : o.isCells = false) : KpC b W (W.putObj k o') := fun i o2 hi ho hc => by
  rw [World.putObj_heap_other (fun e => by subst e; rw [h] at ho; cases ho; rw [h1] at hc; cases hc)]
  exact ho
theorem KpC.set {b : Nat} (W : World) (k : Nat) (u : Value) (hk : k < b ∨ W.heap.size ≤ k) : KpC b W (W.setCell ⟨k, 0, none⟩ u) := fun i o2 hi ho hc => by
  have := (Array.getElem?_eq_some_iff.1 ho).1
  rw [Below.heap_setCell _ _ _ _ (by show i ≠ k; omega)]
  exact ho
theorem KpC.setd {b : Nat} (W : World) (j k : Nat) (u : Value) (hk : k < b ∨ W.heap.size ≤ k) : KpC b W ((W.drewN j).setCell ⟨k, 0, none⟩ u) := KpC.set (W.drewN j) k u hk
theorem keptG_setd (B : Nat) (W : World) (j k : Nat) (u : Value) : KeptW B noO W ((W.drewN j).setCell ⟨k, 0, none⟩ u) := ⟨(keptG_set B (W.drewN j) k u).size, (keptG_set B (W.drewN j) k u).same⟩
theorem KpC.setw {b : Nat} {W X : World} (h : KpC b W X) (j k : Nat) (u : Value) (hk : W.heap.size ≤ k) : KpC b W ((X.drewN j).setCell ⟨k, 0, none⟩ u) := fun i o2 hi ho hc => by
  have h1 := h i o2 hi ho hc
  have := (Array.getElem?_eq_some_iff.1 ho).1
  rw [Below.heap_setCell _ _ _ _ (by show i ≠ k; omega)]
  exact h1
theorem KpC.new {b : Nat} (W : World) (o : Obj) : KpC b W (W.alloc o) := fun i o2 hi ho hc => (Below.heap_alloc _ _ _ (Array.getElem?_eq_some_iff.1 ho).1).trans ho
theorem KpC.ab {b B : Nat} {W X Y : World} {row : Option Nat} (h : KpC b W X) (hg : X.grownBy Y row) (hr : ∀ r, row = some r → B ≤ r ∧ ∃ o : Obj, X.heap[r]? = some o ∧ (o.isCells = false ∨ noO o)) : KpC b W Y := fun i o hi ho hc => by
  have h1 := h i o hi ho hc
  rw [hg.block i (Array.getElem?_eq_some_iff.1 h1).1 (fun e => ?_)]
  · exact h1
  · obtain ⟨_, o2, h2, h3⟩ := hr _ e.symm
    rw [h1] at h2
    cases h2
    rcases h3 with h3 | h3
    · rw [hc] at h3
      cases h3
    · exact h3
end Go.Proofs.Ytchhdkmflppjhaa
