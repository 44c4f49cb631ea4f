/-
  What dragnetlaw7.ManyMakes knows from step to step. Conditions: as each says.
-/
import Derived.Test.YtlejfeapnnioeaaMk1
import Derived.Test.YtlejfeapnnioeaaMnU
namespace Go.Proofs.Ytlejfeapnnioeaa
open Go.RowKit Go.Shelf
set_option linter.unusedVariables false
/-- it is kept where what lies there is kept -/
def Kept (K : World → Prop) : Prop := ∀ V V', Below V.heap.size V V' → K V → K V'
structure MkP (K : World → Prop) (b b1 n : Nat) (R : List ByteArray) (w V : World) : Prop where
  row : V.heap[b1]? = some (.cells (rowV (fun j => .string (lentF R j)) (n + 8)).toArray 9 (0, 0))
  bel : Below b w V
  lo : b ≤ b1
  len : R.length = n
  kp : Kept K
  ex : K V
structure MkW (K : World → Prop) (b b1 n : Nat) (p : Option Addr) (R : List ByteArray) (w V : World) : Prop extends MkP K b b1 n R w V where
  str : StrAt V p R
section
variable {K : World → Prop} {b b1 n : Nat} {p : Option Addr} {R : List ByteArray} {w V V' : World} {fold : Bool}
theorem MkP.keep (h : MkP K b b1 n R w V) (hb : Below V.heap.size V V') : MkP K b b1 n R w V' :=
  have hlt : b1 < V.heap.size := (Array.getElem?_eq_some_iff.1 h.row).1
  ⟨(hb.block b1 hlt).trans h.row, h.bel.trans ⟨hb.os, hb.tape, hb.output, hb.size, fun k hk => hb.block k (by have := h.lo; omega)⟩, h.lo, h.len, h.kp, h.kp _ _ hb h.ex⟩
theorem MkW.keep (h : MkW K b b1 n p R w V) (hb : Below V.heap.size V V') : MkW K b b1 n p R w V' := ⟨h.toMkP.keep hb, h.str.keep hb⟩
theorem MkW.drew (h : MkW K b b1 n p R w V) (e : ∃ j, V' = V.drewN j) : MkW K b b1 n p R w V' := by
  obtain ⟨j, rfl⟩ := e
  exact h.keep ((Below.refl _ V).drewN' j)
theorem MkP.more {K' : World → Prop} (h : MkP K b b1 n R w V) (hk : Kept K') (hx : K' V) : MkP (fun V => K V ∧ K' V) b b1 n R w V :=
  ⟨h.row, h.bel, h.lo, h.len, fun V V' hb hx => ⟨h.kp V V' hb hx.1, hk V V' hb hx.2⟩, h.ex, hx⟩
theorem MkP.lt (h : MkP K b b1 n R w V) : b1 < V.heap.size := (Array.getElem?_eq_some_iff.1 h.row).1
theorem MkP.own (h : MkP K b b1 n R w V) : StrAt V (some ⟨b1, 0, none⟩) R := fun i hi => by
  refine ⟨b1, 0, rfl, ?_⟩
  rw [Nat.zero_add, cell_row (w' := V) h.row (by have := h.len; omega) ⟨0, rfl⟩]
  unfold lentF
  rw [if_pos hi]
def OneM (b1 sb : Nat) (fold : Bool) (R : List ByteArray) (V : World) : Prop := ∃ B, b1 < B ∧ ManyM B sb (Mn.wds fold R) fold V
def TwoM (b1 sb g : Nat) (fold : Bool) (R : List ByteArray) (V : World) : Prop := OneM b1 sb fold R V ∧ ∃ B q c, b1 < B ∧ B ≤ V.heap.size ∧ RefM B g R.length fold R q c V V
theorem kept_one (b1 sb : Nat) (fold : Bool) (R : List ByteArray) : Kept (OneM b1 sb fold R) := by
  rintro V V' hb ⟨B, h1, h2⟩
  exact ⟨B, h1, h2.keep hb⟩
theorem kept_two (b1 sb g : Nat) (fold : Bool) (R : List ByteArray) : Kept (TwoM b1 sb g fold R) := by
  rintro V V' hb ⟨h0, B, q, c, h1, h2, h3⟩
  have h4 := h3.keep h2 hb
  exact ⟨kept_one _ _ _ _ V V' hb h0, B, q, c, h1, Nat.le_trans h2 hb.size, h4.st, h4.row, Below.refl _ _, h4.len, h4.lo⟩
theorem kept_true : Kept (fun _ => True) := fun _ _ _ _ => trivial
theorem many_set {B sb : Nat} {W : List (List Nat)} (h : ManyM B sb W fold V) (hb : b1 < B) (o : Nat) (u : Value) : ManyM B sb W fold (V.setCell ⟨b1, o, none⟩ u) := by
  obtain ⟨g, cn, g2, cw, h⟩ := h
  have hs := h.sB
  refine ⟨g, cn, g2, cw, (set_heap V b1 sb o u (by omega)).trans h.st, mr_set h.nod ?_ o u, mr_set h.wrd ?_ o u, hs⟩
  · intro e
    have := (h.nod.lt _ e).1
    omega
  · intro e
    have := (h.wrd.lt _ e).1
    omega
theorem two_set {sb g : Nat} (h : TwoM b1 sb g fold R V) (o : Nat) (u : Value) : TwoM b1 sb g fold R (V.setCell ⟨b1, o, none⟩ u) := by
  obtain ⟨⟨B, h1, h2⟩, B', q, c, h3, h4, h5⟩ := h
  refine ⟨⟨B, h1, many_set h2 h1 o u⟩, B', q, c, h3, by simpa [World.setCell] using h4, (set_heap V b1 g o u (by have := h5.lo; omega)).trans h5.st, mr_set h5.row ?_ o u, Below.refl _ _, h5.len, h5.lo⟩
  intro e
  have := (h5.row.lt _ e).1
  omega
@[irreducible] def nsW (fold : Bool) (R : List ByteArray) : Int := ((Mn.nsOf (Mn.wds fold R)).length : Int)
theorem two_states {sb g : Nat} (h : TwoM b1 sb g fold R V) :
    Calls Try.prog 12 #[.pointer (some ⟨sb, 0, none⟩)] V fun e w' => e = .returned (.int .i64 (nsW fold R)) ∧ w' = V := by
  obtain ⟨⟨B, h1, h2⟩, _⟩ := h
  unfold nsW
  exact states_many B sb _ fold V h2
theorem two_ref {sb g : Nat} (h : TwoM b1 sb g fold R V) (hg : Mn.Good fold R) :
    Calls Try.prog 13 #[.pointer (some ⟨g, 0, none⟩)] V fun e w' => e = .returned (.int .i64 (nsW fold R)) ∧ ∃ j, w' = V.drewN j := by
  obtain ⟨_, B, q, c, h1, h2, h3⟩ := h
  unfold nsW
  exact refStates_good B g R.length fold R q c V V h3 hg
theorem mk_lent (cap : Nat) (h : StrAt w p R) (hb : w.heap.size = b) (hB : Below b w V) (hn : R.length = n) (hl : n ≤ 8796093022208) :
    Calls Try.prog 8 #[.slice p n cap] V fun e w' => ∃ b1, e = .returned (.slice (some ⟨b1, 0, none⟩) n (n + 8)) ∧ MkW (fun _ => True) b b1 n p R w w' := by
  subst hb hn
  have h1 : StrAt V p R := h.keep hB
  refine (lent_any p cap R V h1 hl).mono ?_
  rintro e w' ⟨rfl, hr, hb2⟩
  exact ⟨V.heap.size, rfl, ⟨hr, hB.trans ⟨hb2.os, hb2.tape, hb2.output, hb2.size, fun k hk => hb2.block k (by have := hB.size; omega)⟩, hB.size, rfl, kept_true, trivial⟩, h1.keep hb2⟩
theorem mk_newG (h : MkW K b b1 n p R w V) (hg : Mn.Good fold R) (hsz : ∀ x ∈ R, x.size ≤ 140737488351232) :
    Calls Try.prog 9 #[.slice (some ⟨b1, 0, none⟩) n (n + 8), .bool fold] V fun e w' => ∃ sb, e = .returned (.tuple #[.pointer (some ⟨sb, 0, none⟩), .int .i64 0, .int .i64 0]) ∧ MkW (fun V => K V ∧ OneM b1 sb fold R V) b b1 n p R w w' := by
  obtain rfl := h.len
  have := hg.few
  refine (new_good (some ⟨b1, 0, none⟩) (R.length + 8) R fold V h.own hg (by omega) (by omega) hsz).mono ?_
  rintro e w' ⟨sb, rfl, hm, hb⟩
  have h2 := h.keep hb
  exact ⟨sb, rfl, h2.toMkP.more (kept_one _ _ _ _) ⟨_, h.lt, hm⟩, h2.str⟩
theorem mk_newB (k : Nat) (h : MkW K b b1 n p R w V) (hk : Mn.badN fold R k) (hl : n ≤ 8796093022208) (hsz : ∀ x ∈ R, x.size ≤ 140737488351232) :
    Calls Try.prog 9 #[.slice (some ⟨b1, 0, none⟩) n (n + 8), .bool fold] V fun e w' => e = .returned (.tuple #[.pointer none, .int .i64 70, .int .i64 (k : Int)]) ∧ MkW K b b1 n p R w w' := by
  obtain rfl := h.len
  refine (new_bad (some ⟨b1, 0, none⟩) (R.length + 8) R fold V k h.own hk hl (by omega) (by omega) hsz).mono ?_
  rintro e w' ⟨rfl, hb⟩
  exact ⟨rfl, h.keep hb⟩
theorem mk_refG {sb : Nat} (cap : Nat) (h : MkW (fun V => K V ∧ OneM b1 sb fold R V) b b1 n p R w V) (hg : Mn.Good fold R) (hsz : ∀ x ∈ R, x.size ≤ 140737488351232) :
    Calls Try.prog 10 #[.slice p n cap, .bool fold] V fun e w' => ∃ g, e = .returned (.tuple #[.pointer (some ⟨g, 0, none⟩), .int .i64 0, .int .i64 0]) ∧ MkW (fun V => K V ∧ TwoM b1 sb g fold R V) b b1 n p R w w' := by
  obtain rfl := h.len
  refine (ref_good p cap R fold V h.str hg hsz).mono ?_
  rintro e w' ⟨g, q, c, rfl, hm⟩
  have hb := hm.bel
  have h2 := h.keep hb
  have hK : Kept (fun V => K V ∧ TwoM b1 sb g fold R V) := by
    rintro X Y hxy ⟨h3, h4⟩
    exact ⟨(h.kp X Y hxy ⟨h3, h4.1⟩).1, kept_two _ _ _ _ _ X Y hxy h4⟩
  exact ⟨g, rfl, ⟨h2.row, h2.bel, h2.lo, h2.len, hK, h2.ex.1, h2.ex.2, _, q, c, h.lt, hb.size, hm.st, hm.row, Below.refl _ _, hm.len, hm.lo⟩, h2.str⟩
theorem mk_refB (k : Nat) (cap : Nat) (h : MkW K b b1 n p R w V) (hk : Mn.badN fold R k) (hl : n ≤ 8796093022208) (hsz : ∀ x ∈ R, x.size ≤ 140737488351232) :
    Calls Try.prog 10 #[.slice p n cap, .bool fold] V fun e w' => e = .returned (.tuple #[.pointer none, .int .i64 70, .int .i64 (k : Int)]) ∧ MkW K b b1 n p R w w' := by
  obtain rfl := h.len
  refine (ref_bad p cap R fold V k h.str hk hl hsz).mono ?_
  rintro e w' ⟨rfl, hb⟩
  exact ⟨rfl, h.keep hb⟩
theorem mk_still (cap : Nat) (h : MkW K b b1 n p R w V) (hl : n ≤ 8796093022208) :
    Calls Try.prog 11 #[.slice (some ⟨b1, 0, none⟩) n (n + 8), .slice p n cap] V fun e w' => e = .returned (.bool true) ∧ MkW K b b1 n p R w w' := by
  obtain rfl := h.len
  refine (still_any b1 p cap R V h.str h.row hl).mono ?_
  rintro e w' ⟨rfl, hw⟩
  exact ⟨rfl, h.drew hw⟩
theorem lent_set (R : List ByteArray) (r : Nat) (x : ByteArray) (hr : r < R.length) (j : Nat) : lentF (R.set r x) j = if j = r then x else lentF R j := by
  unfold lentF
  rw [List.length_set]
  by_cases e : j = r
  · subst e
    rw [if_pos hr, if_pos rfl, List.getD_eq_getElem?_getD, List.getElem?_set_self hr, Option.getD_some]
  · rw [if_neg e]
    by_cases h : j < R.length
    · rw [if_pos h, if_pos h, List.getD_eq_getElem?_getD, List.getD_eq_getElem?_getD, List.getElem?_set_ne (fun q => e q.symm)]
    · rw [if_neg h, if_neg h]
theorem MkP.put (h : MkP K b b1 n R w V) (r : Nat) (x : ByteArray) (hr : r < n) (hs : K (V.setCell ⟨b1, r, none⟩ (.string x))) : MkP K b b1 n (R.set r x) w (V.setCell ⟨b1, r, none⟩ (.string x)) := by
  refine ⟨?_, mb_set h.bel h.lo r _, h.lo, by rw [List.length_set]; exact h.len, h.kp, hs⟩
  refine (set_rowV h.row (by omega) (.string x)).trans ?_
  rw [rowV_congr (G := fun j => .string (lentF (R.set r x) j)) fun j _ => by
    rw [lent_set R r x (by have := h.len; omega)]
    by_cases e : j = r
    · rw [if_pos e, if_pos e]
    · rw [if_neg e, if_neg e]]
theorem MkP.cell (h : MkP K b b1 n R w V) (r : Nat) (hr : r < n) : V.cell? ⟨b1, r, none⟩ = some (.string (lentF R r)) ∧ V.frozen? ⟨b1, r, none⟩ = false :=
  ⟨cell_row h.row (by omega) ⟨0, rfl⟩, by simp [World.frozen?, h.row]⟩
theorem MkP.news (h : MkP K b b1 n R w V) : ∀ j u, (strL R)[j]? = some u → V.cell? ((⟨b1, 0, none⟩ : Addr).add j) = some u := by
  intro j u hu
  rw [Addr.add_lit, Nat.zero_add]
  unfold strL at hu
  rw [List.getElem?_map] at hu
  have hj : j < R.length := by
    rcases Nat.lt_or_ge j R.length with h1 | h1
    · exact h1
    · rw [List.getElem?_eq_none h1] at hu
      cases hu
  rw [cell_row (w' := V) h.row (by have := h.len; omega) ⟨0, rfl⟩]
  rw [List.getElem?_eq_getElem hj] at hu
  rw [← hu]
  unfold lentF
  rw [if_pos hj, List.getD_eq_getElem?_getD, List.getElem?_eq_getElem hj]
  rfl
theorem MkP.copy {B : Nat} {q : Option Addr} {c : Nat} (h : MkP K b b1 n R w V) (ho : V'.ownsRow B 9 1 (.slice q n c) n (strL R)) (hg : V.grownBy V' none) : MkW K b b1 n q R w V' := by
  have hb : Below V.heap.size V V' := ⟨hg.os, hg.tape, hg.output, hg.size, fun k hk => hg.block k hk (by simp)⟩
  exact ⟨h.keep hb, str_at ho h.len.symm⟩
end
end Go.Proofs.Ytlejfeapnnioeaa
