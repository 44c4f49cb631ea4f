/-
  object: Right of values that are right: check. Conditions: as each says.
-/
import Derived.Test.YtkplbggefiemdaaGreatDoorObY
import Derived.Deep.RegionWith
namespace Go.Proofs.YtkplbggefiemdaaGreatDoor
open Go.RowKit Go.Maps
set_option linter.unusedVariables false
set_option linter.unusedSimpArgs false
/-- how many bytes a value is written as, its Kids left aside -/
def ownS (k : Nat) (t : ByteArray) (ns : List ByteArray) (nk : Nat) : Nat := if k = 1 then 4 else if k = 2 then 5 else if k = 3 then 4 else if k = 4 then t.size else if k = 5 then txS (Sums.bl t) 2 else nmSz ns (2 + (nk - 1))
mutual
/-- how many values there are, and how many bytes they have -/
def accV : Vl → Nat × Nat → Nat × Nat
  | .mk k t ns ks, p => accL ks (p.1 + 1, p.2 + ownS k t ns ks.length)
def accL : List Vl → Nat × Nat → Nat × Nat
  | [], p => p
  | v :: vs, p => accL vs (accV v p)
end
mutual
theorem accV_le : ∀ (v : Vl) (p : Nat × Nat), p.1 + 1 ≤ (accV v p).1 ∧ p.2 ≤ (accV v p).2
  | .mk k t ns ks, p => by
    have := accL_le ks (p.1 + 1, p.2 + ownS k t ns ks.length)
    rw [accV]
    simp at this
    omega
theorem accL_le : ∀ (l : List Vl) (p : Nat × Nat), p.1 ≤ (accL l p).1 ∧ p.2 ≤ (accL l p).2
  | [], p => by rw [accL]; exact ⟨Nat.le_refl _, Nat.le_refl _⟩
  | v :: vs, p => by
    have h1 := accV_le v p
    have h2 := accL_le vs (accV v p)
    rw [accL]
    omega
end
/-- a right text -/
def shT (t : ByteArray) : Bool := decide (t.size ≤ 65536) && Lib.validD t.data.toList
def numT (t : ByteArray) : Bool := decide (t.size ≤ 65536) && match nmP (Sums.bl t) 0 with | .ok q => decide (q = t.size) | .no _ _ => false
def dstN (ns : List ByteArray) : Bool := decide (((ns.map keyL).foldl addKey []).length = ns.length)
mutual
/-- a value that is right, with so many brackets that may still be opened -/
def okV : Nat → Vl → Bool
  | n, .mk k t ns ks =>
    (decide (1 ≤ k ∧ k ≤ 3) && decide (Sums.bl t = []) && decide (ns = []) && ks.isEmpty) || (decide (k = 4) && numT t && decide (ns = []) && ks.isEmpty) || (decide (k = 5) && shT t && decide (ns = []) && ks.isEmpty) ||
    (decide (k = 6) && decide (Sums.bl t = []) && decide (ns = []) && decide (0 < n) && decide (ks.length ≤ 65536) && okL (n - 1) ks) ||
    (decide (k = 7) && decide (Sums.bl t = []) && decide (ns.length = ks.length) && ns.all shT && dstN ns && decide (0 < n) && decide (ks.length ≤ 65536) && okL (n - 1) ks)
def okL : Nat → List Vl → Bool
  | _, [] => true
  | n, v :: vs => okV n v && okL n vs
end
/-- a checker in its block -/
structure Ck (h bx : Nat) (a s : Nat) (cs : Array Value) (v : Vl) (F : Nat → Prop) (w X : World) : Prop where
  hc : X.heap[h]? = some (.cells #[.int .i64 (a : Int), .int .i64 (s : Int)] 88 (0, 0))
  hb : X.heap[bx]? = some (.cells cs 41 (0, 0))
  vl : VlAt F X v cs
  on : Only h w X
theorem Ck.below {h bx a s : Nat} {cs : Array Value} {v : Vl} {F : Nat → Prop} {w X Y : World} (k : Ck h bx a s cs v F w X) (hb : Below X.heap.size X Y) : Ck h bx a s cs v F w Y :=
  ⟨(hb.block h (Array.getElem?_eq_some_iff.1 k.hc).1).trans k.hc, (hb.block bx (Array.getElem?_eq_some_iff.1 k.hb).1).trans k.hb, VlAt.keep (fun _ x => x) (fun j _ hl => hb.block j hl) hb.size _ _ k.vl, k.on.trans (Only.of_below hb)⟩
theorem Ck.only {h bx a s a2 s2 : Nat} {cs : Array Value} {v : Vl} {F : Nat → Prop} {w X Y : World} (k : Ck h bx a s cs v F w X) (ho : Only h X Y) (hF : ¬ F h) (hbx : bx ≠ h) (hc : Y.heap[h]? = some (.cells #[.int .i64 (a2 : Int), .int .i64 (s2 : Int)] 88 (0, 0))) : Ck h bx a2 s2 cs v F w Y :=
  ⟨hc, (ho.block bx (Array.getElem?_eq_some_iff.1 k.hb).1 hbx).trans k.hb, VlAt.keep (fun _ x => x) (fun j hj hl => ho.block j hl (fun e => hF (e ▸ hj))) ho.size _ _ k.vl, k.on.trans ho⟩
structure CkC (h bx : Nat) (a s : Nat) (x0 x1 x2 x3 : Value) (X : World) : Prop where
  a0 : X.cell? ⟨h, 0, none⟩ = some (.int .i64 (a : Int))
  a1 : X.cell? ⟨h, 1, none⟩ = some (.int .i64 (s : Int))
  f0 : X.frozen? ⟨h, 0, none⟩ = false
  f1 : X.frozen? ⟨h, 1, none⟩ = false
  b0 : X.cell? ⟨bx, 0, none⟩ = some x0
  b1 : X.cell? ⟨bx, 1, none⟩ = some x1
  b2 : X.cell? ⟨bx, 2, none⟩ = some x2
  b3 : X.cell? ⟨bx, 3, none⟩ = some x3
theorem Ck.cells {h bx a s : Nat} {x0 x1 x2 x3 : Value} {v : Vl} {F : Nat → Prop} {w X : World} (k : Ck h bx a s #[x0, x1, x2, x3] v F w X) : CkC h bx a s x0 x1 x2 x3 X :=
  ⟨by simp [World.cell?, k.hc], by simp [World.cell?, k.hc], by simp [World.frozen?, k.hc], by simp [World.frozen?, k.hc], by simp [World.cell?, k.hb], by simp [World.cell?, k.hb], by simp [World.cell?, k.hb], by simp [World.cell?, k.hb]⟩
theorem Ck.put0 {h bx a s : Nat} {cs : Array Value} {v : Vl} {F : Nat → Prop} {w X : World} (k : Ck h bx a s cs v F w X) (hF : ¬ F h) (hbx : bx ≠ h) (x : Int) (a2 : Nat) (hx : x = (a2 : Int)) : Ck h bx a2 s cs v F w (X.setCell ⟨h, 0, none⟩ (.int .i64 x)) := by
  subst hx
  have p := put1_row k.hc 0 (.int .i64 (a2 : Int))
  refine k.only ⟨p.os, p.tape, p.output, by rw [p.size]; exact Nat.le_refl _, fun j _ hj => p.block j hj⟩ hF hbx ?_
  simpa using p.row
theorem Ck.put1 {h bx a s : Nat} {cs : Array Value} {v : Vl} {F : Nat → Prop} {w X : World} (k : Ck h bx a s cs v F w X) (hF : ¬ F h) (hbx : bx ≠ h) (x : Int) (s2 : Nat) (hx : x = (s2 : Int)) : Ck h bx a s2 cs v F w (X.setCell ⟨h, 1, none⟩ (.int .i64 x)) := by
  subst hx
  have p := put1_row k.hc 1 (.int .i64 (s2 : Int))
  refine k.only ⟨p.os, p.tape, p.output, by rw [p.size]; exact Nat.le_refl _, fun j _ hj => p.block j hj⟩ hF hbx ?_
  simpa using p.row
theorem KidsAt.get {F : Nat → Prop} {X : World} : ∀ (l : List Vl) (g off i : Nat) (v : Vl), KidsAt F X l g off → l[i]? = some v → ∃ cs, (∀ j u, cs[j]? = some u → X.cell? ⟨g, off + i * 4 + j, none⟩ = some u) ∧ VlAt F X v cs
  | [], g, off, i, v, _, h => by simp at h
  | a :: l, g, off, 0, v, h, hi => by
    simp at hi
    subst hi
    rw [KidsAt] at h
    obtain ⟨⟨cs, h1, h2⟩, _⟩ := h
    exact ⟨cs, fun j u hu => by rw [Nat.zero_mul, Nat.add_zero]; exact h1 j u hu, h2⟩
  | a :: l, g, off, i + 1, v, h, hi => by
    rw [KidsAt] at h
    obtain ⟨cs, h1, h2⟩ := KidsAt.get l g (off + 4) i v h.2 (by simpa using hi)
    exact ⟨cs, fun j u hu => by have := h1 j u hu; rw [show off + (i + 1) * 4 + j = off + 4 + i * 4 + j by omega]; exact this, h2⟩
/-- a value, opened -/
theorem VlAt.open_ {F : Nat → Prop} {X : World} {k : Nat} {t : ByteArray} {ns : List ByteArray} {ks : List Vl} {cs : Array Value} (h : VlAt F X (.mk k t ns ks) cs) : ∃ pn cn pk ck, cs = #[.int .i64 (k : Int), .string t, .slice pn ns.length cn, .slice pk ks.length ck] ∧ NmS pn ns X ∧ ∀ i v, ks[i]? = some v → ∃ g off, pk = some ⟨g, off, none⟩ ∧ ∃ (xk : Int) (xt : ByteArray) (p1 : Option Addr) (n1 c1 : Nat) (p2 : Option Addr) (n2 c2 : Nat), X.cell? ⟨g, off + i * 4, none⟩ = some (.int .i64 xk) ∧ X.cell? ⟨g, off + i * 4 + 1, none⟩ = some (.string xt) ∧ X.cell? ⟨g, off + i * 4 + 2, none⟩ = some (.slice p1 n1 c1) ∧ X.cell? ⟨g, off + i * 4 + 3, none⟩ = some (.slice p2 n2 c2) ∧ VlAt F X v #[.int .i64 xk, .string xt, .slice p1 n1 c1, .slice p2 n2 c2] := by
  rw [VlAt] at h
  obtain ⟨vn, vk, rfl, h1, h2⟩ := h
  obtain ⟨pn, cn, rfl, hn⟩ := h1.nms
  rcases h2 with ⟨rfl, p, c, rfl⟩ | ⟨g, off, c, rfl, h3, h4, h5⟩
  · exact ⟨pn, cn, p, c, rfl, hn, fun i v hi => by simp at hi⟩
  · refine ⟨pn, cn, _, c, rfl, hn, fun i v hi => ⟨g, off, rfl, ?_⟩⟩
    obtain ⟨cs, q1, q2⟩ := KidsAt.get ks g off i v h5 hi
    obtain ⟨xk, xt, p1, n1, c1, p2, n2, c2, rfl⟩ := q2.form
    exact ⟨xk, xt, p1, n1, c1, p2, n2, c2, q1 0 _ rfl, q1 1 _ rfl, q1 2 _ rfl, q1 3 _ rfl, q2⟩
end Go.Proofs.YtkplbggefiemdaaGreatDoor
