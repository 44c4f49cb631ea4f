/-
  A call's answer is put behind others in a row of the call's own, and the row into a box: a region that draws its order. Conditions: as each says.
-/
import Derived.Test.YtkplbggefiemdaaGreatDoorObZA
import Derived.Test.YtkplbggefiemdaaGreatDoorRelR
namespace Go.Proofs.YtkplbggefiemdaaGreatDoor
open Go.RowKit Go.Shelf
set_option linter.unusedVariables false
set_option linter.unusedSimpArgs false
/-- ahead of the append -/
structure CA (G : Value → List Value → World → Prop) (et : Nat) (W0 : World) (l3 l4 : Bool) (f3 f4 : Value) (X : World) : Prop where
  be : Below W0.heap.size W0 X
  g3 : l3 = true → ∃ news, G f3 news X ∧ (l4 = true → ∃ b4, f4 = .slice (some ⟨b4, 0, none⟩) 1 1 ∧ W0.heap.size ≤ b4 ∧ b4 < X.heap.size ∧ X.heap[b4]? = some (.cells news.toArray et (0, 0)))
/-- behind it -/
structure CB (G : Value → List Value → World → Prop) (et sz fo V B n : Nat) (xs : List Value) (vr : Value) (bx : Array Value) (W0 : World) (l7 : Bool) (f5 : Value) (X : World) : Prop where
  ex : ∃ u news X0, G u news X0 ∧ X0.heap.size ≤ X.heap.size ∧ (∀ k, W0.heap.size ≤ k → k < X0.heap.size → X.heap[k]? = X0.heap[k]?) ∧ (∀ b, f5.ownBlock = some b → b < W0.heap.size ∨ X0.heap.size ≤ b) ∧ X.ownsRow B et sz f5 (n + 1) (xs ++ news)
  box : X.heap[V]? = some (.cells (if l7 = true then bx.setIfInBounds fo f5 else bx) 41 (0, 0))
  loc : f5.ownBlock = vr.ownBlock ∨ ∃ b, f5.ownBlock = some b ∧ W0.heap.size ≤ b
  os : X.os = W0.os
  tape : X.tape = W0.tape
  output : X.output = W0.output
  size : W0.heap.size ≤ X.heap.size
  block : ∀ k, k < W0.heap.size → k ≠ V → some k ≠ vr.ownBlock → X.heap[k]? = W0.heap[k]?
/-- what stays as long as what is new stays -/
def GK (G : Value → List Value → World → Prop) (W0 : World) : Prop := ∀ u news X Y, G u news X → X.heap.size ≤ Y.heap.size → (∀ k, W0.heap.size ≤ k → k < X.heap.size → Y.heap[k]? = X.heap[k]?) → G u news Y
structure CI (G : Value → List Value → World → Prop) (et sz fo V B n : Nat) (xs : List Value) (vr xa : Value) (bx : Array Value) (W0 : World) (L : Nat → Bool) (f : Nat → Value) (X : World) : Prop where
  e0 : L 0 = true → f 0 = .pointer (some ⟨V, fo, none⟩)
  e1 : L 1 = true → f 1 = vr
  e2 : L 2 = true → f 2 = xa
  e6 : L 6 = true → f 6 = .pointer (some ⟨V, fo, none⟩)
  dd : (L 1 = true → L 0 = true) ∧ (L 3 = true → L 2 = true) ∧ (L 4 = true → L 3 = true)
  e5 : L 5 = true → ∀ k, k < 5 → L k = true
  m1 : L 5 = false → (L 6 = false ∧ L 7 = false) ∧ CA G et W0 (L 3) (L 4) (f 3) (f 4) X
  m2 : L 5 = true → CB G et sz fo V B n xs vr bx W0 (L 7) (f 5) X
theorem CI.s0 {G : Value → List Value → World → Prop} {et sz fo V B n : Nat} {xs : List Value} {vr xa : Value} {bx : Array Value} {W0 : World} {L : Nat → Bool} {f : Nat → Value} {X : World} {u : Value} (h : CI G et sz fo V B n xs vr xa bx W0 L f X) (h5 : L 5 = false) (hu : u = .pointer (some ⟨V, fo, none⟩)) : ∀ L2 : Nat → Bool, (∀ k, L2 k = if k = 0 then true else L k) → CI G et sz fo V B n xs vr xa bx W0 L2 (upd f 0 u) X := by
  intro L2 hL2
  have hj : ∀ k, k ≠ 0 → L2 k = L k := fun k hk => by rw [hL2, if_neg hk]
  have hi : L2 0 = true := by rw [hL2, if_pos rfl]
  have up : ∀ k, L k = true → L2 k = true := fun k hk => by rw [hL2]; split <;> first | rfl | exact hk
  refine ⟨?_, ?_, ?_, ?_, ?_, ?_, ?_, ?_⟩
  · exact fun _ => hu
  · exact fun x => h.e1 ((hj 1 (by decide)).symm.trans x)
  · exact fun x => h.e2 ((hj 2 (by decide)).symm.trans x)
  · exact fun x => h.e6 ((hj 6 (by decide)).symm.trans x)
  · exact ⟨fun x => up 0 (h.dd.1 ((hj 1 (by decide)).symm.trans x)), fun x => up 2 (h.dd.2.1 ((hj 3 (by decide)).symm.trans x)), fun x => up 3 (h.dd.2.2 ((hj 4 (by decide)).symm.trans x))⟩
  · intro x k hk
    exact up k (h.e5 ((hj 5 (by decide)).symm.trans x) k hk)
  · intro x
    obtain ⟨⟨y1, y2⟩, y⟩ := h.m1 h5
    refine ⟨⟨(hj 6 (by decide)).trans y1, (hj 7 (by decide)).trans y2⟩, ?_⟩
    rw [hj 3 (by decide), hj 4 (by decide)]
    exact y
  · intro x
    rw [hj 5 (by decide), h5] at x
    cases x
theorem CI.s1 {G : Value → List Value → World → Prop} {et sz fo V B n : Nat} {xs : List Value} {vr xa : Value} {bx : Array Value} {W0 : World} {L : Nat → Bool} {f : Nat → Value} {X : World} {u : Value} (h : CI G et sz fo V B n xs vr xa bx W0 L f X) (h5 : L 5 = false) (hu : u = vr) (hd : L 0 = true) : ∀ L2 : Nat → Bool, (∀ k, L2 k = if k = 1 then true else L k) → CI G et sz fo V B n xs vr xa bx W0 L2 (upd f 1 u) X := by
  intro L2 hL2
  have hj : ∀ k, k ≠ 1 → L2 k = L k := fun k hk => by rw [hL2, if_neg hk]
  have hi : L2 1 = true := by rw [hL2, if_pos rfl]
  have up : ∀ k, L k = true → L2 k = true := fun k hk => by rw [hL2]; split <;> first | rfl | exact hk
  refine ⟨?_, ?_, ?_, ?_, ?_, ?_, ?_, ?_⟩
  · exact fun x => h.e0 ((hj 0 (by decide)).symm.trans x)
  · exact fun _ => hu
  · exact fun x => h.e2 ((hj 2 (by decide)).symm.trans x)
  · exact fun x => h.e6 ((hj 6 (by decide)).symm.trans x)
  · exact ⟨fun _ => up 0 hd, fun x => up 2 (h.dd.2.1 ((hj 3 (by decide)).symm.trans x)), fun x => up 3 (h.dd.2.2 ((hj 4 (by decide)).symm.trans x))⟩
  · intro x k hk
    exact up k (h.e5 ((hj 5 (by decide)).symm.trans x) k hk)
  · intro x
    obtain ⟨⟨y1, y2⟩, y⟩ := h.m1 h5
    refine ⟨⟨(hj 6 (by decide)).trans y1, (hj 7 (by decide)).trans y2⟩, ?_⟩
    rw [hj 3 (by decide), hj 4 (by decide)]
    exact y
  · intro x
    rw [hj 5 (by decide), h5] at x
    cases x
theorem CI.s2 {G : Value → List Value → World → Prop} {et sz fo V B n : Nat} {xs : List Value} {vr xa : Value} {bx : Array Value} {W0 : World} {L : Nat → Bool} {f : Nat → Value} {X : World} {u : Value} (h : CI G et sz fo V B n xs vr xa bx W0 L f X) (h5 : L 5 = false) (hu : u = xa) : ∀ L2 : Nat → Bool, (∀ k, L2 k = if k = 2 then true else L k) → CI G et sz fo V B n xs vr xa bx W0 L2 (upd f 2 u) X := by
  intro L2 hL2
  have hj : ∀ k, k ≠ 2 → L2 k = L k := fun k hk => by rw [hL2, if_neg hk]
  have hi : L2 2 = true := by rw [hL2, if_pos rfl]
  have up : ∀ k, L k = true → L2 k = true := fun k hk => by rw [hL2]; split <;> first | rfl | exact hk
  refine ⟨?_, ?_, ?_, ?_, ?_, ?_, ?_, ?_⟩
  · exact fun x => h.e0 ((hj 0 (by decide)).symm.trans x)
  · exact fun x => h.e1 ((hj 1 (by decide)).symm.trans x)
  · exact fun _ => hu
  · exact fun x => h.e6 ((hj 6 (by decide)).symm.trans x)
  · exact ⟨fun x => up 0 (h.dd.1 ((hj 1 (by decide)).symm.trans x)), fun x => up 2 (h.dd.2.1 ((hj 3 (by decide)).symm.trans x)), fun x => up 3 (h.dd.2.2 ((hj 4 (by decide)).symm.trans x))⟩
  · intro x k hk
    exact up k (h.e5 ((hj 5 (by decide)).symm.trans x) k hk)
  · intro x
    obtain ⟨⟨y1, y2⟩, y⟩ := h.m1 h5
    refine ⟨⟨(hj 6 (by decide)).trans y1, (hj 7 (by decide)).trans y2⟩, ?_⟩
    rw [hj 3 (by decide), hj 4 (by decide)]
    exact y
  · intro x
    rw [hj 5 (by decide), h5] at x
    cases x
theorem CI.s3 {G : Value → List Value → World → Prop} {et sz fo V B n : Nat} {xs : List Value} {vr xa : Value} {bx : Array Value} {W0 : World} {L : Nat → Bool} {f : Nat → Value} {X Y : World} {u : Value} (h : CI G et sz fo V B n xs vr xa bx W0 L f X) (h5 : L 5 = false) (hd : L 2 = true) (hn : CA G et W0 (L 3) (L 4) (f 3) (f 4) X → CA G et W0 true (L 4) u (f 4) Y) : ∀ L2 : Nat → Bool, (∀ k, L2 k = if k = 3 then true else L k) → CI G et sz fo V B n xs vr xa bx W0 L2 (upd f 3 u) Y := by
  intro L2 hL2
  have hj : ∀ k, k ≠ 3 → L2 k = L k := fun k hk => by rw [hL2, if_neg hk]
  have hi : L2 3 = true := by rw [hL2, if_pos rfl]
  have up : ∀ k, L k = true → L2 k = true := fun k hk => by rw [hL2]; split <;> first | rfl | exact hk
  refine ⟨?_, ?_, ?_, ?_, ?_, ?_, ?_, ?_⟩
  · exact fun x => h.e0 ((hj 0 (by decide)).symm.trans x)
  · exact fun x => h.e1 ((hj 1 (by decide)).symm.trans x)
  · exact fun x => h.e2 ((hj 2 (by decide)).symm.trans x)
  · exact fun x => h.e6 ((hj 6 (by decide)).symm.trans x)
  · exact ⟨fun x => up 0 (h.dd.1 ((hj 1 (by decide)).symm.trans x)), fun _ => up 2 hd, fun x => up 3 (h.dd.2.2 ((hj 4 (by decide)).symm.trans x))⟩
  · intro x k hk
    exact up k (h.e5 ((hj 5 (by decide)).symm.trans x) k hk)
  · intro x
    obtain ⟨⟨y1, y2⟩, y⟩ := h.m1 h5
    refine ⟨⟨(hj 6 (by decide)).trans y1, (hj 7 (by decide)).trans y2⟩, ?_⟩
    rw [hi, hj 4 (by decide)]
    exact hn y
  · intro x
    rw [hj 5 (by decide), h5] at x
    cases x
theorem CI.s4 {G : Value → List Value → World → Prop} {et sz fo V B n : Nat} {xs : List Value} {vr xa : Value} {bx : Array Value} {W0 : World} {L : Nat → Bool} {f : Nat → Value} {X Y : World} {u : Value} (h : CI G et sz fo V B n xs vr xa bx W0 L f X) (h5 : L 5 = false) (hd : L 3 = true) (hn : CA G et W0 (L 3) (L 4) (f 3) (f 4) X → CA G et W0 (L 3) true (f 3) u Y) : ∀ L2 : Nat → Bool, (∀ k, L2 k = if k = 4 then true else L k) → CI G et sz fo V B n xs vr xa bx W0 L2 (upd f 4 u) Y := by
  intro L2 hL2
  have hj : ∀ k, k ≠ 4 → L2 k = L k := fun k hk => by rw [hL2, if_neg hk]
  have hi : L2 4 = true := by rw [hL2, if_pos rfl]
  have up : ∀ k, L k = true → L2 k = true := fun k hk => by rw [hL2]; split <;> first | rfl | exact hk
  refine ⟨?_, ?_, ?_, ?_, ?_, ?_, ?_, ?_⟩
  · exact fun x => h.e0 ((hj 0 (by decide)).symm.trans x)
  · exact fun x => h.e1 ((hj 1 (by decide)).symm.trans x)
  · exact fun x => h.e2 ((hj 2 (by decide)).symm.trans x)
  · exact fun x => h.e6 ((hj 6 (by decide)).symm.trans x)
  · exact ⟨fun x => up 0 (h.dd.1 ((hj 1 (by decide)).symm.trans x)), fun x => up 2 (h.dd.2.1 ((hj 3 (by decide)).symm.trans x)), fun _ => up 3 hd⟩
  · intro x k hk
    exact up k (h.e5 ((hj 5 (by decide)).symm.trans x) k hk)
  · intro x
    obtain ⟨⟨y1, y2⟩, y⟩ := h.m1 h5
    refine ⟨⟨(hj 6 (by decide)).trans y1, (hj 7 (by decide)).trans y2⟩, ?_⟩
    rw [hj 3 (by decide), hi]
    exact hn y
  · intro x
    rw [hj 5 (by decide), h5] at x
    cases x
theorem CI.s5 {G : Value → List Value → World → Prop} {et sz fo V B n : Nat} {xs : List Value} {vr xa : Value} {bx : Array Value} {W0 : World} {L : Nat → Bool} {f : Nat → Value} {X Y : World} {u : Value} (h : CI G et sz fo V B n xs vr xa bx W0 L f X) (h5 : L 5 = false) (hd : ∀ k, k < 5 → L k = true) (hn : CA G et W0 (L 3) (L 4) (f 3) (f 4) X → CB G et sz fo V B n xs vr bx W0 false u Y) : ∀ L2 : Nat → Bool, (∀ k, L2 k = if k = 5 then true else L k) → CI G et sz fo V B n xs vr xa bx W0 L2 (upd f 5 u) Y := by
  intro L2 hL2
  have hj : ∀ k, k ≠ 5 → L2 k = L k := fun k hk => by rw [hL2, if_neg hk]
  have hi : L2 5 = true := by rw [hL2, if_pos rfl]
  have up : ∀ k, L k = true → L2 k = true := fun k hk => by rw [hL2]; split <;> first | rfl | exact hk
  refine ⟨?_, ?_, ?_, ?_, ?_, ?_, ?_, ?_⟩
  · exact fun x => h.e0 ((hj 0 (by decide)).symm.trans x)
  · exact fun x => h.e1 ((hj 1 (by decide)).symm.trans x)
  · exact fun x => h.e2 ((hj 2 (by decide)).symm.trans x)
  · exact fun x => h.e6 ((hj 6 (by decide)).symm.trans x)
  · exact ⟨fun x => up 0 (h.dd.1 ((hj 1 (by decide)).symm.trans x)), fun x => up 2 (h.dd.2.1 ((hj 3 (by decide)).symm.trans x)), fun x => up 3 (h.dd.2.2 ((hj 4 (by decide)).symm.trans x))⟩
  · intro x k hk
    exact up k (hd k hk)
  · intro x
    rw [hi] at x
    cases x
  · intro x
    obtain ⟨⟨y1, y2⟩, y⟩ := h.m1 h5
    rw [hj 7 (by decide), y2]
    exact hn y
theorem CI.s6 {G : Value → List Value → World → Prop} {et sz fo V B n : Nat} {xs : List Value} {vr xa : Value} {bx : Array Value} {W0 : World} {L : Nat → Bool} {f : Nat → Value} {X : World} {u : Value} (h : CI G et sz fo V B n xs vr xa bx W0 L f X) (h5 : L 5 = true) (hu : u = .pointer (some ⟨V, fo, none⟩)) : ∀ L2 : Nat → Bool, (∀ k, L2 k = if k = 6 then true else L k) → CI G et sz fo V B n xs vr xa bx W0 L2 (upd f 6 u) X := by
  intro L2 hL2
  have hj : ∀ k, k ≠ 6 → L2 k = L k := fun k hk => by rw [hL2, if_neg hk]
  have hi : L2 6 = true := by rw [hL2, if_pos rfl]
  have up : ∀ k, L k = true → L2 k = true := fun k hk => by rw [hL2]; split <;> first | rfl | exact hk
  refine ⟨?_, ?_, ?_, ?_, ?_, ?_, ?_, ?_⟩
  · exact fun x => h.e0 ((hj 0 (by decide)).symm.trans x)
  · exact fun x => h.e1 ((hj 1 (by decide)).symm.trans x)
  · exact fun x => h.e2 ((hj 2 (by decide)).symm.trans x)
  · exact fun _ => hu
  · exact ⟨fun x => up 0 (h.dd.1 ((hj 1 (by decide)).symm.trans x)), fun x => up 2 (h.dd.2.1 ((hj 3 (by decide)).symm.trans x)), fun x => up 3 (h.dd.2.2 ((hj 4 (by decide)).symm.trans x))⟩
  · intro x k hk
    exact up k (h.e5 ((hj 5 (by decide)).symm.trans x) k hk)
  · intro x
    rw [hj 5 (by decide), h5] at x
    cases x
  · intro x
    rw [hj 7 (by decide)]
    exact h.m2 h5
theorem CI.s7 {G : Value → List Value → World → Prop} {et sz fo V B n : Nat} {xs : List Value} {vr xa : Value} {bx : Array Value} {W0 : World} {L : Nat → Bool} {f : Nat → Value} {X Y : World} {u : Value} (h : CI G et sz fo V B n xs vr xa bx W0 L f X) (h5 : L 5 = true) (hn : CB G et sz fo V B n xs vr bx W0 (L 7) (f 5) X → CB G et sz fo V B n xs vr bx W0 true (f 5) Y) : ∀ L2 : Nat → Bool, (∀ k, L2 k = if k = 7 then true else L k) → CI G et sz fo V B n xs vr xa bx W0 L2 (upd f 7 u) Y := by
  intro L2 hL2
  have hj : ∀ k, k ≠ 7 → L2 k = L k := fun k hk => by rw [hL2, if_neg hk]
  have hi : L2 7 = true := by rw [hL2, if_pos rfl]
  have up : ∀ k, L k = true → L2 k = true := fun k hk => by rw [hL2]; split <;> first | rfl | exact hk
  refine ⟨?_, ?_, ?_, ?_, ?_, ?_, ?_, ?_⟩
  · exact fun x => h.e0 ((hj 0 (by decide)).symm.trans x)
  · exact fun x => h.e1 ((hj 1 (by decide)).symm.trans x)
  · exact fun x => h.e2 ((hj 2 (by decide)).symm.trans x)
  · exact fun x => h.e6 ((hj 6 (by decide)).symm.trans x)
  · exact ⟨fun x => up 0 (h.dd.1 ((hj 1 (by decide)).symm.trans x)), fun x => up 2 (h.dd.2.1 ((hj 3 (by decide)).symm.trans x)), fun x => up 3 (h.dd.2.2 ((hj 4 (by decide)).symm.trans x))⟩
  · intro x k hk
    exact up k (h.e5 ((hj 5 (by decide)).symm.trans x) k hk)
  · intro x
    rw [hj 5 (by decide), h5] at x
    cases x
  · intro x
    rw [hi]
    exact hn (h.m2 h5)
theorem CA.call {G : Value → List Value → World → Prop} {et : Nat} {W0 : World} {l4 : Bool} {f3 f4 u : Value} {X Y : World} (h : CA G et W0 false l4 f3 f4 X) (hl4 : l4 = false) (hb : Below X.heap.size X Y) (hg : ∃ news, G u news Y) : CA G et W0 true l4 u f4 Y := by
  subst hl4
  obtain ⟨news, hg⟩ := hg
  exact ⟨h.be.trans ⟨hb.os, hb.tape, hb.output, hb.size, fun j hj => hb.block j (by have := h.be.size; omega)⟩, fun _ => ⟨news, hg, fun x => by cases x⟩⟩
theorem CA.build {G : Value → List Value → World → Prop} {et : Nat} {W0 : World} {l4 : Bool} {f3 f4 : Value} {X : World} {cells : Array Value} (h : CA G et W0 true l4 f3 f4 X) (hk : GK G W0) (hc : ∀ news, G f3 news X → news.toArray = cells) : CA G et W0 true true f3 (.slice (some ⟨X.heap.size, 0, none⟩) 1 1) (X.alloc (.cells cells et)) := by
  obtain ⟨news, hg, _⟩ := h.g3 rfl
  have hb := (Below.refl X.heap.size X).alloc (Nat.le_refl _) (.cells cells et)
  refine ⟨h.be.alloc h.be.size _, fun _ => ⟨news, hk _ _ _ _ hg hb.size (fun k _ hl => hb.block k hl), fun _ => ⟨X.heap.size, rfl, h.be.size, by simp, ?_⟩⟩⟩
  rw [hc news hg]
  exact heap_alloc_new X _
theorem CA.append {G : Value → List Value → World → Prop} {et sz fo V B n : Nat} {xs : List Value} {vr : Value} {bx : Array Value} {W0 : World} {f3 f4 v' : Value} {X Y : World} {news : List Value} (h : CA G et W0 true true f3 f4 X) (hk : GK G W0) (hg : G f3 news X) (hown0 : W0.ownsRow B et sz vr n xs) (hbox : W0.heap[V]? = some (.cells bx 41 (0, 0))) (hVr : vr.ownBlock ≠ some V) (hown : Y.ownsRow B et sz v' (n + 1) (xs ++ news)) (hgr : X.grownBy Y vr.ownBlock) (hloc : v'.ownBlock = vr.ownBlock ∨ v'.ownBlock = some X.heap.size) : CB G et sz fo V B n xs vr bx W0 false v' Y := by
  have hrl := own_row_lt hown0
  have hs := h.be.size
  have hs2 := hgr.size
  have hb : ∀ k, k < W0.heap.size → some k ≠ vr.ownBlock → Y.heap[k]? = W0.heap[k]? := fun k hk hr => (hgr.block k (by omega) hr).trans (h.be.block k hk)
  refine ⟨⟨f3, news, X, hg, hs2, fun k h1 h2 => hgr.block k h2 (fun e => by have := (hrl k e.symm).2; omega), fun b hb => (by rcases hloc with l | l; exact .inl (hrl b (l.symm.trans hb)).2; exact .inr (by rw [l] at hb; simp at hb; omega)), hown⟩, (hb V (Array.getElem?_eq_some_iff.1 hbox).1 (fun e => hVr e.symm)).trans hbox, hloc.imp id (fun e => ⟨_, e, hs⟩), hgr.os.trans h.be.os, hgr.tape.trans h.be.tape, hgr.output.trans h.be.output, by omega, fun k h1 _ h3 => hb k h1 h3⟩
theorem CB.hang {G : Value → List Value → World → Prop} {et sz fo V B n : Nat} {xs : List Value} {vr : Value} {bx : Array Value} {W0 : World} {l7 : Bool} {f5 : Value} {X : World} (h : CB G et sz fo V B n xs vr bx W0 l7 f5 X) (h7 : l7 = false) (hk : GK G W0) (hV : V < W0.heap.size) (hVr : vr.ownBlock ≠ some V) : CB G et sz fo V B n xs vr bx W0 true f5 (X.setCell ⟨V, fo, none⟩ f5) := by
  subst h7
  have hbx := h.box
  rw [if_neg (by decide)] at hbx
  have hp := put1_row hbx fo f5
  obtain ⟨u, news, X0, hg, hg2, hg3, hg4, ho⟩ := h.ex
  refine ⟨⟨u, news, X0, hg, by rw [hp.size]; exact hg2, fun k h1 h2 => (hp.block k (by omega)).trans (hg3 k h1 h2), hg4, own_keptO ho fun k hkk => hp.block k fun e => ?_⟩, by rw [if_pos rfl]; exact hp.row, h.loc, hp.os.trans h.os, hp.tape.trans h.tape, hp.output.trans h.output, by rw [hp.size]; exact h.size, fun k h1 h2 h3 => (hp.block k h2).trans (h.block k h1 h2 h3)⟩
  subst e
  rcases h.loc with l | ⟨b, l, hb⟩
  · exact hVr (l.symm.trans hkk)
  · rw [l] at hkk
    simp at hkk
    omega
theorem build_four (a : Int) (b : ByteArray) (p1 : Option Addr) (n1 c1 : Nat) (p2 : Option Addr) (n2 c2 : Nat) (w : World) : (Instr.buildSlice 39 1 #[(0, .agg #[.int .i64 a, .string b, .slice p1 n1 c1, .slice p2 n2 c2])]).run Tryz.prog w = .ok (.slice (some ⟨w.heap.size, 0, none⟩) 1 1) (w.alloc (.cells #[.int .i64 a, .string b, .slice p1 n1 c1, .slice p2 n2 c2] 41)) := by
  obtain ⟨i0, hi, hz0, hz1, _⟩ := info_parts infoV
  refine run_buildSlice w 39 41 1 _ #[.int .i64 a, .string b, .slice p1 n1 c1, .slice p2 n2 c2] i0 (.agg zr4) Tryz.underlying39 hi hz0 (by rw [hz1]; decide) (by rw [hz1]; decide) ?_
  rw [hz1]
  kernel_rfl
theorem append_four (w : World) (B : Nat) (v : Value) (n : Nat) (xs : List Value) (a : Int) (b : ByteArray) (p1 : Option Addr) (n1 c1 : Nat) (p2 : Option Addr) (n2 c2 : Nat) (h : w.ownsRow B 41 4 v n xs) (b5 : Nat) (h5 : w.heap[b5]? = some (.cells #[.int .i64 a, .string b, .slice p1 n1 c1, .slice p2 n2 c2] 41 (0, 0))) (hn : n ≤ 65536) (hB : B ≤ w.heap.size) (ty : TypeId) :
    ∃ v' w', (Builtin.append_ #[39, 39] ty #[v, .slice (some ⟨b5, 0, none⟩) 1 1]).run Tryz.prog w = .ok v' w' ∧ w'.ownsRow B 41 4 v' (n + 1) (xs ++ [.int .i64 a, .string b, .slice p1 n1 c1, .slice p2 n2 c2]) ∧ w.grownBy w' v.ownBlock ∧ (v'.ownBlock = v.ownBlock ∨ v'.ownBlock = some w.heap.size) := by
  obtain ⟨i0, hi, hz0, hz1, hz2⟩ := info_parts infoV
  obtain ⟨v', w', a1, a2, a3, a4, a5⟩ := run_append_own_at (P := Tryz.prog) (w := w) B 39 ty 41 i0 (.agg zr4) 4 72 Tryz.underlying39 hi hz0 hz1 hz2 rfl (by decide) v n xs h ⟨b5, 0, none⟩ 1 1 [.int .i64 a, .string b, .slice p1 n1 c1, .slice p2 n2 c2] rfl (fun j u hj => by
      have hj2 : (#[.int .i64 a, .string b, .slice p1 n1 c1, .slice p2 n2 c2] : Array Value)[j]? = some u := by
        have : (#[.int .i64 a, .string b, .slice p1 n1 c1, .slice p2 n2 c2] : Array Value).toList[j]? = some u := hj
        simpa using this
      have ha : (⟨b5, 0, none⟩ : Addr).add j = ⟨b5, j, none⟩ := by
        by_cases h0 : j = 0
        · subst h0; rfl
        · simp [Addr.add, h0]
      rw [ha]
      simp only [World.cell?, h5]
      simpa using hj2) (by simp [Value.oneCell']) (by unfold maxLen; omega) (by omega) hB
  exact ⟨v', w', a1, a2, a3, a5⟩
end Go.Proofs.YtkplbggefiemdaaGreatDoor
