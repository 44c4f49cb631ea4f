/-
  object: a list, a name. Conditions: as each says.
-/
import Derived.Test.YtkplbggefiemdaaGreatDoorObJ
import Derived.Test.YtkplbggefiemdaaGreatDoorRelR
import Derived.Great.BuildSlice
import Derived.Maps.OwnSet
namespace Go.Proofs.YtkplbggefiemdaaGreatDoor
open Go.RowKit Go.Shelf
set_option linter.unusedVariables false
set_option linter.unusedSimpArgs false
/-- nothing has turned but two blocks and a row -/
structure Kp (g V : Nat) (row : Option Nat) (w w' : World) : Prop where
  os : w'.os = w.os
  tape : w'.tape = w.tape
  output : w'.output = w.output
  size : w.heap.size ≤ w'.heap.size
  block : ∀ k, k < w.heap.size → k ≠ g → k ≠ V → some k ≠ row → w'.heap[k]? = w.heap[k]?
theorem Kp.of_only {g V : Nat} {row : Option Nat} {w w' : World} (h : Only g w w') : Kp g V row w w' := ⟨h.os, h.tape, h.output, h.size, fun k hk hg _ _ => h.block k hk hg⟩
/-- values in a row, and the row in a box -/
structure KJ (V B : Nat) (D : Nat → Prop) (kk ss vn vk : Value) (ks : List Vl) (xs : List Value) (F : Nat → Prop) (w : World) : Prop where
  own : w.ownsRow B 41 4 vk ks.length xs
  kids : KidsL F w ks xs
  fF : ∀ k, F k → B ≤ k ∧ k < w.heap.size ∧ some k ≠ vk.ownBlock ∧ k ≠ V ∧ ¬ D k
  box : w.heap[V]? = some (.cells #[kk, ss, vn, vk] 41 (0, 0))
  rowV : vk.ownBlock ≠ some V
  BV : B ≤ V
theorem KJ.lt {V B : Nat} {D : Nat → Prop} {kk ss vn vk : Value} {ks : List Vl} {xs : List Value} {F : Nat → Prop} {w : World} (h : KJ V B D kk ss vn vk ks xs F w) : V < w.heap.size := (Array.getElem?_eq_some_iff.1 h.box).1
theorem own_row_lt {w : World} {B e n sz : Nat} {v : Value} {xs : List Value} (h : w.ownsRow B e sz v n xs) (k : Nat) (hk : v.ownBlock = some k) : B ≤ k ∧ k < w.heap.size := by
  rcases h.2 with ⟨rfl, _⟩ | ⟨g, cap, cur, rfl, h1, h2, _⟩
  · cases hk
  · have : g = k := by simpa [Value.ownBlock] using hk
    subst this
    exact ⟨h1, (Array.getElem?_eq_some_iff.1 h2).1⟩
theorem KJ.keep {V B : Nat} {D : Nat → Prop} {kk ss vn vk : Value} {ks : List Vl} {xs : List Value} {F : Nat → Prop} {w w' : World} (h : KJ V B D kk ss vn vk ks xs F w) (hs : w.heap.size ≤ w'.heap.size) (hb : ∀ k, B ≤ k → k < w.heap.size → w'.heap[k]? = w.heap[k]?) : KJ V B D kk ss vn vk ks xs F w' := by
  refine ⟨own_keptO h.own fun k hk => ?_, KidsL.keep (fun _ x => x) (fun k hk hl => hb k (h.fF k hk).1 hl) hs _ _ h.kids, fun k hk => ?_, (hb V h.BV h.lt).trans h.box, h.rowV, h.BV⟩
  · obtain ⟨a, b⟩ := own_row_lt h.own k hk
    exact hb k a b
  · obtain ⟨a, b, c, d⟩ := h.fF k hk
    exact ⟨a, by omega, c, d.1, d.2⟩
/-- ahead of the append -/
def PhA (g : Nat) (S : ByteArray) (d p q : Nat) (v : Vl) (W0 : World) (l3 l5 : Bool) (f3 f5 : Value) (X : World) : Prop :=
  Only g W0 X ∧ ∃ F : Nat → Prop, (∀ k, F k → W0.heap.size ≤ k ∧ k < X.heap.size) ∧ (if l3 = true then Rr g S q d X ∧ ∃ cs, f3 = .agg cs ∧ VlAt F X v cs else Rr g S p d X) ∧
  (l5 = true → ∃ b5, f5 = .slice (some ⟨b5, 0, none⟩) 1 1 ∧ W0.heap.size ≤ b5 ∧ b5 < X.heap.size ∧ X.heap[b5]? = some (.cells zr4 41 (0, 0)) ∧ ¬ F b5)
/-- behind it -/
def PhB (g V : Nat) (S : ByteArray) (d q B : Nat) (D : Nat → Prop) (v : Vl) (ks : List Vl) (xs : List Value) (kk ss vn vk : Value) (W0 : World) (l8 l10 : Bool) (f3 f6 : Value) (X : World) : Prop :=
  ∃ (F : Nat → Prop) (g' cap : Nat) (a b c e : Value), f3 = .agg #[a, b, c, e] ∧ f6 = .slice (some ⟨g', 0, none⟩) (ks.length + 1) cap ∧ Kp g V vk.ownBlock W0 X ∧ Rr g S q d X ∧ VlAt F X v #[a, b, c, e] ∧ KidsL F X ks xs ∧ (∀ k, F k → B ≤ k ∧ k < X.heap.size ∧ k ≠ g' ∧ k ≠ V ∧ ¬ D k) ∧ B ≤ g' ∧ g' ≠ V ∧
  X.ownsRow B 41 4 f6 (ks.length + 1) (xs ++ (if l8 = true then [a, b, c, e] else [.int .i64 0, .string ByteArray.empty, .slice none 0 0, .slice none 0 0])) ∧ X.heap[V]? = some (.cells #[kk, ss, vn, if l10 = true then f6 else vk] 41 (0, 0))
theorem PhA.call {g : Nat} {S : ByteArray} {d p q : Nat} {v : Vl} {W0 : World} {l5 : Bool} {f3 f5 : Value} {X Y : World} (h : PhA g S d p q v W0 false l5 f3 f5 X) (hg : g < W0.heap.size) (cs : Array Value) (hr : Rr g S q d Y) (ho : Only g X Y) (hv : ∃ F : Nat → Prop, (∀ k, F k → X.heap.size ≤ k ∧ k < Y.heap.size) ∧ VlAt F Y v cs) : PhA g S d p q v W0 true l5 (.agg cs) f5 Y := by
  obtain ⟨h1, F0, h2, h3, h4⟩ := h
  obtain ⟨F, hF, hv⟩ := hv
  refine ⟨h1.trans ho, F, fun k hk => ?_, ?_, fun hl => ?_⟩
  · have := hF k hk; have := h1.size; omega
  · rw [if_pos rfl]
    exact ⟨hr, cs, rfl, hv⟩
  · obtain ⟨b5, x1, x2, x3, x4, x5⟩ := h4 hl
    have := ho.size
    exact ⟨b5, x1, x2, by omega, (ho.block b5 x3 (by omega)).trans x4, fun hk => by have := hF b5 hk; omega⟩
theorem PhA.build {g : Nat} {S : ByteArray} {d p q : Nat} {v : Vl} {W0 : World} {l3 l5 : Bool} {f3 f5 : Value} {X : World} (h : PhA g S d p q v W0 l3 l5 f3 f5 X) (hg : g < W0.heap.size) : PhA g S d p q v W0 l3 true f3 (.slice (some ⟨X.heap.size, 0, none⟩) 1 1) (X.alloc (.cells zr4 41)) := by
  obtain ⟨h1, F, h2, h3, h4⟩ := h
  have hb : ∀ k, k < X.heap.size → (X.alloc (.cells zr4 41)).heap[k]? = X.heap[k]? := fun k hk => ((Below.refl X.heap.size X).alloc (Nat.le_refl _) _).block k hk
  refine ⟨h1.alloc _, F, fun k hk => ?_, ?_, fun hl => ⟨X.heap.size, rfl, h1.size, by simp, heap_alloc_new X _, fun hk => by have := h2 _ hk; omega⟩⟩
  · have := h2 k hk; rw [World.size_alloc]; omega
  · cases l3
    · rw [if_neg (by decide)] at h3 ⊢
      exact ⟨(hb g h3.lt).trans h3.row, h3.le⟩
    · rw [if_pos rfl] at h3 ⊢
      obtain ⟨hr, cs, hc, hv⟩ := h3
      exact ⟨⟨(hb g hr.lt).trans hr.row, hr.le⟩, cs, hc, VlAt.keep (fun _ x => x) (fun k _ hl => hb k hl) (by rw [World.size_alloc]; omega) _ _ hv⟩
theorem PhA.append {g V : Nat} {S : ByteArray} {d p q B : Nat} {D : Nat → Prop} {v : Vl} {ks : List Vl} {xs : List Value} {kk ss vn vk : Value} {F0 : Nat → Prop} {W0 : World} {f3 f5 v' : Value} {X Y : World} (h : PhA g S d p q v W0 true true f3 f5 X) (hk : KJ V B D kk ss vn vk ks xs F0 W0) (hgB : g < B) (hD : ∀ k, D k → k < W0.heap.size) (hown : Y.ownsRow B 41 4 v' (ks.length + 1) (xs ++ [.int .i64 0, .string ByteArray.empty, .slice none 0 0, .slice none 0 0])) (hgr : X.grownBy Y vk.ownBlock) (hloc : v'.ownBlock = vk.ownBlock ∨ v'.ownBlock = some X.heap.size) : PhB g V S d q B D v ks xs kk ss vn vk W0 false false f3 v' Y := by
  obtain ⟨h1, F, h2, h3, h4⟩ := h
  rw [if_pos rfl] at h3
  obtain ⟨hr, cs, rfl, hv⟩ := h3
  obtain ⟨a, b, c, e, rfl⟩ := hv.shape
  obtain ⟨g', cap, rfl, q1, q2, q3, q4⟩ := own4_open hown
  have hWX := h1.size
  have hXY := hgr.size
  have hrl : ∀ k, vk.ownBlock = some k → B ≤ k ∧ k < W0.heap.size := own_row_lt hk.own
  have hVlt := hk.lt
  have hBV := hk.BV
  have hgV : some g ≠ vk.ownBlock := fun e => by have := hrl g e.symm; omega
  have hbW : ∀ k, B ≤ k → k < W0.heap.size → some k ≠ vk.ownBlock → Y.heap[k]? = W0.heap[k]? := fun k x1 x2 x3 => (hgr.block k (by omega) x3).trans (h1.block k x2 (by omega))
  have hg' : some g' = vk.ownBlock ∨ g' = X.heap.size := by
    rcases hloc with e | e
    · exact .inl e
    · exact .inr (by simpa [Value.ownBlock] using e)
  refine ⟨fun k => F k ∨ F0 k, g', cap, a, b, c, e, rfl, rfl, ⟨hgr.os.trans h1.os, hgr.tape.trans h1.tape, hgr.output.trans h1.output, by omega, fun k x1 x2 x3 x4 => (hgr.block k (by omega) x4).trans (h1.block k x1 x2)⟩, ⟨(hgr.block g hr.lt hgV).trans hr.row, hr.le⟩, ?_, ?_, ?_, q1, ?_, hown, ?_⟩
  · refine VlAt.keep (fun k hk => .inl hk) (fun k hk hl => hgr.block k hl fun e => ?_) hXY _ _ hv
    have := hrl k e.symm
    have := h2 k hk
    omega
  · exact KidsL.keep (fun k hk => .inr hk) (fun k hF hl => hbW k (hk.fF k hF).1 hl (hk.fF k hF).2.2.1) (by omega) _ _ hk.kids
  · rintro k (hF | hF)
    · have := h2 k hF
      refine ⟨by omega, by omega, fun e => ?_, by omega, fun e => by have := hD k e; omega⟩
      subst e
      rcases hg' with e | e
      · have := hrl k e.symm
        omega
      · omega
    · obtain ⟨x1, x2, x3, x4⟩ := hk.fF k hF
      refine ⟨x1, by omega, fun e => ?_, x4⟩
      subst e
      rcases hg' with e | e
      · exact x3 e
      · omega
  · intro e
    subst e
    rcases hg' with e | e
    · exact hk.rowV e.symm
    · omega
  · exact (hbW V hBV hVlt (fun e => hk.rowV e.symm)).trans hk.box
theorem PhB.put {g V : Nat} {S : ByteArray} {d q B : Nat} {D : Nat → Prop} {v : Vl} {ks : List Vl} {xs : List Value} {kk ss vn vk : Value} {W0 : World} {l8 l10 : Bool} {g' cap : Nat} {a b c e : Value} {X : World} (h : PhB g V S d q B D v ks xs kk ss vn vk W0 l8 l10 (.agg #[a, b, c, e]) (.slice (some ⟨g', 0, none⟩) (ks.length + 1) cap) X) (hgB : g < B) (hx : xs.length = ks.length * 4) (hrow : some g' = vk.ownBlock ∨ W0.heap.size ≤ g') : PhB g V S d q B D v ks xs kk ss vn vk W0 true l10 (.agg #[a, b, c, e]) (.slice (some ⟨g', 0, none⟩) (ks.length + 1) cap) (put4 X g' (ks.length * 4) a b c e) := by
  obtain ⟨F, g2, cap2, a2, b2, c2, e2, h1, h2, h3, h4, h5, h6, h7, h8, h9, h10, h11⟩ := h
  obtain ⟨rfl, rfl, rfl, rfl⟩ : a2 = a ∧ b2 = b ∧ c2 = c ∧ e2 = e := by simp at h1; exact ⟨h1.1.symm, h1.2.1.symm, h1.2.2.1.symm, h1.2.2.2.symm⟩
  obtain ⟨rfl, rfl⟩ : g2 = g' ∧ cap2 = cap := by simp at h2; omega
  obtain ⟨z1, z2, z3, z4, hz⟩ : ∃ z1 z2 z3 z4, (if l8 = true then [a2, b2, c2, e2] else [.int .i64 0, .string ByteArray.empty, .slice none 0 0, .slice none 0 0]) = [z1, z2, z3, z4] := by
    cases l8
    · exact ⟨_, _, _, _, rfl⟩
    · exact ⟨_, _, _, _, rfl⟩
  rw [hz] at h10
  obtain ⟨o1, cur, hp⟩ := own4_put a2 b2 c2 e2 hx h10
  refine ⟨F, g2, cap2, a2, b2, c2, e2, rfl, rfl, ⟨hp.os.trans h3.os, hp.tape.trans h3.tape, hp.output.trans h3.output, by have := h3.size; rw [hp.size]; omega, fun k x1 x2 x3 x4 => (hp.block k fun e => ?_).trans (h3.block k x1 x2 x3 x4)⟩, ⟨(hp.block g (by omega)).trans h4.row, h4.le⟩, ?_, ?_, fun k hk => (by rw [hp.size]; exact h7 k hk), h8, h9, o1, (hp.block V (Ne.symm h9)).trans h11⟩
  · subst e
    rcases hrow with e | e
    · exact x4 e
    · omega
  · exact VlAt.keep (fun _ x => x) (fun k hk _ => hp.block k (h7 k hk).2.2.1) (by rw [hp.size]; omega) _ _ h5
  · exact KidsL.keep (fun _ x => x) (fun k hk _ => hp.block k (h7 k hk).2.2.1) (by rw [hp.size]; omega) _ _ h6
theorem PhB.hang {g V : Nat} {S : ByteArray} {d q B : Nat} {D : Nat → Prop} {v : Vl} {ks : List Vl} {xs : List Value} {kk ss vn vk : Value} {W0 : World} {l8 l10 : Bool} {f3 f6 : Value} {X : World} (h : PhB g V S d q B D v ks xs kk ss vn vk W0 l8 l10 f3 f6 X) (hgV : g ≠ V) : PhB g V S d q B D v ks xs kk ss vn vk W0 l8 true f3 f6 (X.setCell ⟨V, 3, none⟩ f6) := by
  obtain ⟨F, g2, cap2, a2, b2, c2, e2, h1, h2, h3, h4, h5, h6, h7, h8, h9, h10, h11⟩ := h
  have hp := put1_row h11 3 f6
  refine ⟨F, g2, cap2, a2, b2, c2, e2, h1, h2, ⟨hp.os.trans h3.os, hp.tape.trans h3.tape, hp.output.trans h3.output, by have := h3.size; rw [hp.size]; omega, fun k x1 x2 x3 x4 => (hp.block k x3).trans (h3.block k x1 x2 x3 x4)⟩, ⟨(hp.block g hgV).trans h4.row, h4.le⟩, ?_, ?_, fun k hk => (by rw [hp.size]; exact h7 k hk), h8, h9, ?_, ?_⟩
  · exact VlAt.keep (fun _ x => x) (fun k hk _ => hp.block k (h7 k hk).2.2.2.1) (by rw [hp.size]; omega) _ _ h5
  · exact KidsL.keep (fun _ x => x) (fun k hk _ => hp.block k (h7 k hk).2.2.2.1) (by rw [hp.size]; omega) _ _ h6
  · refine own_keptO h10 fun k hk => hp.block k fun e => ?_
    rw [h2] at hk
    exact h9 (by simp [Value.ownBlock] at hk; omega)
  · have := hp.row
    simpa using this
theorem PhB.done {g V : Nat} {S : ByteArray} {d q B : Nat} {D : Nat → Prop} {v : Vl} {ks : List Vl} {xs : List Value} {kk ss vn vk : Value} {W0 : World} {f3 f6 : Value} {X : World} (h : PhB g V S d q B D v ks xs kk ss vn vk W0 true true f3 f6 X) (hBV : B ≤ V) : Kp g V vk.ownBlock W0 X ∧ Rr g S q d X ∧ ∃ xs' F, KJ V B D kk ss vn f6 (ks ++ [v]) xs' F X := by
  obtain ⟨F, g2, cap2, a2, b2, c2, e2, h1, h2, h3, h4, h5, h6, h7, h8, h9, h10, h11⟩ := h
  refine ⟨h3, h4, xs ++ [a2, b2, c2, e2], F, ⟨?_, KidsL.snoc h5 _ _ h6, fun k hk => ?_, by simpa using h11, ?_, hBV⟩⟩
  · rw [List.length_append]
    exact h10
  · obtain ⟨x1, x2, x3, x4⟩ := h7 k hk
    refine ⟨x1, x2, fun e => ?_, x4⟩
    rw [h2] at e
    exact x3 (by simpa [Value.ownBlock] using e)
  · intro e
    rw [h2] at e
    exact h9 (by simpa [Value.ownBlock] using e)
/-- what is known within the region -/
structure KI (g V : Nat) (S : ByteArray) (d p q B : Nat) (D : Nat → Prop) (v : Vl) (ks : List Vl) (xs : List Value) (kk ss vn vk : Value) (W0 : World) (L : Nat → Bool) (f : Nat → Value) (X : World) : Prop where
  e0 : L 0 = true → f 0 = .pointer (some ⟨V, 3, none⟩)
  e1 : L 1 = true → f 1 = vk
  e2 : L 2 = true → f 2 = .pointer (some ⟨g, 0, none⟩)
  e4 : L 4 = true → f 4 = .int .i64 (ks.length : Int)
  e7 : L 7 = true → ∃ g' cap, f 6 = .slice (some ⟨g', 0, none⟩) (ks.length + 1) cap ∧ f 7 = .pointer (some ⟨g', ks.length * 4, none⟩)
  e9 : L 9 = true → f 9 = .pointer (some ⟨V, 3, none⟩)
  e6 : L 6 = true → (∀ k, k < 6 → L k = true) ∧ ∃ g' cap, f 6 = .slice (some ⟨g', 0, none⟩) (ks.length + 1) cap ∧ (some g' = vk.ownBlock ∨ W0.heap.size ≤ g')
  m1 : L 6 = false → (L 7 = false ∧ L 8 = false ∧ L 9 = false ∧ L 10 = false) ∧ PhA g S d p q v W0 (L 3) (L 5) (f 3) (f 5) X
  m2 : L 6 = true → PhB g V S d q B D v ks xs kk ss vn vk W0 (L 8) (L 10) (f 3) (f 6) X
theorem KI.s0 {g V : Nat} {S : ByteArray} {d p q B : Nat} {D : Nat → Prop} {v : Vl} {ks : List Vl} {xs : List Value} {kk ss vn vk : Value} {W0 : World} {L : Nat → Bool} {f : Nat → Value} {X : World} {u : Value} (h : KI g V S d p q B D v ks xs kk ss vn vk W0 L f X) (h6 : L 6 = false) (hu : u = .pointer (some ⟨V, 3, none⟩)) : ∀ L2 : Nat → Bool, (∀ k, L2 k = if k = 0 then true else L k) → KI g V S d p q B D v ks xs kk ss vn vk W0 L2 (upd f 0 u) X := by
  intro L2 hL2
  have hj : ∀ k, k ≠ 0 → L2 k = L k := fun k hk => by rw [hL2, if_neg hk]
  have hi : L2 0 = true := by rw [hL2, if_pos rfl]
  refine ⟨?_, ?_, ?_, ?_, ?_, ?_, ?_, ?_, ?_⟩
  · exact fun _ => hu
  · exact fun x => h.e1 ((hj 1 (by decide)).symm.trans x)
  · exact fun x => h.e2 ((hj 2 (by decide)).symm.trans x)
  · exact fun x => h.e4 ((hj 4 (by decide)).symm.trans x)
  · exact fun x => h.e7 ((hj 7 (by decide)).symm.trans x)
  · exact fun x => h.e9 ((hj 9 (by decide)).symm.trans x)
  · intro x
    have y := h.e6 ((hj 6 (by decide)).symm.trans x)
    exact ⟨fun k hk => (by rw [hL2]; split <;> first | rfl | exact y.1 k hk), y.2⟩
  · intro x
    obtain ⟨⟨y1, y2, y3, y4⟩, y⟩ := h.m1 h6
    refine ⟨⟨(hj 7 (by decide)).trans y1, (hj 8 (by decide)).trans y2, (hj 9 (by decide)).trans y3, (hj 10 (by decide)).trans y4⟩, ?_⟩
    rw [hj 3 (by decide), hj 5 (by decide)]
    exact y
  · intro x
    rw [hj 6 (by decide), h6] at x
    cases x
theorem KI.s1 {g V : Nat} {S : ByteArray} {d p q B : Nat} {D : Nat → Prop} {v : Vl} {ks : List Vl} {xs : List Value} {kk ss vn vk : Value} {W0 : World} {L : Nat → Bool} {f : Nat → Value} {X : World} {u : Value} (h : KI g V S d p q B D v ks xs kk ss vn vk W0 L f X) (h6 : L 6 = false) (hu : u = vk) : ∀ L2 : Nat → Bool, (∀ k, L2 k = if k = 1 then true else L k) → KI g V S d p q B D v ks xs kk ss vn vk W0 L2 (upd f 1 u) X := by
  intro L2 hL2
  have hj : ∀ k, k ≠ 1 → L2 k = L k := fun k hk => by rw [hL2, if_neg hk]
  have hi : L2 1 = true := by rw [hL2, if_pos rfl]
  refine ⟨?_, ?_, ?_, ?_, ?_, ?_, ?_, ?_, ?_⟩
  · exact fun x => h.e0 ((hj 0 (by decide)).symm.trans x)
  · exact fun _ => hu
  · exact fun x => h.e2 ((hj 2 (by decide)).symm.trans x)
  · exact fun x => h.e4 ((hj 4 (by decide)).symm.trans x)
  · exact fun x => h.e7 ((hj 7 (by decide)).symm.trans x)
  · exact fun x => h.e9 ((hj 9 (by decide)).symm.trans x)
  · intro x
    have y := h.e6 ((hj 6 (by decide)).symm.trans x)
    exact ⟨fun k hk => (by rw [hL2]; split <;> first | rfl | exact y.1 k hk), y.2⟩
  · intro x
    obtain ⟨⟨y1, y2, y3, y4⟩, y⟩ := h.m1 h6
    refine ⟨⟨(hj 7 (by decide)).trans y1, (hj 8 (by decide)).trans y2, (hj 9 (by decide)).trans y3, (hj 10 (by decide)).trans y4⟩, ?_⟩
    rw [hj 3 (by decide), hj 5 (by decide)]
    exact y
  · intro x
    rw [hj 6 (by decide), h6] at x
    cases x
theorem KI.s2 {g V : Nat} {S : ByteArray} {d p q B : Nat} {D : Nat → Prop} {v : Vl} {ks : List Vl} {xs : List Value} {kk ss vn vk : Value} {W0 : World} {L : Nat → Bool} {f : Nat → Value} {X : World} {u : Value} (h : KI g V S d p q B D v ks xs kk ss vn vk W0 L f X) (h6 : L 6 = false) (hu : u = .pointer (some ⟨g, 0, none⟩)) : ∀ L2 : Nat → Bool, (∀ k, L2 k = if k = 2 then true else L k) → KI g V S d p q B D v ks xs kk ss vn vk W0 L2 (upd f 2 u) X := by
  intro L2 hL2
  have hj : ∀ k, k ≠ 2 → L2 k = L k := fun k hk => by rw [hL2, if_neg hk]
  have hi : L2 2 = true := by rw [hL2, if_pos rfl]
  refine ⟨?_, ?_, ?_, ?_, ?_, ?_, ?_, ?_, ?_⟩
  · exact fun x => h.e0 ((hj 0 (by decide)).symm.trans x)
  · exact fun x => h.e1 ((hj 1 (by decide)).symm.trans x)
  · exact fun _ => hu
  · exact fun x => h.e4 ((hj 4 (by decide)).symm.trans x)
  · exact fun x => h.e7 ((hj 7 (by decide)).symm.trans x)
  · exact fun x => h.e9 ((hj 9 (by decide)).symm.trans x)
  · intro x
    have y := h.e6 ((hj 6 (by decide)).symm.trans x)
    exact ⟨fun k hk => (by rw [hL2]; split <;> first | rfl | exact y.1 k hk), y.2⟩
  · intro x
    obtain ⟨⟨y1, y2, y3, y4⟩, y⟩ := h.m1 h6
    refine ⟨⟨(hj 7 (by decide)).trans y1, (hj 8 (by decide)).trans y2, (hj 9 (by decide)).trans y3, (hj 10 (by decide)).trans y4⟩, ?_⟩
    rw [hj 3 (by decide), hj 5 (by decide)]
    exact y
  · intro x
    rw [hj 6 (by decide), h6] at x
    cases x
theorem KI.s4 {g V : Nat} {S : ByteArray} {d p q B : Nat} {D : Nat → Prop} {v : Vl} {ks : List Vl} {xs : List Value} {kk ss vn vk : Value} {W0 : World} {L : Nat → Bool} {f : Nat → Value} {X : World} {u : Value} (h : KI g V S d p q B D v ks xs kk ss vn vk W0 L f X) (h6 : L 6 = false) (hu : u = .int .i64 (ks.length : Int)) : ∀ L2 : Nat → Bool, (∀ k, L2 k = if k = 4 then true else L k) → KI g V S d p q B D v ks xs kk ss vn vk W0 L2 (upd f 4 u) X := by
  intro L2 hL2
  have hj : ∀ k, k ≠ 4 → L2 k = L k := fun k hk => by rw [hL2, if_neg hk]
  have hi : L2 4 = true := by rw [hL2, if_pos rfl]
  refine ⟨?_, ?_, ?_, ?_, ?_, ?_, ?_, ?_, ?_⟩
  · exact fun x => h.e0 ((hj 0 (by decide)).symm.trans x)
  · exact fun x => h.e1 ((hj 1 (by decide)).symm.trans x)
  · exact fun x => h.e2 ((hj 2 (by decide)).symm.trans x)
  · exact fun _ => hu
  · exact fun x => h.e7 ((hj 7 (by decide)).symm.trans x)
  · exact fun x => h.e9 ((hj 9 (by decide)).symm.trans x)
  · intro x
    have y := h.e6 ((hj 6 (by decide)).symm.trans x)
    exact ⟨fun k hk => (by rw [hL2]; split <;> first | rfl | exact y.1 k hk), y.2⟩
  · intro x
    obtain ⟨⟨y1, y2, y3, y4⟩, y⟩ := h.m1 h6
    refine ⟨⟨(hj 7 (by decide)).trans y1, (hj 8 (by decide)).trans y2, (hj 9 (by decide)).trans y3, (hj 10 (by decide)).trans y4⟩, ?_⟩
    rw [hj 3 (by decide), hj 5 (by decide)]
    exact y
  · intro x
    rw [hj 6 (by decide), h6] at x
    cases x
theorem KI.s3 {g V : Nat} {S : ByteArray} {d p q B : Nat} {D : Nat → Prop} {v : Vl} {ks : List Vl} {xs : List Value} {kk ss vn vk : Value} {W0 : World} {L : Nat → Bool} {f : Nat → Value} {X Y : World} {u : Value} (h : KI g V S d p q B D v ks xs kk ss vn vk W0 L f X) (h6 : L 6 = false) (hn : PhA g S d p q v W0 (L 3) (L 5) (f 3) (f 5) X → PhA g S d p q v W0 true (L 5) u (f 5) Y) : ∀ L2 : Nat → Bool, (∀ k, L2 k = if k = 3 then true else L k) → KI g V S d p q B D v ks xs kk ss vn vk W0 L2 (upd f 3 u) Y := by
  intro L2 hL2
  have hj : ∀ k, k ≠ 3 → L2 k = L k := fun k hk => by rw [hL2, if_neg hk]
  have hi : L2 3 = true := by rw [hL2, if_pos rfl]
  refine ⟨?_, ?_, ?_, ?_, ?_, ?_, ?_, ?_, ?_⟩
  · exact fun x => h.e0 ((hj 0 (by decide)).symm.trans x)
  · exact fun x => h.e1 ((hj 1 (by decide)).symm.trans x)
  · exact fun x => h.e2 ((hj 2 (by decide)).symm.trans x)
  · exact fun x => h.e4 ((hj 4 (by decide)).symm.trans x)
  · exact fun x => h.e7 ((hj 7 (by decide)).symm.trans x)
  · exact fun x => h.e9 ((hj 9 (by decide)).symm.trans x)
  · intro x
    have y := h.e6 ((hj 6 (by decide)).symm.trans x)
    exact ⟨fun k hk => (by rw [hL2]; split <;> first | rfl | exact y.1 k hk), y.2⟩
  · intro x
    obtain ⟨⟨y1, y2, y3, y4⟩, y⟩ := h.m1 h6
    refine ⟨⟨(hj 7 (by decide)).trans y1, (hj 8 (by decide)).trans y2, (hj 9 (by decide)).trans y3, (hj 10 (by decide)).trans y4⟩, ?_⟩
    rw [hi, hj 5 (by decide)]
    exact hn y
  · intro x
    rw [hj 6 (by decide), h6] at x
    cases x
theorem KI.s5 {g V : Nat} {S : ByteArray} {d p q B : Nat} {D : Nat → Prop} {v : Vl} {ks : List Vl} {xs : List Value} {kk ss vn vk : Value} {W0 : World} {L : Nat → Bool} {f : Nat → Value} {X Y : World} {u : Value} (h : KI g V S d p q B D v ks xs kk ss vn vk W0 L f X) (h6 : L 6 = false) (hn : PhA g S d p q v W0 (L 3) (L 5) (f 3) (f 5) X → PhA g S d p q v W0 (L 3) true (f 3) u Y) : ∀ L2 : Nat → Bool, (∀ k, L2 k = if k = 5 then true else L k) → KI g V S d p q B D v ks xs kk ss vn vk W0 L2 (upd f 5 u) Y := by
  intro L2 hL2
  have hj : ∀ k, k ≠ 5 → L2 k = L k := fun k hk => by rw [hL2, if_neg hk]
  have hi : L2 5 = true := by rw [hL2, if_pos rfl]
  refine ⟨?_, ?_, ?_, ?_, ?_, ?_, ?_, ?_, ?_⟩
  · exact fun x => h.e0 ((hj 0 (by decide)).symm.trans x)
  · exact fun x => h.e1 ((hj 1 (by decide)).symm.trans x)
  · exact fun x => h.e2 ((hj 2 (by decide)).symm.trans x)
  · exact fun x => h.e4 ((hj 4 (by decide)).symm.trans x)
  · exact fun x => h.e7 ((hj 7 (by decide)).symm.trans x)
  · exact fun x => h.e9 ((hj 9 (by decide)).symm.trans x)
  · intro x
    have y := h.e6 ((hj 6 (by decide)).symm.trans x)
    exact ⟨fun k hk => (by rw [hL2]; split <;> first | rfl | exact y.1 k hk), y.2⟩
  · intro x
    obtain ⟨⟨y1, y2, y3, y4⟩, y⟩ := h.m1 h6
    refine ⟨⟨(hj 7 (by decide)).trans y1, (hj 8 (by decide)).trans y2, (hj 9 (by decide)).trans y3, (hj 10 (by decide)).trans y4⟩, ?_⟩
    rw [hi, hj 3 (by decide)]
    exact hn y
  · intro x
    rw [hj 6 (by decide), h6] at x
    cases x
theorem KI.s6 {g V : Nat} {S : ByteArray} {d p q B : Nat} {D : Nat → Prop} {v : Vl} {ks : List Vl} {xs : List Value} {kk ss vn vk : Value} {W0 : World} {L : Nat → Bool} {f : Nat → Value} {X Y : World} {u : Value} (h : KI g V S d p q B D v ks xs kk ss vn vk W0 L f X) (h6 : L 6 = false) (hd : ∀ k, k < 6 → L k = true) (hu : ∃ g' cap, u = .slice (some ⟨g', 0, none⟩) (ks.length + 1) cap ∧ (some g' = vk.ownBlock ∨ W0.heap.size ≤ g')) (hn : PhA g S d p q v W0 (L 3) (L 5) (f 3) (f 5) X → PhB g V S d q B D v ks xs kk ss vn vk W0 false false (f 3) u Y) : ∀ L2 : Nat → Bool, (∀ k, L2 k = if k = 6 then true else L k) → KI g V S d p q B D v ks xs kk ss vn vk W0 L2 (upd f 6 u) Y := by
  intro L2 hL2
  have hj : ∀ k, k ≠ 6 → L2 k = L k := fun k hk => by rw [hL2, if_neg hk]
  have hi : L2 6 = true := by rw [hL2, if_pos rfl]
  refine ⟨?_, ?_, ?_, ?_, ?_, ?_, ?_, ?_, ?_⟩
  · exact fun x => h.e0 ((hj 0 (by decide)).symm.trans x)
  · exact fun x => h.e1 ((hj 1 (by decide)).symm.trans x)
  · exact fun x => h.e2 ((hj 2 (by decide)).symm.trans x)
  · exact fun x => h.e4 ((hj 4 (by decide)).symm.trans x)
  · intro x
    have y := (h.m1 h6).1.1
    rw [hj 7 (by decide), y] at x
    cases x
  · exact fun x => h.e9 ((hj 9 (by decide)).symm.trans x)
  · intro x
    exact ⟨fun k hk => (hj k (by omega)).trans (hd k hk), hu⟩
  · intro x
    rw [hi] at x
    cases x
  · intro x
    obtain ⟨⟨y1, y2, y3, y4⟩, y⟩ := h.m1 h6
    rw [hj 8 (by decide), hj 10 (by decide), y2, y4]
    exact hn y
theorem KI.s7 {g V : Nat} {S : ByteArray} {d p q B : Nat} {D : Nat → Prop} {v : Vl} {ks : List Vl} {xs : List Value} {kk ss vn vk : Value} {W0 : World} {L : Nat → Bool} {f : Nat → Value} {X : World} {u : Value} (h : KI g V S d p q B D v ks xs kk ss vn vk W0 L f X) (h6 : L 6 = true) (hu : ∃ g' cap, f 6 = .slice (some ⟨g', 0, none⟩) (ks.length + 1) cap ∧ u = .pointer (some ⟨g', ks.length * 4, none⟩)) : ∀ L2 : Nat → Bool, (∀ k, L2 k = if k = 7 then true else L k) → KI g V S d p q B D v ks xs kk ss vn vk W0 L2 (upd f 7 u) X := by
  intro L2 hL2
  have hj : ∀ k, k ≠ 7 → L2 k = L k := fun k hk => by rw [hL2, if_neg hk]
  have hi : L2 7 = true := by rw [hL2, if_pos rfl]
  refine ⟨?_, ?_, ?_, ?_, ?_, ?_, ?_, ?_, ?_⟩
  · exact fun x => h.e0 ((hj 0 (by decide)).symm.trans x)
  · exact fun x => h.e1 ((hj 1 (by decide)).symm.trans x)
  · exact fun x => h.e2 ((hj 2 (by decide)).symm.trans x)
  · exact fun x => h.e4 ((hj 4 (by decide)).symm.trans x)
  · exact fun _ => hu
  · exact fun x => h.e9 ((hj 9 (by decide)).symm.trans x)
  · intro x
    have y := h.e6 ((hj 6 (by decide)).symm.trans x)
    exact ⟨fun k hk => (by rw [hL2]; split <;> first | rfl | exact y.1 k hk), y.2⟩
  · intro x
    rw [hj 6 (by decide), h6] at x
    cases x
  · intro x
    rw [hj 8 (by decide), hj 10 (by decide)]
    exact h.m2 h6
theorem KI.s9 {g V : Nat} {S : ByteArray} {d p q B : Nat} {D : Nat → Prop} {v : Vl} {ks : List Vl} {xs : List Value} {kk ss vn vk : Value} {W0 : World} {L : Nat → Bool} {f : Nat → Value} {X : World} {u : Value} (h : KI g V S d p q B D v ks xs kk ss vn vk W0 L f X) (h6 : L 6 = true) (hu : u = .pointer (some ⟨V, 3, none⟩)) : ∀ L2 : Nat → Bool, (∀ k, L2 k = if k = 9 then true else L k) → KI g V S d p q B D v ks xs kk ss vn vk W0 L2 (upd f 9 u) X := by
  intro L2 hL2
  have hj : ∀ k, k ≠ 9 → L2 k = L k := fun k hk => by rw [hL2, if_neg hk]
  have hi : L2 9 = true := by rw [hL2, if_pos rfl]
  refine ⟨?_, ?_, ?_, ?_, ?_, ?_, ?_, ?_, ?_⟩
  · exact fun x => h.e0 ((hj 0 (by decide)).symm.trans x)
  · exact fun x => h.e1 ((hj 1 (by decide)).symm.trans x)
  · exact fun x => h.e2 ((hj 2 (by decide)).symm.trans x)
  · exact fun x => h.e4 ((hj 4 (by decide)).symm.trans x)
  · exact fun x => h.e7 ((hj 7 (by decide)).symm.trans x)
  · exact fun _ => hu
  · intro x
    have y := h.e6 ((hj 6 (by decide)).symm.trans x)
    exact ⟨fun k hk => (by rw [hL2]; split <;> first | rfl | exact y.1 k hk), y.2⟩
  · intro x
    rw [hj 6 (by decide), h6] at x
    cases x
  · intro x
    rw [hj 8 (by decide), hj 10 (by decide)]
    exact h.m2 h6
theorem KI.s8 {g V : Nat} {S : ByteArray} {d p q B : Nat} {D : Nat → Prop} {v : Vl} {ks : List Vl} {xs : List Value} {kk ss vn vk : Value} {W0 : World} {L : Nat → Bool} {f : Nat → Value} {X Y : World} {u : Value} (h : KI g V S d p q B D v ks xs kk ss vn vk W0 L f X) (h6 : L 6 = true) (hn : PhB g V S d q B D v ks xs kk ss vn vk W0 (L 8) (L 10) (f 3) (f 6) X → PhB g V S d q B D v ks xs kk ss vn vk W0 true (L 10) (f 3) (f 6) Y) : ∀ L2 : Nat → Bool, (∀ k, L2 k = if k = 8 then true else L k) → KI g V S d p q B D v ks xs kk ss vn vk W0 L2 (upd f 8 u) Y := by
  intro L2 hL2
  have hj : ∀ k, k ≠ 8 → L2 k = L k := fun k hk => by rw [hL2, if_neg hk]
  have hi : L2 8 = true := by rw [hL2, if_pos rfl]
  refine ⟨?_, ?_, ?_, ?_, ?_, ?_, ?_, ?_, ?_⟩
  · exact fun x => h.e0 ((hj 0 (by decide)).symm.trans x)
  · exact fun x => h.e1 ((hj 1 (by decide)).symm.trans x)
  · exact fun x => h.e2 ((hj 2 (by decide)).symm.trans x)
  · exact fun x => h.e4 ((hj 4 (by decide)).symm.trans x)
  · exact fun x => h.e7 ((hj 7 (by decide)).symm.trans x)
  · exact fun x => h.e9 ((hj 9 (by decide)).symm.trans x)
  · intro x
    have y := h.e6 ((hj 6 (by decide)).symm.trans x)
    exact ⟨fun k hk => (by rw [hL2]; split <;> first | rfl | exact y.1 k hk), y.2⟩
  · intro x
    rw [hj 6 (by decide), h6] at x
    cases x
  · intro x
    rw [hi, hj 10 (by decide)]
    exact hn (h.m2 h6)
theorem KI.s10 {g V : Nat} {S : ByteArray} {d p q B : Nat} {D : Nat → Prop} {v : Vl} {ks : List Vl} {xs : List Value} {kk ss vn vk : Value} {W0 : World} {L : Nat → Bool} {f : Nat → Value} {X Y : World} {u : Value} (h : KI g V S d p q B D v ks xs kk ss vn vk W0 L f X) (h6 : L 6 = true) (hn : PhB g V S d q B D v ks xs kk ss vn vk W0 (L 8) (L 10) (f 3) (f 6) X → PhB g V S d q B D v ks xs kk ss vn vk W0 (L 8) true (f 3) (f 6) Y) : ∀ L2 : Nat → Bool, (∀ k, L2 k = if k = 10 then true else L k) → KI g V S d p q B D v ks xs kk ss vn vk W0 L2 (upd f 10 u) Y := by
  intro L2 hL2
  have hj : ∀ k, k ≠ 10 → L2 k = L k := fun k hk => by rw [hL2, if_neg hk]
  have hi : L2 10 = true := by rw [hL2, if_pos rfl]
  refine ⟨?_, ?_, ?_, ?_, ?_, ?_, ?_, ?_, ?_⟩
  · exact fun x => h.e0 ((hj 0 (by decide)).symm.trans x)
  · exact fun x => h.e1 ((hj 1 (by decide)).symm.trans x)
  · exact fun x => h.e2 ((hj 2 (by decide)).symm.trans x)
  · exact fun x => h.e4 ((hj 4 (by decide)).symm.trans x)
  · exact fun x => h.e7 ((hj 7 (by decide)).symm.trans x)
  · exact fun x => h.e9 ((hj 9 (by decide)).symm.trans x)
  · intro x
    have y := h.e6 ((hj 6 (by decide)).symm.trans x)
    exact ⟨fun k hk => (by rw [hL2]; split <;> first | rfl | exact y.1 k hk), y.2⟩
  · intro x
    rw [hj 6 (by decide), h6] at x
    cases x
  · intro x
    rw [hi, hj 8 (by decide)]
    exact hn (h.m2 h6)
end Go.Proofs.YtkplbggefiemdaaGreatDoor

namespace Go.Proofs.YtkplbggefiemdaaGreatDoor
open Go.RowKit Go.Shelf
set_option linter.unusedVariables false
set_option linter.unusedSimpArgs false
theorem infoV : (Tryz.prog.info? 41).map (fun i => (i.zero, i.size, i.bytes)) = some (some (.agg zr4), 4, 72) := by kernel_rfl
theorem build_zero (w : World) : (Instr.buildSlice 39 1 #[(0, .agg zr4)]).run Tryz.prog w = .ok (.slice (some ⟨w.heap.size, 0, none⟩) 1 1) (w.alloc (.cells zr4 41)) := by
  obtain ⟨i0, hi, hz0, hz1, _⟩ := info_parts infoV
  refine run_buildSlice w 39 41 1 _ zr4 i0 (.agg zr4) Tryz.underlying39 hi hz0 (by rw [hz1]; decide) (by rw [hz1]; decide) ?_
  rw [hz1]
  kernel_rfl
theorem own_shape4 {w : World} {B e n sz : Nat} {v : Value} {xs : List Value} (h : w.ownsRow B e sz v n xs) : ∃ p c, v = .slice p n c := by
  rcases h.2 with ⟨rfl, rfl⟩ | ⟨g, cap, cur, rfl, _⟩
  · exact ⟨_, _, rfl⟩
  · exact ⟨_, _, rfl⟩
theorem idx_last (g' n cap : Nat) (w : World) (hn : n ≤ 65536) : (Instr.indexAt 39 (.slice (some ⟨g', 0, none⟩) (n + 1) cap) (.int .i64 (n : Int))).run Tryz.prog w = .ok (.pointer (some ⟨g', n * 4, none⟩)) w := by
  have e1 : ((n : Int)).toNat = n := by omega
  have e2 : (n : Int) < ((n + 1 : Nat) : Int) := by omega
  obtain ⟨i0, hi, hz0, hz1, _⟩ := info_parts infoV
  simp [go_sem, Instr.indexAt, Tryz.underlying39, hi, hz1, e1]
theorem append_zero (w : World) (B : Nat) (v : Value) (n : Nat) (xs : List Value) (h : w.ownsRow B 41 4 v n xs) (b5 : Nat) (h5 : w.heap[b5]? = some (.cells zr4 41 (0, 0))) (hn : n ≤ 65536) (hB : B ≤ w.heap.size) (ty : TypeId) :
    ∃ v' w', (Builtin.append_ #[39, 39] ty #[v, .slice (some ⟨b5, 0, none⟩) 1 1]).run Tryz.prog w = .ok v' w' ∧ w'.ownsRow B 41 4 v' (n + 1) (xs ++ [.int .i64 0, .string ByteArray.empty, .slice none 0 0, .slice none 0 0]) ∧ w.grownBy w' v.ownBlock ∧ (v'.ownBlock = v.ownBlock ∨ v'.ownBlock = some w.heap.size) := by
  obtain ⟨i0, hi, hz0, hz1, hz2⟩ := info_parts infoV
  obtain ⟨v', w', a1, a2, a3, a4, a5⟩ := run_append_own_at (P := Tryz.prog) (w := w) B 39 ty 41 i0 (.agg zr4) 4 72 Tryz.underlying39 hi hz0 hz1 hz2 rfl (by decide) v n xs h ⟨b5, 0, none⟩ 1 1 [.int .i64 0, .string ByteArray.empty, .slice none 0 0, .slice none 0 0] rfl (fun j u hj => by
      have hj2 : zr4[j]? = some u := by
        have : zr4.toList[j]? = some u := hj
        simpa using this
      have ha : (⟨b5, 0, none⟩ : Addr).add j = ⟨b5, j, none⟩ := by
        by_cases h0 : j = 0
        · subst h0; rfl
        · simp [Addr.add, h0]
      rw [ha]
      simp [World.cell?, h5, hj2]) (by simp [Value.oneCell']) (by unfold maxLen; omega) (by omega) hB
  exact ⟨v', w', a1, a2, a3, a5⟩
/-- a box that leads to the reader -/
def BoxP (P g : Nat) (w : World) : Prop := ∃ fz, w.heap[P]? = some (.cells #[.pointer (some ⟨g, 0, none⟩)] 86 fz)
theorem BoxP.cell {P g : Nat} {w : World} (h : BoxP P g w) : w.cell? ⟨P, 0, none⟩ = some (.pointer (some ⟨g, 0, none⟩)) := by
  obtain ⟨fz, h⟩ := h
  simp [World.cell?, h]
theorem BoxP.row {P g B n sz : Nat} {w : World} {v : Value} {xs : List Value} (h : BoxP P g w) (k : w.ownsRow B 41 sz v n xs) : v.ownBlock ≠ some P := by
  intro e
  obtain ⟨fz, h⟩ := h
  rcases k.2 with ⟨rfl, _⟩ | ⟨g', cap, cur, rfl, h1, h2, _⟩
  · cases e
  · have : g' = P := by simpa [Value.ownBlock] using e
    subst this
    rw [h] at h2
    simp at h2
/-- what list keeps within its brackets -/
def LJ (V P R g B : Nat) (kk vn : Value) (ks : List Vl) (w : World) : Prop := ∃ vk xs F, KJ V B (fun k => k = R) kk (.string ByteArray.empty) vn vk ks xs F w ∧ BoxP P g w ∧ B ≤ P ∧ P ≠ V ∧ w.heap[R]? = some (.cells zr4 41 (0, 0)) ∧ B ≤ R ∧ R ≠ V ∧ vk.ownBlock ≠ some R
theorem LJ.keep {V P R g B : Nat} {kk vn : Value} {ks : List Vl} {w w' : World} (h : LJ V P R g B kk vn ks w) (hg : g < B) (ho : Only g w w') : LJ V P R g B kk vn ks w' := by
  obtain ⟨vk, xs, F, hk, ⟨fz, hb⟩, h1, h2, h3, h4, h5, h6⟩ := h
  exact ⟨vk, xs, F, hk.keep ho.size (fun k x y => ho.block k y (by omega)), ⟨fz, (ho.block P (Array.getElem?_eq_some_iff.1 hb).1 (by omega)).trans hb⟩, h1, h2, (ho.block R (Array.getElem?_eq_some_iff.1 h3).1 (by omega)).trans h3, h4, h5, h6⟩
theorem LJ.le {V P R g B : Nat} {kk vn : Value} {ks : List Vl} {w : World} (h : LJ V P R g B kk vn ks w) : B ≤ w.heap.size := by
  obtain ⟨vk, xs, F, hk, _⟩ := h
  have := hk.lt
  have := hk.BV
  omega
theorem postV_two {r : Rv Vl} {g : Nat} {S : ByteArray} {d : Nat} {w : World} {F : FuncId} {args : Array Value} (h : Calls Tryz.prog F args w (r.PostV g S d w)) :
    (∃ v q, r = .ok v q ∧ Calls Tryz.prog F args w fun e w' => ∃ cs, e = .returned (.agg cs) ∧ Rr g S q d w' ∧ Only g w w' ∧ ∃ F : Nat → Prop, (∀ k, F k → w.heap.size ≤ k ∧ k < w'.heap.size) ∧ VlAt F w' v cs) ∨ (∃ c q, r = .no c q ∧ Calls Tryz.prog F args w fun e w' => e = .panicked (flt c q) ∧ Only g w w') := by
  cases r with
  | ok v q => exact .inl ⟨v, q, rfl, h⟩
  | no c q => exact .inr ⟨c, q, rfl, h⟩
set_option maxRecDepth 100000 in
set_option maxHeartbeats 8000000 in
theorem list1_any (g V P R : Nat) (S : ByteArray) (d p B : Nat) (kk vn : Value) (r : Rv Vl) (ks : List Vl) (w : World) (h : Rr g S p d w) (ht : RwT w) (hj : LJ V P R g B kk vn ks w) (hn : ks.length ≤ 65536) (hgB : g < B) (hg8 : g ≠ 6)
    (hval : ∀ X, Rr g S p d X → RwT X → Calls Tryz.prog 65 #[.pointer (some ⟨g, 0, none⟩)] X (r.PostV g S d X)) :
    Calls Tryz.prog 159 #[.pointer (some ⟨V, 0, none⟩), .pointer (some ⟨P, 0, none⟩)] w ((r.bind fun v q => Rv.ok (ks ++ [v]) q).PostJ (LJ V P R g B kk vn) g S d B w) := by
  obtain ⟨vk, xs, F, hk, hbp, hBP, hPV, hRB, hBR, hRV, hRR⟩ := hj
  obtain ⟨pb, cp, rfl⟩ := own_shape4 hk.own
  obtain ⟨nb, v, q, hnv⟩ : ∃ nb v q, (nb = false ∧ r = .ok v q) ∨ (nb = true ∧ ∃ c z, r = .no c z) := by
    cases r with
    | ok v q => exact ⟨false, v, q, .inl ⟨rfl, rfl⟩⟩
    | no c z => exact ⟨true, .mk 0 ByteArray.empty [] [], 0, .inr ⟨rfl, c, z, rfl⟩⟩
  have HKJ := Hid.mk' hk
  have HGB := Hid.mk' hgB
  have HDD : Hid (∀ k : Nat, (fun k => k = R : Nat → Prop) k → k < w.heap.size) := Hid.mk' fun k hk => by have hk2 : k = R := hk; subst hk2; exact (Array.getElem?_eq_some_iff.1 hRB).1
  have HGW : Hid (g < w.heap.size) := Hid.mk' h.lt
  have HLE := Hid.mk' hn
  have HGV : Hid (g ≠ V) := Hid.mk' (by have := hk.BV; omega)
  have HPB := Hid.mk' (And.intro hbp (And.intro hBP hPV))
  have HRX := Hid.mk' (And.intro hRB (And.intro hBR (And.intro hRV hRR)))
  have hprow : (Value.slice pb ks.length cp).ownBlock ≠ some P := hbp.row hk.own
  have HPR := Hid.mk' hprow
  have HBX : Hid (∀ Z, Only g w Z → Z.cell? ⟨V, 3, none⟩ = some (.slice pb ks.length cp) ∧ Z.cell? ⟨P, 0, none⟩ = some (.pointer (some ⟨g, 0, none⟩)) ∧ RwT Z) := Hid.mk' fun Z hZ => by
    have hV := (hZ.block V hk.lt (by have := hk.BV; omega)).trans hk.box
    obtain ⟨fz, hb⟩ := hbp
    have hP := (hZ.block P (Array.getElem?_eq_some_iff.1 hb).1 (by omega)).trans hb
    exact ⟨by simp [World.cell?, hV], by simp [World.cell?, hP], ht.only hZ hg8⟩
  have HVV : Hid (∀ Z, Rr g S p d Z → RwT Z → (nb = false ∧ Calls Tryz.prog 65 #[.pointer (some ⟨g, 0, none⟩)] Z fun e w' => ∃ cs, e = .returned (.agg cs) ∧ Rr g S q d w' ∧ Only g Z w' ∧ ∃ F : Nat → Prop, (∀ k, F k → Z.heap.size ≤ k ∧ k < w'.heap.size) ∧ VlAt F w' v cs) ∨ (∃ c z, r = .no c z ∧ Calls Tryz.prog 65 #[.pointer (some ⟨g, 0, none⟩)] Z fun e w' => e = .panicked (flt c z) ∧ Only g Z w')) := Hid.mk' fun Z h1 h2 => by
    have hc := hval Z h1 h2
    rcases hnv with ⟨hb, rfl⟩ | ⟨hb, c, z, rfl⟩
    · exact .inl ⟨hb, hc⟩
    · exact .inr ⟨c, z, rfl, hc⟩
  have HNV := Hid.mk' hnv
  have HA0 : Hid (PhA g S d p q v w false false undef undef { w with drawn := w.drawn + 1 }) := Hid.mk' ⟨⟨rfl, rfl, rfl, Nat.le_refl _, fun _ _ _ => rfl⟩, fun _ => False, fun _ hf => hf.elim, (by rw [if_neg (by decide)]; exact ⟨h.row, h.le⟩), fun x => by cases x⟩
  clear hval hnv hk hbp hn hgB hg8 ht h hprow hBP hPV hRB hBR hRV hRR
  go_enter Tryz.func159, Tryz.ntmps159
  refine (wpIn_wide (n := 6)).1 ?_
  refine region_rel (by kernel_rfl) (fun zz => { tmps := #[.pointer (some ⟨V, 0, none⟩), .pointer (some ⟨P, 0, none⟩), zz 0, zz 1, zz 2, zz 3, zz 4, zz 5, zz 6, zz 7, zz 9], defers := [] }) (fun _ => undef) _ (fun L zz Z => KI g V S d p q B (fun k => k = R) v ks xs kk (.string ByteArray.empty) vn (.slice pb ks.length cp) w L zz Z ∧ (nb = true → L 3 = false)) (fun L' hL => ⟨⟨fun x => (by rw [hL] at x; cases x), fun x => (by rw [hL] at x; cases x), fun x => (by rw [hL] at x; cases x), fun x => (by rw [hL] at x; cases x), fun x => (by rw [hL] at x; cases x), fun x => (by rw [hL] at x; cases x), fun x => (by rw [hL] at x; cases x), fun _ => ⟨⟨hL _, hL _, hL _, hL _⟩, by rw [hL, hL]; exact HA0.out⟩, fun x => (by rw [hL] at x; cases x)⟩, fun _ => hL _⟩) (deps_of' (by kernel_rfl)) ?_ ?_
  · intro L zz Z hII i0 hi0 hL op ho hdone KK hKK
    have hlt : i0 < 11 := hi0
    obtain ⟨hI, hNB⟩ := hII
    have hnb : ∀ i, i ≠ 3 → ∀ L2 : Nat → Bool, (∀ k, L2 k = if k = i then true else L k) → nb = true → L2 3 = false := fun i hi L2 h2 h => by rw [h2, if_neg (Ne.symm hi)]; exact hNB h
    have h6f : ∀ k, k < 6 → L k = false → L 6 = false := fun k hk hl => by
      cases h6 : L 6
      · rfl
      · rw [(hI.e6 h6).1 k hk] at hl
        cases hl
    rcases (show i0 = 0 ∨ i0 = 1 ∨ i0 = 2 ∨ i0 = 3 ∨ i0 = 4 ∨ i0 = 5 ∨ i0 = 6 ∨ i0 = 7 ∨ i0 = 8 ∨ i0 = 9 ∨ i0 = 10 by omega) with rfl | rfl | rfl | rfl | rfl | rfl | rfl | rfl | rfl | rfl | rfl
    · have h6 := h6f 0 (by decide) hL
      simp at ho; subst ho
      have hKX := hKK (.pointer (some ⟨V, 3, none⟩)) Z (fun L2 h2 => ⟨hI.s0 h6 rfl L2 h2, hnb 0 (by decide) L2 h2⟩)
      simp [wpOpIn, Region.wanted, yielded, Oper.wpIn, Oper.semAt_eq, execOp, Oper.uponIn, go_sem]
      first | exact hKX | (simp [upd] at hKX; exact hKX) | (simp [upd] at hKX ⊢; exact hKX)
    · have h6 := h6f 1 (by decide) hL
      simp at ho; subst ho; simp [Region.binds] at hdone
      obtain ⟨_, ho9, F9, hF9, hr9, h59⟩ := hI.m1 h6
      have e0 := hI.e0 hdone
      have c3 := (HBX.out Z ho9).1
      have hKX := hKK (.slice pb ks.length cp) Z (fun L2 h2 => ⟨hI.s1 h6 rfl L2 h2, hnb 1 (by decide) L2 h2⟩)
      simp [wpOpIn, Region.wanted, yielded, Oper.wpIn, Oper.semAt_eq, execOp, Oper.uponIn, go_sem, e0, c3]
      first | exact hKX | (simp [upd, e0, c3] at hKX; exact hKX) | (simp [upd, e0, c3] at hKX ⊢; exact hKX)
    · have h6 := h6f 2 (by decide) hL
      simp at ho; subst ho
      obtain ⟨_, ho9, F9, hF9, hr9, h59⟩ := hI.m1 h6
      have cp0 := (HBX.out Z ho9).2.1
      have hKX := hKK (.pointer (some ⟨g, 0, none⟩)) Z (fun L2 h2 => ⟨hI.s2 h6 rfl L2 h2, hnb 2 (by decide) L2 h2⟩)
      simp [wpOpIn, Region.wanted, yielded, Oper.wpIn, Oper.semAt_eq, execOp, Oper.uponIn, go_sem, cp0]
      first | exact hKX | (simp [upd, cp0] at hKX; exact hKX) | (simp [upd, cp0] at hKX ⊢; exact hKX)
    · have h6 := h6f 3 (by decide) hL
      simp at ho; subst ho; simp [Region.binds] at hdone
      have e2 := hI.e2 hdone
      have hA := (hI.m1 h6).2
      have hA1 := hA.1
      have hR1 : Rr g S p d Z := by
        obtain ⟨_, F9, _, h9, _⟩ := hA
        rw [hL, if_neg (by decide)] at h9
        exact h9
      simp [wpOpIn, Region.wanted, yielded, Oper.wpIn, Oper.semAt_eq, execOp, Oper.uponIn, go_sem, e2]
      refine ⟨trivial, ?_⟩
      rcases HVV.out Z hR1 (HBX.out Z hA1).2.2 with ⟨hnbf, hc⟩ | ⟨c, z, hrn, hc⟩
      · refine CallsIn.mono (callsIn_wide.2 hc) ?_
        rintro e Y ⟨cs, rfl, hr2, ho2, hv2⟩
        have hKX := hKK (.agg cs) Y (fun L2 h2 => ⟨hI.s3 h6 (fun hy => by rw [hL] at hy; exact hy.call HGW.out cs hr2 ho2 hv2) L2 h2, fun hh => by rw [hnbf] at hh; cases hh⟩)
        first | exact hKX | (simp [upd, e2] at hKX; exact hKX) | (simp [upd, e2] at hKX ⊢; exact hKX)
      · refine CallsIn.mono (callsIn_wide.2 hc) ?_
        rintro e Y ⟨rfl, ho2⟩
        subst hrn
        have hon : Onb g B w Y := (hA1.trans ho2).onb (by have := HKJ.out.lt; have := HKJ.out.BV; omega)
        exact ⟨rfl, rfl, hon⟩
    · have h6 := h6f 4 (by decide) hL
      simp at ho; subst ho; simp [Region.binds] at hdone
      obtain ⟨_, ho9, F9, hF9, hr9, h59⟩ := hI.m1 h6
      have e1 := hI.e1 hdone
      have hKX := hKK (.int .i64 (ks.length : Int)) Z (fun L2 h2 => ⟨hI.s4 h6 rfl L2 h2, hnb 4 (by decide) L2 h2⟩)
      simp [wpOpIn, Region.wanted, yielded, Oper.wpIn, Oper.semAt_eq, execOp, Oper.uponIn, go_sem, e1]
      first | exact hKX | (simp [upd, e1] at hKX; exact hKX) | (simp [upd, e1] at hKX ⊢; exact hKX)
    · have h6 := h6f 5 (by decide) hL
      simp at ho; subst ho
      have hKX := hKK (.slice (some ⟨Z.heap.size, 0, none⟩) 1 1) (Z.alloc (.cells zr4 41)) (fun L2 h2 => ⟨hI.s5 h6 (fun hy => hy.build HGW.out) L2 h2, hnb 5 (by decide) L2 h2⟩)
      have hbz := build_zero Z
      simp only [zr4] at hbz
      simp [wpOpIn, Region.wanted, yielded, Oper.wpIn, Oper.semAt_eq, execOp, Oper.uponIn, go_sem, hbz]
      first | exact hKX | (simp [upd] at hKX; exact hKX) | (simp [upd] at hKX ⊢; exact hKX)
    · simp at ho; subst ho; simp [Region.binds] at hdone
      have hall : ∀ k, k < 6 → L k = true := fun k hk => by
        rcases (show k = 0 ∨ k = 1 ∨ k = 2 ∨ k = 3 ∨ k = 4 ∨ k = 5 by omega) with rfl | rfl | rfl | rfl | rfl | rfl <;> simp [hdone]
      have e1 := hI.e1 (hall 1 (by decide))
      have hA := (hI.m1 hL).2
      rw [hall 3 (by decide), hall 5 (by decide)] at hA
      obtain ⟨x1, F9, x2, x3, x4⟩ := hA
      obtain ⟨b5, e5, y1, y2, y3, y4⟩ := x4 rfl
      obtain ⟨v', Y, a1, a2, a3, a4⟩ := append_zero Z B (.slice pb ks.length cp) ks.length xs (own_keptO HKJ.out.own fun k hk => x1.block k (own_row_lt HKJ.out.own k hk).2 (by have := (own_row_lt HKJ.out.own k hk).1; have := HGB.out; omega)) b5 y3 HLE.out (by have := x1.size; have := HKJ.out.lt; have := HKJ.out.BV; omega) 39
      obtain ⟨g', cap, rfl, q1, q2, q3, q4⟩ := own4_open a2
      have hKX := hKK (.slice (some ⟨g', 0, none⟩) (ks.length + 1) cap) Y (fun L2 h2 => ⟨hI.s6 hL hall ⟨g', cap, rfl, (by rcases a4 with e | e; exact .inl e; exact .inr (by have e9 : g' = Z.heap.size := (by simpa [Value.ownBlock] using e); have := x1.size; omega))⟩ (fun hy => by rw [hall 3 (by decide), hall 5 (by decide)] at hy; exact hy.append HKJ.out HGB.out HDD.out a2 a3 a4) L2 h2, hnb 6 (by decide) L2 h2⟩)
      simp [wpOpIn, Region.wanted, yielded, Oper.wpIn, Oper.semAt_eq, execOp, Oper.uponIn, resolve, invoke, builtin, Act.eval, Act.put, e1, e5, a1]
      refine ⟨fun _ _ => trivial, ?_⟩
      first | exact hKX | (simp [upd, e1, e5] at hKX; exact hKX) | (simp [upd, e1, e5] at hKX ⊢; exact hKX)
    · simp at ho; subst ho; simp [Region.binds] at hdone
      have h6 : L 6 = true := by simp [hdone]
      obtain ⟨hall, g', cap, e6, hloc⟩ := hI.e6 h6
      have e4 := hI.e4 (hall 4 (by decide))
      have hix := idx_last g' ks.length cap Z HLE.out
      have hKX := hKK (.pointer (some ⟨g', ks.length * 4, none⟩)) Z (fun L2 h2 => ⟨hI.s7 h6 ⟨g', cap, e6, rfl⟩ L2 h2, hnb 7 (by decide) L2 h2⟩)
      simp [wpOpIn, Region.wanted, yielded, Oper.wpIn, Oper.semAt_eq, execOp, Oper.uponIn, go_sem, e4, e6, hix]
      first | exact hKX | (simp [upd, e4, e6] at hKX; exact hKX) | (simp [upd, e4, e6] at hKX ⊢; exact hKX)
    · simp at ho; subst ho; simp [Region.binds] at hdone
      have h7 : L 7 = true := by simp [hdone]
      have h6 : L 6 = true := by
        cases h6 : L 6
        · rw [(hI.m1 h6).1.1] at h7; cases h7
        · rfl
      obtain ⟨hall, g', cap, e6, hloc⟩ := hI.e6 h6
      obtain ⟨g2, cap2, e62, e7⟩ := hI.e7 h7
      obtain ⟨rfl, rfl⟩ : g2 = g' ∧ cap2 = cap := by rw [e6] at e62; simp at e62; omega
      have hB := hI.m2 h6
      have hB2 := hB
      rw [hL, e6] at hB
      obtain ⟨F9, g9, cap9, a, b, c, e, e3, t6, _, _, tv, _, _, _, _, t10, _⟩ := hB
      obtain ⟨xk, xt, pn, nn, cn, pk, nk, ck, hform⟩ := tv.form
      obtain ⟨rfl, rfl, rfl, rfl⟩ : a = .int .i64 xk ∧ b = .string xt ∧ c = .slice pn nn cn ∧ e = .slice pk nk ck := by simpa using hform
      obtain ⟨rfl, rfl⟩ : g9 = g2 ∧ cap9 = cap2 := by simp at t6; omega
      simp only [Bool.false_eq_true, if_false] at t10
      obtain ⟨g8, cap8, t8, _, _, _, hcl, hfz⟩ := own4_open t10
      obtain ⟨rfl, rfl⟩ : g8 = g9 ∧ cap8 = cap9 := by simp at t8; omega
      have hxl : xs.length = ks.length * 4 := HKJ.out.own.1
      have u0 : Z.cell? ⟨g8, ks.length * 4, none⟩ = some (.int .i64 0) := hcl _ _ (by rw [← hxl]; simp)
      have u1 : Z.cell? ⟨g8, ks.length * 4 + 1, none⟩ = some (.string ByteArray.empty) := hcl _ _ (by rw [← hxl]; simp)
      have u2 : Z.cell? ⟨g8, ks.length * 4 + 2, none⟩ = some (.slice none 0 0) := hcl _ _ (by rw [← hxl]; simp)
      have u3 : Z.cell? ⟨g8, ks.length * 4 + 3, none⟩ = some (.slice none 0 0) := hcl _ _ (by rw [← hxl]; simp)
      have v0 : Z.frozen? ⟨g8, ks.length * 4, none⟩ = false := hfz _ (by omega)
      have v1 : Z.frozen? ⟨g8, ks.length * 4 + 1, none⟩ = false := hfz _ (by omega)
      have v2 : Z.frozen? ⟨g8, ks.length * 4 + 2, none⟩ = false := hfz _ (by omega)
      have v3 : Z.frozen? ⟨g8, ks.length * 4 + 3, none⟩ = false := hfz _ (by omega)
      have hKX := hKK undef (put4 Z g8 (ks.length * 4) (.int .i64 xk) (.string xt) (.slice pn nn cn) (.slice pk nk ck)) (fun L2 h2 => ⟨hI.s8 h6 (fun hy => by rw [e3, e6] at hy ⊢; exact hy.put HGB.out hxl hloc) L2 h2, hnb 8 (by decide) L2 h2⟩)
      unfold put4 at hKX
      simp [wpOpIn, Region.wanted, yielded, Oper.wpIn, Oper.semAt_eq, execOp, Oper.uponIn, go_sem, e3, e7, u0, u1, u2, u3, v0, v1, v2, v3]
      first | exact hKX | (simp [upd, e3, e7] at hKX; exact hKX) | (simp [upd, e3, e7] at hKX ⊢; exact hKX)
    · simp at ho; subst ho; simp [Region.binds] at hdone
      have h6 : L 6 = true := by simp [hdone]
      have hKX := hKK (.pointer (some ⟨V, 3, none⟩)) Z (fun L2 h2 => ⟨hI.s9 h6 rfl L2 h2, hnb 9 (by decide) L2 h2⟩)
      simp [wpOpIn, Region.wanted, yielded, Oper.wpIn, Oper.semAt_eq, execOp, Oper.uponIn, go_sem]
      first | exact hKX | (simp [upd] at hKX; exact hKX) | (simp [upd] at hKX ⊢; exact hKX)
    · simp at ho; subst ho; simp [Region.binds] at hdone
      have h9 : L 9 = true := by simp [hdone]
      have h6 : L 6 = true := by
        cases h6 : L 6
        · rw [(hI.m1 h6).1.2.2.1] at h9; cases h9
        · rfl
      obtain ⟨hall, g', cap, e6, hloc⟩ := hI.e6 h6
      have e9 := hI.e9 h9
      have hB := hI.m2 h6
      rw [hL] at hB
      obtain ⟨_, _, _, _, _, _, _, _, _, _, _, _, _, _, _, _, _, t11⟩ := hB
      have u3 : Z.cell? ⟨V, 3, none⟩ = some (.slice pb ks.length cp) := by simp [World.cell?, t11]
      have v3 : Z.frozen? ⟨V, 3, none⟩ = false := by simp [World.frozen?, t11]
      have hKX := hKK undef (Z.setCell ⟨V, 3, none⟩ (zz 6)) (fun L2 h2 => ⟨hI.s10 h6 (fun hy => hy.hang HGV.out) L2 h2, hnb 10 (by decide) L2 h2⟩)
      rw [e6] at hKX
      simp [wpOpIn, Region.wanted, yielded, Oper.wpIn, Oper.semAt_eq, execOp, Oper.uponIn, go_sem, e6, e9, u3, v3]
      first | exact hKX | (simp [upd, e6, e9] at hKX; exact hKX) | (simp [upd, e6, e9] at hKX ⊢; exact hKX)
  · intro L zz Z hall hII
    obtain ⟨hI, hNB⟩ := hII
    have hnbf : nb = false := by
      cases hb : nb
      · rfl
      · have := hNB hb
        rw [hall 3 (by decide)] at this
        cases this
    have hB := hI.m2 (hall 6 (by decide))
    rw [hall 8 (by decide), hall 10 (by decide)] at hB
    obtain ⟨hkp, hr2, xs2, F2, hk2⟩ := hB.done HKJ.out.BV
    obtain ⟨_, rfl⟩ : nb = false ∧ r = .ok v q := by
      rcases HNV.out with hh | ⟨hh, _⟩
      · exact hh
      · rw [hnbf] at hh; cases hh
    have hbp2 : BoxP P g Z := by
      obtain ⟨fz, hb⟩ := HPB.out.1
      exact ⟨fz, (hkp.block P (Array.getElem?_eq_some_iff.1 hb).1 (by have := HPB.out.2.1; have := HGB.out; omega) HPB.out.2.2 (fun e => HPR.out e.symm)).trans hb⟩
    have hon : Onb g B w Z := ⟨hkp.os, hkp.tape, hkp.output, hkp.size, fun k h1 h2 => hkp.block k (by have := HKJ.out.lt; have := HKJ.out.BV; omega) h2 (by have := HKJ.out.BV; omega) (fun e => by have := (own_row_lt HKJ.out.own k e.symm).1; omega)⟩
    have hrx : Z.heap[R]? = some (.cells zr4 41 (0, 0)) ∧ B ≤ R ∧ R ≠ V ∧ (zz 6).ownBlock ≠ some R := by
      obtain ⟨x1, x2, x3, x4⟩ := HRX.out
      obtain ⟨_, g', cap, e6, hloc⟩ := hI.e6 (hall 6 (by decide))
      have hRlt := (Array.getElem?_eq_some_iff.1 x1).1
      refine ⟨(hkp.block R hRlt (by have := HGB.out; omega) x3 (fun e => x4 e.symm)).trans x1, x2, x3, fun e => ?_⟩
      rw [e6] at e
      have eR : g' = R := by simpa [Value.ownBlock] using e
      rcases hloc with l | l
      · exact x4 (by rw [← l, eR])
      · omega
    go_end0
    exact ⟨rfl, hr2, ⟨_, xs2, F2, hk2, hbp2, HPB.out.2.1, HPB.out.2.2, hrx⟩, hon⟩
end Go.Proofs.YtkplbggefiemdaaGreatDoor

namespace Go.Proofs.YtkplbggefiemdaaGreatDoor
open Go.RowKit Go.Shelf Go.Maps
set_option linter.unusedVariables false
set_option linter.unusedSimpArgs false
def keyL (t : ByteArray) : Lit := .string t.data.toList
/-- a set of names -/
def NmAt (M : Nat) (ns : List ByteArray) (w : World) : Prop := w.ownsMap Tryz.prog 9 (unitElem (H := Unit)) M ns.length (setOf (.agg []) (ns.map keyL))
theorem keyL_is (l : List ByteArray) : ∀ x ∈ l.map keyL, WideAt.IsKeyLit x := fun x hx => by
  obtain ⟨t, _, rfl⟩ := List.mem_map.1 hx
  exact trivial
theorem bl_data {a b : ByteArray} : (a.data.toList == b.data.toList) = decide (Sums.bl a = Sums.bl b) := by
  rw [Bool.eq_iff_iff]
  simp only [beq_iff_eq, decide_eq_true_eq]
  constructor
  · intro h
    have : a = b := by
      cases a; cases b
      simpa [Array.toList_inj] using h
    rw [this]
  · intro h
    rw [Sums.bl_inj h]
theorem nm_has (ns : List ByteArray) (t : ByteArray) : Maps.has (setOf (H := Unit) (.agg []) (ns.map keyL)) (keyL t) = amg ns t := by
  rw [has_setOf _ _ _ (keyL_is ns)]
  unfold amg
  rw [List.any_map]
  congr 1
  funext x
  exact bl_data
theorem NmAt.heap {M : Nat} {ns : List ByteArray} {w w' : World} (h : NmAt M ns w) (hs : w.heap.size ≤ w'.heap.size) (e : w'.heap[M]? = w.heap[M]?) : NmAt M ns w' := by
  obtain ⟨es, clock, hb, F, hr⟩ := h
  exact ⟨es, clock, e.trans hb, F, hr⟩
theorem NmAt.lt {M : Nat} {ns : List ByteArray} {w : World} (h : NmAt M ns w) : M < w.heap.size := World.ownsMap.lt h
theorem zeroU (w : World) : (zeroValue 133).run Tryz.prog w = .ok (.agg #[]) w := by kernel_rfl
/-- nothing has turned but two blocks -/
theorem Kp.refl (g M : Nat) (w : World) : Kp g M none w w := ⟨rfl, rfl, rfl, Nat.le_refl _, fun _ _ _ _ _ => rfl⟩
theorem Kp.trans {g M : Nat} {row : Option Nat} {a b c : World} (h : Kp g M row a b) (k : Kp g M row b c) : Kp g M row a c :=
  ⟨k.os.trans h.os, k.tape.trans h.tape, k.output.trans h.output, Nat.le_trans h.size k.size, fun i h1 h2 h3 h4 => (k.block i (Nat.lt_of_lt_of_le h1 h.size) h2 h3 h4).trans (h.block i h1 h2 h3 h4)⟩
/-- a method that answers a name -/
def Rv.PostN (r : Rv ByteArray) (M : Nat) (ns : List ByteArray) (g : Nat) (S : ByteArray) (d : Nat) (w : World) (e : Ending) (w' : World) : Prop :=
  match r with
  | .ok t p => e = .returned (.string t) ∧ Rr g S p d w' ∧ NmAt M (ns ++ [t]) w' ∧ Kp g M none w w'
  | .no c p => e = .panicked (flt c p) ∧ Kp g M none w w'
theorem postT_two {r : Rv ByteArray} {g : Nat} {S : ByteArray} {d : Nat} {w : World} {F : FuncId} {args : Array Value} (h : Calls Tryz.prog F args w (r.PostT g S d w)) :
    (∃ t q, r = .ok t q ∧ Calls Tryz.prog F args w fun e w' => e = .returned (.string t) ∧ Rr g S q d w' ∧ Only g w w') ∨ (∃ c q, r = .no c q ∧ Calls Tryz.prog F args w fun e w' => e = .panicked (flt c q) ∧ Only g w w') := by
  cases r with
  | ok v q => exact .inl ⟨v, q, rfl, h⟩
  | no c q => exact .inr ⟨c, q, rfl, h⟩
theorem nm_snoc {M : Nat} {ns : List ByteArray} {t : ByteArray} {w : World} (h : w.ownsMap Tryz.prog 9 (unitElem (H := Unit)) M (ns.length + 1) ((setOf (H := Unit) (.agg []) (ns.map keyL)).put (keyL t) (.agg []))) : NmAt M (ns ++ [t]) w := by
  unfold NmAt
  rw [List.map_append, List.map_cons, List.map_nil, setOf_snoc, List.length_append]
  exact h
theorem nm_grow {g M : Nat} {S : ByteArray} {q d : Nat} {w w1 w5 : World} (h : Rr g S q d w1) (ho : Only g w w1) (hg : g ≠ M) (hgrow5 : w1.grownBy w5 (some M)) : Rr g S q d w5 ∧ Kp g M none w w5 :=
  ⟨⟨(hgrow5.block g h.lt (by simp; exact hg)).trans h.row, h.le⟩, (Kp.of_only ho).trans ⟨hgrow5.os, hgrow5.tape, hgrow5.output, hgrow5.size, fun k k1 k2 k3 k4 => hgrow5.block k k1 (by simp; exact k3)⟩⟩
set_option maxRecDepth 100000 in
set_option maxHeartbeats 8000000 in
theorem name_any (pq : Nat → Rv ByteArray) (g M : Nat) (S : ByteArray) (d p : Nat) (ns : List ByteArray) (w : World) (h : Rr g S p d w) (ht : RwT w) (hm : NmAt M ns w) (hS : S.size ≤ 65536) (hn : ns.length ≤ 65536) (hg8 : g ≠ 6) (hgM : g ≠ M)
    (hpl : ∀ a t b, pq a = .ok t b → t.size ≤ 65536)
    (hq : ∀ a X, Rr g S a d X → RwT X → Calls Tryz.prog 128 #[.pointer (some ⟨g, 0, none⟩)] X ((pq a).PostT g S d X)) :
    Calls Tryz.prog 161 #[.pointer (some ⟨g, 0, none⟩), .map (some M)] w ((namP pq (Sums.bl S) ns p).PostN M ns g S d w) := by
  have HS := Hid.mk' hS
  have HR := Hid.mk' h
  have HT := Hid.mk' ht
  have HM := Hid.mk' hm
  have HN := Hid.mk' hn
  have HG := Hid.mk' (And.intro hg8 hgM)
  have HQ := Hid.mk' hq
  have HPL := Hid.mk' hpl
  obtain ⟨r, hr⟩ : ∃ r, namP pq (Sums.bl S) ns p = r := ⟨_, rfl⟩
  rw [hr]
  obtain ⟨a, ha⟩ : ∃ a, blP (Sums.bl S) p = a := ⟨_, rfl⟩
  have HE : Hid (((pq a).bind fun t q => if amg ns t = true then .no 131 a else if rngO 58 58 ((Sums.bl S).drop (blP (Sums.bl S) q)) = true then .ok t (blP (Sums.bl S) q + 1) else .no 130 (blP (Sums.bl S) q)) = r) := Hid.mk' (by rw [← hr, ← ha]; rfl)
  have HA := Hid.mk' ha
  clear h ht hm hS hn hg8 hgM hq hpl hr ha
  go_enter Tryz.func161, Tryz.ntmps161
  go_wp2_with fail
  refine (blanks_any g S p d _ HR.out HS.out).mono ?_
  rintro e w1 ⟨rfl, hr1, ho1⟩
  have H1 : Hid (Rr g S a d w1 ∧ Only g w w1) := Hid.mk' (by rw [HA.out] at hr1; exact ⟨hr1, ho1⟩)
  clear hr1 ho1 HA HR
  obtain ⟨c0, c1, c2, f1, f2⟩ := H1.out.1.cells
  go_wp2_with fail
  clear c0 c1 c2 f1 f2
  rcases postT_two (HQ.out a _ H1.out.1 (HT.out.only H1.out.2 HG.out.1)) with ⟨t, q, ha, hc⟩ | ⟨c, q, ha, hc⟩
  · refine hc.mono ?_
    rintro e w2 ⟨rfl, hr2, ho2⟩
    have H2 : Hid (Rr g S q d w2 ∧ Only g w w2) := ⟨hr2, H1.out.2.trans ho2⟩
    have hE := HE.out
    rw [ha] at hE
    have hts := HPL.out _ _ _ ha
    have HK : Hid (keyOf Tryz.prog 9 (.string t) = some (keyL t)) := Hid.mk' (WideMaps.keyOf_string_mk Tryz.underlying9 (by unfold maxLen; omega))
    have HM2 : Hid (NmAt M ns w2) := Hid.mk' (HM.out.heap H2.out.2.size (H2.out.2.block M HM.out.lt (Ne.symm HG.out.2)))
    clear hr2 ho2 hc ha H1 HE HQ HPL hts
    obtain ⟨b, hb⟩ : ∃ b, amg ns t = b := ⟨_, rfl⟩
    have HE2 : Hid ((if b = true then .no 131 a else if rngO 58 58 ((Sums.bl S).drop (blP (Sums.bl S) q)) = true then .ok t (blP (Sums.bl S) q + 1) else .no 130 (blP (Sums.bl S) q)) = r) := Hid.mk' (by rw [← hE, ← hb]; rfl)
    have HHB : Hid (Maps.has (setOf (H := Unit) (.agg []) (ns.map keyL)) (keyL t) = b) := Hid.mk' ((nm_has ns t).trans hb)
    clear hE hb
    have HAL : Hid (∀ o : Obj, Rr g S q d (w2.alloc o) ∧ NmAt M ns (w2.alloc o) ∧ Only g w (w2.alloc o)) := Hid.mk' (fun o => ⟨H2.out.1.below ((Below.refl w2.heap.size w2).alloc (Nat.le_refl _) _) H2.out.1.lt, HM2.out.alloc o, H2.out.2.alloc o⟩)
    cases b
    · go_wp2_with (first | (at_lookup; refine wpList_lookup_own_unit _ rfl _ _ 132 rfl 9 133 (string_keyed Tryz.underlying9) Tryz.underlying132 (zeroU _) M ns.length (setOf (H := Unit) (.agg []) (ns.map keyL)) rfl (by exact HM2.out) _ _ rfl HK.out ?_; rw [HHB.out]) | (at_mapUpdate; refine wpList_mapUpdate_own _ rfl _ _ _ 132 rfl 9 133 (string_keyed Tryz.underlying9) Tryz.underlying132 (unitElem (H := Unit)) M ns.length (setOf (H := Unit) (.agg []) (ns.map keyL)) rfl (by exact (HAL.out _).2.1) (by unfold maxLen; have := HN.out; omega) _ _ _ rfl rfl HK.out (.agg []) [] unitElem_mk ?_; intro w5 hown5 hgrow5; have HM5 : Hid (NmAt M (ns ++ [t]) w5) := Hid.mk' (nm_snoc hown5); have HG5 : Hid (Rr g S q d w5 ∧ Kp g M none w w5) := Hid.mk' (nm_grow (HAL.out _).1 (HAL.out _).2.2 HG.out.2 hgrow5); clear hown5 hgrow5) | fail)
      have HE3 : Hid ((if rngO 58 58 ((Sums.bl S).drop (blP (Sums.bl S) q)) = true then .ok t (blP (Sums.bl S) q + 1) else .no 130 (blP (Sums.bl S) q)) = r) := HE2
      clear HE2 HAL HM2 H2 HK HHB
      refine (blanks_any g S q d _ HG5.out.1 HS.out).mono ?_
      rintro e w6 ⟨rfl, hr6, ho6⟩
      obtain ⟨z, hz⟩ : ∃ z, blP (Sums.bl S) q = z := ⟨_, rfl⟩
      rw [hz] at hr6 HE3
      have H6 : Hid (Rr g S z d w6 ∧ NmAt M (ns ++ [t]) w6 ∧ Kp g M none w w6) := Hid.mk' ⟨hr6, HM5.out.heap ho6.size (ho6.block M HM5.out.lt (Ne.symm HG.out.2)), HG5.out.2.trans (Kp.of_only ho6)⟩
      clear hr6 ho6 hz HG5 HM5
      obtain ⟨b, hb⟩ : ∃ b, rngO 58 58 ((Sums.bl S).drop z) = b := ⟨_, rfl⟩
      rw [hb] at HE3
      have HND := Hid.mk' (need_any g S z d 58 _ w6 H6.out.1 HS.out rfl)
      rw [hb] at HND
      clear hb
      go_wp2_with fail
      refine HND.out.mono ?_
      cases b
      · rintro e w7 ⟨rfl, hr7, ho7⟩
        have hr2 : Rv.no 130 z = r := HE3.out
        subst hr2
        exact ⟨rfl, rfl, H6.out.2.2.trans (Kp.of_only ho7)⟩
      · rintro e w7 ⟨he, hr7, ho7⟩
        have he2 : e = .returned (.tuple #[]) := he
        subst he2
        have hr2 : Rv.ok t (z + 1) = r := HE3.out
        subst hr2
        have H7 : Hid (Rr g S (z + 1) d w7 ∧ NmAt M (ns ++ [t]) w7 ∧ Kp g M none w w7) := Hid.mk' ⟨hr7, H6.out.2.1.heap ho7.size (ho7.block M H6.out.2.1.lt (Ne.symm HG.out.2)), H6.out.2.2.trans (Kp.of_only ho7)⟩
        clear hr7 ho7 he HND H6 HE3
        go_wp2_with fail
        go_ret
        exact ⟨rfl, H7.out⟩
    · go_wp2_with (first | (at_lookup; refine wpList_lookup_own_unit _ rfl _ _ 132 rfl 9 133 (string_keyed Tryz.underlying9) Tryz.underlying132 (zeroU _) M ns.length (setOf (H := Unit) (.agg []) (ns.map keyL)) rfl (by exact HM2.out) _ _ rfl HK.out ?_; rw [HHB.out]) | fail)
      refine (giveUp_any g 131 a _).mono ?_
      rintro e w6 ⟨rfl, hw⟩
      have hw2 := hw.symm
      subst hw2
      have hr2 : Rv.no 131 a = r := HE2.out
      subst hr2
      exact ⟨rfl, rfl, Kp.of_only (HAL.out _).2.2⟩
  · refine hc.mono ?_
    rintro e w2 ⟨rfl, ho2⟩
    have hE := HE.out
    rw [ha] at hE
    have hr2 : Rv.no c q = r := hE
    subst hr2
    exact ⟨rfl, rfl, Kp.of_only (H1.out.2.trans ho2)⟩
end Go.Proofs.YtkplbggefiemdaaGreatDoor
