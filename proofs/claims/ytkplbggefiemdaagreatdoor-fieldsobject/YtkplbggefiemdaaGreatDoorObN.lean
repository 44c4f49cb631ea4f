/-
  object: the reader: what object does within its brackets: a name, and a value behind it. Conditions: as each says.
-/
import Derived.Test.YtkplbggefiemdaaGreatDoorObKM
namespace Go.Proofs.YtkplbggefiemdaaGreatDoor
open Go.RowKit Go.Shelf
set_option linter.unusedVariables false
set_option linter.unusedSimpArgs false
/-- a box that leads to a set of names -/
def BoxM (P M : Nat) (w : World) : Prop := ∃ fz, w.heap[P]? = some (.cells #[.map (some M)] 132 fz)
theorem BoxM.cell {P M : Nat} {w : World} (h : BoxM P M w) : w.cell? ⟨P, 0, none⟩ = some (.map (some M)) := by
  obtain ⟨fz, h⟩ := h
  simp [World.cell?, h]
/-- nothing has turned but three blocks and a row -/
structure Kq (g M V : Nat) (row : Option Nat) (w w' : World) : Prop where
  os : w'.os = w.os
  tape : w'.tape = w.tape
  output : w'.output = w.output
  size : w.heap.size ≤ w'.heap.size
  block : ∀ k, k < w.heap.size → k ≠ g → k ≠ M → k ≠ V → some k ≠ row → w'.heap[k]? = w.heap[k]?
theorem strs_info : (Tryz.prog.info? 9).map (fun i => (i.zero, i.size, i.bytes)) = some (some (.string ByteArray.empty), 1, 16) := by kernel_rfl
theorem build_str (t : ByteArray) (w : World) : (Instr.buildSlice 36 1 #[(0, .string t)]).run Tryz.prog w = .ok (.slice (some ⟨w.heap.size, 0, none⟩) 1 1) (w.alloc (.cells #[.string t] 9)) := by
  obtain ⟨i0, hi, hz0, hz1, _⟩ := info_parts strs_info
  refine run_buildSlice w 36 9 1 _ #[.string t] i0 (.string ByteArray.empty) Tryz.underlying36 hi hz0 (by rw [hz1]; decide) (by rw [hz1]; decide) ?_
  rw [hz1]
  kernel_rfl
theorem append_str (w : World) (B : Nat) (v : Value) (n : Nat) (xs : List Value) (t : ByteArray) (h : w.ownsRow B 9 1 v n xs) (b5 : Nat) (h5 : w.heap[b5]? = some (.cells #[.string t] 9 (0, 0))) (hn : n ≤ 65536) (hB : B ≤ w.heap.size) (ty : TypeId) :
    ∃ v' w', (Builtin.append_ #[36, 36] ty #[v, .slice (some ⟨b5, 0, none⟩) 1 1]).run Tryz.prog w = .ok v' w' ∧ w'.ownsRow B 9 1 v' (n + 1) (xs ++ [.string t]) ∧ w.grownBy w' v.ownBlock ∧ (v'.ownBlock = v.ownBlock ∨ v'.ownBlock = some w.heap.size) := by
  obtain ⟨i0, hi, hz0, hz1, hz2⟩ := info_parts strs_info
  obtain ⟨v', w', a1, a2, a3, a4, a5⟩ := run_append_own_at (P := Tryz.prog) (w := w) B 36 ty 9 i0 (.string ByteArray.empty) 1 16 Tryz.underlying36 hi hz0 hz1 hz2 rfl (by decide) v n xs h ⟨b5, 0, none⟩ 1 1 [.string t] rfl (fun j u hj => by
      have hj0 : j = 0 := by
        have := (List.getElem?_eq_some_iff.1 hj).1
        simpa using this
      subst hj0
      have : (⟨b5, 0, none⟩ : Addr).add 0 = ⟨b5, 0, none⟩ := rfl
      rw [this]
      simp at hj
      simp [World.cell?, h5, hj]) (by simp [Value.oneCell']) (by unfold maxLen; omega) (by omega) hB
  exact ⟨v', w', a1, a2, a3, a5⟩
/-- ahead of the append -/
def NA (g M : Nat) (S : ByteArray) (d p q : Nat) (ns : List ByteArray) (t : ByteArray) (W0 : World) (l4 l5 : Bool) (f4 f5 : Value) (X : World) : Prop :=
  Kp g M none W0 X ∧ (if l4 = true then f4 = .string t ∧ Rr g S q d X ∧ NmAt M (ns ++ [t]) X else Rr g S p d X ∧ NmAt M ns X) ∧
  (l5 = true → l4 = true ∧ ∃ b5, f5 = .slice (some ⟨b5, 0, none⟩) 1 1 ∧ W0.heap.size ≤ b5 ∧ b5 < X.heap.size ∧ X.heap[b5]? = some (.cells #[.string t] 9 (0, 0)))
/-- behind it -/
structure NB (g M V : Nat) (S : ByteArray) (d q B : Nat) (ns : List ByteArray) (t : ByteArray) (kk ss vn vk : Value) (W0 : World) (l8 : Bool) (f6 : Value) (X : World) : Prop where
  rr : Rr g S q d X
  nm : NmAt M (ns ++ [t]) X
  own : X.ownsRow B 9 1 f6 (ns.length + 1) ((ns ++ [t]).map Value.string)
  box : X.heap[V]? = some (.cells #[kk, ss, if l8 = true then f6 else vn, vk] 41 (0, 0))
  loc : f6.ownBlock = vn.ownBlock ∨ ∃ b, f6.ownBlock = some b ∧ W0.heap.size ≤ b
  kq : Kq g M V vn.ownBlock W0 X
structure NI (g M V : Nat) (S : ByteArray) (d p q B : Nat) (ns : List ByteArray) (t : ByteArray) (kk ss vn vk : Value) (W0 : World) (L : Nat → Bool) (f : Nat → Value) (X : World) : Prop where
  e0 : L 0 = true → f 0 = .pointer (some ⟨V, 2, none⟩)
  e1 : L 1 = true → f 1 = vn
  e2 : L 2 = true → f 2 = .pointer (some ⟨g, 0, none⟩)
  e3 : L 3 = true → f 3 = .map (some M)
  e7 : L 7 = true → f 7 = .pointer (some ⟨V, 2, none⟩)
  e4 : L 4 = true → f 4 = .string t
  e6 : L 6 = true → (∀ k, k < 6 → L k = true)
  dd : (L 1 = true → L 0 = true) ∧ (L 4 = true → L 2 = true ∧ L 3 = true)
  m1 : L 6 = false → (L 7 = false ∧ L 8 = false) ∧ NA g M S d p q ns t W0 (L 4) (L 5) (f 4) (f 5) X
  m2 : L 6 = true → NB g M V S d q B ns t kk ss vn vk W0 (L 8) (f 6) X
theorem NI.s0 {g M V : Nat} {S : ByteArray} {d p q B : Nat} {ns : List ByteArray} {t : ByteArray} {kk ss vn vk : Value} {W0 : World} {L : Nat → Bool} {f : Nat → Value} {X : World} {u : Value} (h : NI g M V S d p q B ns t kk ss vn vk W0 L f X) (h6 : L 6 = false) (hu : u = .pointer (some ⟨V, 2, none⟩)) : ∀ L2 : Nat → Bool, (∀ k, L2 k = if k = 0 then true else L k) → NI g M V S d p q B ns t kk ss vn vk W0 L2 (upd f 0 u) X := by
  intro L2 hL2
  have hj : ∀ k, k ≠ 0 → L2 k = L k := fun k hk => by rw [hL2, if_neg hk]
  have hi : L2 0 = true := by rw [hL2, if_pos rfl]
  refine ⟨?_, ?_, ?_, ?_, ?_, ?_, ?_, ?_, ?_, ?_⟩
  · exact fun _ => hu
  · exact fun x => h.e1 ((hj 1 (by decide)).symm.trans x)
  · exact fun x => h.e2 ((hj 2 (by decide)).symm.trans x)
  · exact fun x => h.e3 ((hj 3 (by decide)).symm.trans x)
  · exact fun x => h.e7 ((hj 7 (by decide)).symm.trans x)
  · exact fun x => h.e4 ((hj 4 (by decide)).symm.trans x)
  · intro x
    have y := h.e6 ((hj 6 (by decide)).symm.trans x)
    exact fun k hk => (by rw [hL2]; split <;> first | rfl | exact y k hk)
  · have up : ∀ k, L k = true → L2 k = true := fun k hk => by rw [hL2]; split <;> first | rfl | exact hk
    exact ⟨fun x => up 0 (h.dd.1 ((hj 1 (by decide)).symm.trans x)), fun x => ⟨up 2 (h.dd.2 ((hj 4 (by decide)).symm.trans x)).1, up 3 (h.dd.2 ((hj 4 (by decide)).symm.trans x)).2⟩⟩
  · intro x
    obtain ⟨⟨y1, y2⟩, y⟩ := h.m1 h6
    refine ⟨⟨(hj 7 (by decide)).trans y1, (hj 8 (by decide)).trans y2⟩, ?_⟩
    rw [hj 4 (by decide), hj 5 (by decide)]
    exact y
  · intro x
    rw [hj 6 (by decide), h6] at x
    cases x
theorem NI.s1 {g M V : Nat} {S : ByteArray} {d p q B : Nat} {ns : List ByteArray} {t : ByteArray} {kk ss vn vk : Value} {W0 : World} {L : Nat → Bool} {f : Nat → Value} {X : World} {u : Value} (h : NI g M V S d p q B ns t kk ss vn vk W0 L f X) (h6 : L 6 = false) (hu : u = vn) (hd : L 0 = true) : ∀ L2 : Nat → Bool, (∀ k, L2 k = if k = 1 then true else L k) → NI g M V S d p q B ns t kk ss vn vk W0 L2 (upd f 1 u) X := by
  intro L2 hL2
  have hj : ∀ k, k ≠ 1 → L2 k = L k := fun k hk => by rw [hL2, if_neg hk]
  have hi : L2 1 = true := by rw [hL2, if_pos rfl]
  refine ⟨?_, ?_, ?_, ?_, ?_, ?_, ?_, ?_, ?_, ?_⟩
  · exact fun x => h.e0 ((hj 0 (by decide)).symm.trans x)
  · exact fun _ => hu
  · exact fun x => h.e2 ((hj 2 (by decide)).symm.trans x)
  · exact fun x => h.e3 ((hj 3 (by decide)).symm.trans x)
  · exact fun x => h.e7 ((hj 7 (by decide)).symm.trans x)
  · exact fun x => h.e4 ((hj 4 (by decide)).symm.trans x)
  · intro x
    have y := h.e6 ((hj 6 (by decide)).symm.trans x)
    exact fun k hk => (by rw [hL2]; split <;> first | rfl | exact y k hk)
  · have up : ∀ k, L k = true → L2 k = true := fun k hk => by rw [hL2]; split <;> first | rfl | exact hk
    exact ⟨fun _ => up 0 hd, fun x => ⟨up 2 (h.dd.2 ((hj 4 (by decide)).symm.trans x)).1, up 3 (h.dd.2 ((hj 4 (by decide)).symm.trans x)).2⟩⟩
  · intro x
    obtain ⟨⟨y1, y2⟩, y⟩ := h.m1 h6
    refine ⟨⟨(hj 7 (by decide)).trans y1, (hj 8 (by decide)).trans y2⟩, ?_⟩
    rw [hj 4 (by decide), hj 5 (by decide)]
    exact y
  · intro x
    rw [hj 6 (by decide), h6] at x
    cases x
theorem NI.s2 {g M V : Nat} {S : ByteArray} {d p q B : Nat} {ns : List ByteArray} {t : ByteArray} {kk ss vn vk : Value} {W0 : World} {L : Nat → Bool} {f : Nat → Value} {X : World} {u : Value} (h : NI g M V S d p q B ns t kk ss vn vk W0 L f X) (h6 : L 6 = false) (hu : u = .pointer (some ⟨g, 0, none⟩)) : ∀ L2 : Nat → Bool, (∀ k, L2 k = if k = 2 then true else L k) → NI g M V S d p q B ns t kk ss vn vk W0 L2 (upd f 2 u) X := by
  intro L2 hL2
  have hj : ∀ k, k ≠ 2 → L2 k = L k := fun k hk => by rw [hL2, if_neg hk]
  have hi : L2 2 = true := by rw [hL2, if_pos rfl]
  refine ⟨?_, ?_, ?_, ?_, ?_, ?_, ?_, ?_, ?_, ?_⟩
  · exact fun x => h.e0 ((hj 0 (by decide)).symm.trans x)
  · exact fun x => h.e1 ((hj 1 (by decide)).symm.trans x)
  · exact fun _ => hu
  · exact fun x => h.e3 ((hj 3 (by decide)).symm.trans x)
  · exact fun x => h.e7 ((hj 7 (by decide)).symm.trans x)
  · exact fun x => h.e4 ((hj 4 (by decide)).symm.trans x)
  · intro x
    have y := h.e6 ((hj 6 (by decide)).symm.trans x)
    exact fun k hk => (by rw [hL2]; split <;> first | rfl | exact y k hk)
  · have up : ∀ k, L k = true → L2 k = true := fun k hk => by rw [hL2]; split <;> first | rfl | exact hk
    exact ⟨fun x => up 0 (h.dd.1 ((hj 1 (by decide)).symm.trans x)), fun x => ⟨up 2 (h.dd.2 ((hj 4 (by decide)).symm.trans x)).1, up 3 (h.dd.2 ((hj 4 (by decide)).symm.trans x)).2⟩⟩
  · intro x
    obtain ⟨⟨y1, y2⟩, y⟩ := h.m1 h6
    refine ⟨⟨(hj 7 (by decide)).trans y1, (hj 8 (by decide)).trans y2⟩, ?_⟩
    rw [hj 4 (by decide), hj 5 (by decide)]
    exact y
  · intro x
    rw [hj 6 (by decide), h6] at x
    cases x
theorem NI.s3 {g M V : Nat} {S : ByteArray} {d p q B : Nat} {ns : List ByteArray} {t : ByteArray} {kk ss vn vk : Value} {W0 : World} {L : Nat → Bool} {f : Nat → Value} {X : World} {u : Value} (h : NI g M V S d p q B ns t kk ss vn vk W0 L f X) (h6 : L 6 = false) (hu : u = .map (some M)) : ∀ L2 : Nat → Bool, (∀ k, L2 k = if k = 3 then true else L k) → NI g M V S d p q B ns t kk ss vn vk W0 L2 (upd f 3 u) X := by
  intro L2 hL2
  have hj : ∀ k, k ≠ 3 → L2 k = L k := fun k hk => by rw [hL2, if_neg hk]
  have hi : L2 3 = true := by rw [hL2, if_pos rfl]
  refine ⟨?_, ?_, ?_, ?_, ?_, ?_, ?_, ?_, ?_, ?_⟩
  · exact fun x => h.e0 ((hj 0 (by decide)).symm.trans x)
  · exact fun x => h.e1 ((hj 1 (by decide)).symm.trans x)
  · exact fun x => h.e2 ((hj 2 (by decide)).symm.trans x)
  · exact fun _ => hu
  · exact fun x => h.e7 ((hj 7 (by decide)).symm.trans x)
  · exact fun x => h.e4 ((hj 4 (by decide)).symm.trans x)
  · intro x
    have y := h.e6 ((hj 6 (by decide)).symm.trans x)
    exact fun k hk => (by rw [hL2]; split <;> first | rfl | exact y k hk)
  · have up : ∀ k, L k = true → L2 k = true := fun k hk => by rw [hL2]; split <;> first | rfl | exact hk
    exact ⟨fun x => up 0 (h.dd.1 ((hj 1 (by decide)).symm.trans x)), fun x => ⟨up 2 (h.dd.2 ((hj 4 (by decide)).symm.trans x)).1, up 3 (h.dd.2 ((hj 4 (by decide)).symm.trans x)).2⟩⟩
  · intro x
    obtain ⟨⟨y1, y2⟩, y⟩ := h.m1 h6
    refine ⟨⟨(hj 7 (by decide)).trans y1, (hj 8 (by decide)).trans y2⟩, ?_⟩
    rw [hj 4 (by decide), hj 5 (by decide)]
    exact y
  · intro x
    rw [hj 6 (by decide), h6] at x
    cases x
theorem NI.s4 {g M V : Nat} {S : ByteArray} {d p q B : Nat} {ns : List ByteArray} {t : ByteArray} {kk ss vn vk : Value} {W0 : World} {L : Nat → Bool} {f : Nat → Value} {X Y : World} {u : Value} (h : NI g M V S d p q B ns t kk ss vn vk W0 L f X) (h6 : L 6 = false) (hd : L 2 = true ∧ L 3 = true) (hu : u = .string t) (hn : NA g M S d p q ns t W0 (L 4) (L 5) (f 4) (f 5) X → NA g M S d p q ns t W0 true (L 5) u (f 5) Y) : ∀ L2 : Nat → Bool, (∀ k, L2 k = if k = 4 then true else L k) → NI g M V S d p q B ns t kk ss vn vk W0 L2 (upd f 4 u) Y := by
  intro L2 hL2
  have hj : ∀ k, k ≠ 4 → L2 k = L k := fun k hk => by rw [hL2, if_neg hk]
  have hi : L2 4 = true := by rw [hL2, if_pos rfl]
  refine ⟨?_, ?_, ?_, ?_, ?_, ?_, ?_, ?_, ?_, ?_⟩
  · exact fun x => h.e0 ((hj 0 (by decide)).symm.trans x)
  · exact fun x => h.e1 ((hj 1 (by decide)).symm.trans x)
  · exact fun x => h.e2 ((hj 2 (by decide)).symm.trans x)
  · exact fun x => h.e3 ((hj 3 (by decide)).symm.trans x)
  · exact fun x => h.e7 ((hj 7 (by decide)).symm.trans x)
  · exact fun _ => hu
  · intro x
    have y := h.e6 ((hj 6 (by decide)).symm.trans x)
    exact fun k hk => (by rw [hL2]; split <;> first | rfl | exact y k hk)
  · have up : ∀ k, L k = true → L2 k = true := fun k hk => by rw [hL2]; split <;> first | rfl | exact hk
    exact ⟨fun x => up 0 (h.dd.1 ((hj 1 (by decide)).symm.trans x)), fun _ => ⟨up 2 hd.1, up 3 hd.2⟩⟩
  · intro x
    obtain ⟨⟨y1, y2⟩, y⟩ := h.m1 h6
    refine ⟨⟨(hj 7 (by decide)).trans y1, (hj 8 (by decide)).trans y2⟩, ?_⟩
    rw [hi, hj 5 (by decide)]
    exact hn y
  · intro x
    rw [hj 6 (by decide), h6] at x
    cases x
theorem NI.s5 {g M V : Nat} {S : ByteArray} {d p q B : Nat} {ns : List ByteArray} {t : ByteArray} {kk ss vn vk : Value} {W0 : World} {L : Nat → Bool} {f : Nat → Value} {X Y : World} {u : Value} (h : NI g M V S d p q B ns t kk ss vn vk W0 L f X) (h6 : L 6 = false) (hn : NA g M S d p q ns t W0 (L 4) (L 5) (f 4) (f 5) X → NA g M S d p q ns t W0 (L 4) true (f 4) u Y) : ∀ L2 : Nat → Bool, (∀ k, L2 k = if k = 5 then true else L k) → NI g M V S d p q B ns t kk ss vn vk W0 L2 (upd f 5 u) Y := by
  intro L2 hL2
  have hj : ∀ k, k ≠ 5 → L2 k = L k := fun k hk => by rw [hL2, if_neg hk]
  have hi : L2 5 = true := by rw [hL2, if_pos rfl]
  refine ⟨?_, ?_, ?_, ?_, ?_, ?_, ?_, ?_, ?_, ?_⟩
  · exact fun x => h.e0 ((hj 0 (by decide)).symm.trans x)
  · exact fun x => h.e1 ((hj 1 (by decide)).symm.trans x)
  · exact fun x => h.e2 ((hj 2 (by decide)).symm.trans x)
  · exact fun x => h.e3 ((hj 3 (by decide)).symm.trans x)
  · exact fun x => h.e7 ((hj 7 (by decide)).symm.trans x)
  · exact fun x => h.e4 ((hj 4 (by decide)).symm.trans x)
  · intro x
    have y := h.e6 ((hj 6 (by decide)).symm.trans x)
    exact fun k hk => (by rw [hL2]; split <;> first | rfl | exact y k hk)
  · have up : ∀ k, L k = true → L2 k = true := fun k hk => by rw [hL2]; split <;> first | rfl | exact hk
    exact ⟨fun x => up 0 (h.dd.1 ((hj 1 (by decide)).symm.trans x)), fun x => ⟨up 2 (h.dd.2 ((hj 4 (by decide)).symm.trans x)).1, up 3 (h.dd.2 ((hj 4 (by decide)).symm.trans x)).2⟩⟩
  · intro x
    obtain ⟨⟨y1, y2⟩, y⟩ := h.m1 h6
    refine ⟨⟨(hj 7 (by decide)).trans y1, (hj 8 (by decide)).trans y2⟩, ?_⟩
    rw [hj 4 (by decide), hi]
    exact hn y
  · intro x
    rw [hj 6 (by decide), h6] at x
    cases x
theorem NI.s6 {g M V : Nat} {S : ByteArray} {d p q B : Nat} {ns : List ByteArray} {t : ByteArray} {kk ss vn vk : Value} {W0 : World} {L : Nat → Bool} {f : Nat → Value} {X Y : World} {u : Value} (h : NI g M V S d p q B ns t kk ss vn vk W0 L f X) (h6 : L 6 = false) (hd : ∀ k, k < 6 → L k = true) (hn : NA g M S d p q ns t W0 (L 4) (L 5) (f 4) (f 5) X → NB g M V S d q B ns t kk ss vn vk W0 false u Y) : ∀ L2 : Nat → Bool, (∀ k, L2 k = if k = 6 then true else L k) → NI g M V S d p q B ns t kk ss vn vk W0 L2 (upd f 6 u) Y := by
  intro L2 hL2
  have hj : ∀ k, k ≠ 6 → L2 k = L k := fun k hk => by rw [hL2, if_neg hk]
  have hi : L2 6 = true := by rw [hL2, if_pos rfl]
  refine ⟨?_, ?_, ?_, ?_, ?_, ?_, ?_, ?_, ?_, ?_⟩
  · exact fun x => h.e0 ((hj 0 (by decide)).symm.trans x)
  · exact fun x => h.e1 ((hj 1 (by decide)).symm.trans x)
  · exact fun x => h.e2 ((hj 2 (by decide)).symm.trans x)
  · exact fun x => h.e3 ((hj 3 (by decide)).symm.trans x)
  · exact fun x => h.e7 ((hj 7 (by decide)).symm.trans x)
  · exact fun x => h.e4 ((hj 4 (by decide)).symm.trans x)
  · intro x
    exact fun k hk => (hj k (by omega)).trans (hd k hk)
  · have up : ∀ k, L k = true → L2 k = true := fun k hk => by rw [hL2]; split <;> first | rfl | exact hk
    exact ⟨fun x => up 0 (h.dd.1 ((hj 1 (by decide)).symm.trans x)), fun x => ⟨up 2 (h.dd.2 ((hj 4 (by decide)).symm.trans x)).1, up 3 (h.dd.2 ((hj 4 (by decide)).symm.trans x)).2⟩⟩
  · intro x
    rw [hi] at x
    cases x
  · intro x
    obtain ⟨⟨y1, y2⟩, y⟩ := h.m1 h6
    rw [hj 8 (by decide), y2]
    exact hn y
theorem NI.s7 {g M V : Nat} {S : ByteArray} {d p q B : Nat} {ns : List ByteArray} {t : ByteArray} {kk ss vn vk : Value} {W0 : World} {L : Nat → Bool} {f : Nat → Value} {X : World} {u : Value} (h : NI g M V S d p q B ns t kk ss vn vk W0 L f X) (h6 : L 6 = true) (hu : u = .pointer (some ⟨V, 2, none⟩)) : ∀ L2 : Nat → Bool, (∀ k, L2 k = if k = 7 then true else L k) → NI g M V S d p q B ns t kk ss vn vk W0 L2 (upd f 7 u) X := by
  intro L2 hL2
  have hj : ∀ k, k ≠ 7 → L2 k = L k := fun k hk => by rw [hL2, if_neg hk]
  have hi : L2 7 = true := by rw [hL2, if_pos rfl]
  refine ⟨?_, ?_, ?_, ?_, ?_, ?_, ?_, ?_, ?_, ?_⟩
  · exact fun x => h.e0 ((hj 0 (by decide)).symm.trans x)
  · exact fun x => h.e1 ((hj 1 (by decide)).symm.trans x)
  · exact fun x => h.e2 ((hj 2 (by decide)).symm.trans x)
  · exact fun x => h.e3 ((hj 3 (by decide)).symm.trans x)
  · exact fun _ => hu
  · exact fun x => h.e4 ((hj 4 (by decide)).symm.trans x)
  · intro x
    have y := h.e6 ((hj 6 (by decide)).symm.trans x)
    exact fun k hk => (by rw [hL2]; split <;> first | rfl | exact y k hk)
  · have up : ∀ k, L k = true → L2 k = true := fun k hk => by rw [hL2]; split <;> first | rfl | exact hk
    exact ⟨fun x => up 0 (h.dd.1 ((hj 1 (by decide)).symm.trans x)), fun x => ⟨up 2 (h.dd.2 ((hj 4 (by decide)).symm.trans x)).1, up 3 (h.dd.2 ((hj 4 (by decide)).symm.trans x)).2⟩⟩
  · intro x
    rw [hj 6 (by decide), h6] at x
    cases x
  · intro x
    rw [hj 8 (by decide)]
    exact h.m2 h6
theorem NI.s8 {g M V : Nat} {S : ByteArray} {d p q B : Nat} {ns : List ByteArray} {t : ByteArray} {kk ss vn vk : Value} {W0 : World} {L : Nat → Bool} {f : Nat → Value} {X Y : World} {u : Value} (h : NI g M V S d p q B ns t kk ss vn vk W0 L f X) (h6 : L 6 = true) (hn : NB g M V S d q B ns t kk ss vn vk W0 (L 8) (f 6) X → NB g M V S d q B ns t kk ss vn vk W0 true (f 6) Y) : ∀ L2 : Nat → Bool, (∀ k, L2 k = if k = 8 then true else L k) → NI g M V S d p q B ns t kk ss vn vk W0 L2 (upd f 8 u) Y := by
  intro L2 hL2
  have hj : ∀ k, k ≠ 8 → L2 k = L k := fun k hk => by rw [hL2, if_neg hk]
  have hi : L2 8 = true := by rw [hL2, if_pos rfl]
  refine ⟨?_, ?_, ?_, ?_, ?_, ?_, ?_, ?_, ?_, ?_⟩
  · exact fun x => h.e0 ((hj 0 (by decide)).symm.trans x)
  · exact fun x => h.e1 ((hj 1 (by decide)).symm.trans x)
  · exact fun x => h.e2 ((hj 2 (by decide)).symm.trans x)
  · exact fun x => h.e3 ((hj 3 (by decide)).symm.trans x)
  · exact fun x => h.e7 ((hj 7 (by decide)).symm.trans x)
  · exact fun x => h.e4 ((hj 4 (by decide)).symm.trans x)
  · intro x
    have y := h.e6 ((hj 6 (by decide)).symm.trans x)
    exact fun k hk => (by rw [hL2]; split <;> first | rfl | exact y k hk)
  · have up : ∀ k, L k = true → L2 k = true := fun k hk => by rw [hL2]; split <;> first | rfl | exact hk
    exact ⟨fun x => up 0 (h.dd.1 ((hj 1 (by decide)).symm.trans x)), fun x => ⟨up 2 (h.dd.2 ((hj 4 (by decide)).symm.trans x)).1, up 3 (h.dd.2 ((hj 4 (by decide)).symm.trans x)).2⟩⟩
  · intro x
    rw [hj 6 (by decide), h6] at x
    cases x
  · intro x
    rw [hi]
    exact hn (h.m2 h6)
theorem NA.call {g M : Nat} {S : ByteArray} {d p q : Nat} {ns : List ByteArray} {t : ByteArray} {W0 : World} {l5 : Bool} {f4 f5 : Value} {X Y : World} (h : NA g M S d p q ns t W0 false l5 f4 f5 X) (hr : Rr g S q d Y) (hm : NmAt M (ns ++ [t]) Y) (hk : Kp g M none X Y) : NA g M S d p q ns t W0 true l5 (.string t) f5 Y := by
  obtain ⟨h1, h2, h3⟩ := h
  refine ⟨h1.trans hk, by rw [if_pos rfl]; exact ⟨rfl, hr, hm⟩, fun hl => ?_⟩
  cases (h3 hl).1
theorem NA.build {g M : Nat} {S : ByteArray} {d p q : Nat} {ns : List ByteArray} {t : ByteArray} {W0 : World} {l5 : Bool} {f4 f5 : Value} {X : World} (h : NA g M S d p q ns t W0 true l5 f4 f5 X) : NA g M S d p q ns t W0 true true f4 (.slice (some ⟨X.heap.size, 0, none⟩) 1 1) (X.alloc (.cells #[.string t] 9)) := by
  obtain ⟨h1, h2, h3⟩ := h
  have hb : ∀ k, k < X.heap.size → (X.alloc (.cells #[.string t] 9)).heap[k]? = X.heap[k]? := fun k hk => ((Below.refl X.heap.size X).alloc (Nat.le_refl _) _).block k hk
  rw [if_pos rfl] at h2
  have hs := h1.size
  refine ⟨⟨h1.os, h1.tape, h1.output, by rw [World.size_alloc]; omega, fun k a b c e => (hb k (by omega)).trans (h1.block k a b c e)⟩, ?_, fun _ => ⟨rfl, X.heap.size, rfl, hs, by simp, heap_alloc_new X _⟩⟩
  rw [if_pos rfl]
  exact ⟨h2.1, ⟨(hb g h2.2.1.lt).trans h2.2.1.row, h2.2.1.le⟩, h2.2.2.heap (by rw [World.size_alloc]; omega) (hb M h2.2.2.lt)⟩
theorem NB.hang {g M V : Nat} {S : ByteArray} {d q B : Nat} {ns : List ByteArray} {t : ByteArray} {kk ss vn vk : Value} {W0 : World} {l8 : Bool} {f6 : Value} {X : World} (h : NB g M V S d q B ns t kk ss vn vk W0 l8 f6 X) (hgV : g ≠ V) (hMV : M ≠ V) : NB g M V S d q B ns t kk ss vn vk W0 true f6 (X.setCell ⟨V, 2, none⟩ f6) := by
  have hp := put1_row h.box 2 f6
  have hne : f6.ownBlock ≠ some V := fun e => by
    rcases h.own.2 with ⟨rfl, _⟩ | ⟨g', cap, cur, rfl, h1, h2, _⟩
    · cases e
    · have : g' = V := by simpa [Value.ownBlock] using e
      subst this
      rw [h.box] at h2
      simp at h2
  refine ⟨⟨(hp.block g hgV).trans h.rr.row, h.rr.le⟩, h.nm.heap (by rw [hp.size]; omega) (hp.block M hMV), own_keptO h.own fun k hk => hp.block k (fun e => hne (by rw [← e]; exact hk)), by simpa using hp.row, h.loc, ⟨hp.os.trans h.kq.os, hp.tape.trans h.kq.tape, hp.output.trans h.kq.output, by rw [hp.size]; exact h.kq.size, fun k a b c e f => (hp.block k e).trans (h.kq.block k a b c e f)⟩⟩
end Go.Proofs.YtkplbggefiemdaaGreatDoor
