/-
  object: a copy of a value: its own text and names. Conditions: as each says.
-/
import Derived.Test.YtkplbggefiemdaaGreatDoorObZA
import Derived.Test.YtkplbggefiemdaaGreatDoorObCi
namespace Go.Proofs.YtkplbggefiemdaaGreatDoor
open Go.RowKit Go.Maps Go.Shelf
set_option linter.unusedVariables false
set_option linter.unusedSimpArgs false
/-- ahead of the names: what lies where -/
structure C1 (w : World) (b1 R V : Nat) (acs : Array Value) (v : Vl) (F : Nat → Prop) (k : Int) (t : ByteArray) (vn : Value) (ns : List ByteArray) (X : World) : Prop where
  ab : X.heap[b1]? = some (.cells acs 41 (0, 0))
  av : VlAt F X v acs
  rb : X.heap[R]? = some (.cells zr4 41 (0, 0))
  ob : X.heap[V]? = some (.cells #[.int .i64 k, .string t, vn, .slice none 0 0] 41 (0, 0))
  nm : X.ownsRow w.heap.size 9 1 vn ns.length (ns.map Value.string)
  be : Below w.heap.size w X
theorem C1.below {w : World} {b1 R V : Nat} {acs : Array Value} {v : Vl} {F : Nat → Prop} {k : Int} {t : ByteArray} {vn : Value} {ns : List ByteArray} {X Y : World} (h : C1 w b1 R V acs v F k t vn ns X) (hb : Below X.heap.size X Y) : C1 w b1 R V acs v F k t vn ns Y :=
  ⟨(hb.block _ (Array.getElem?_eq_some_iff.1 h.ab).1).trans h.ab, VlAt.keep (fun _ x => x) (fun j _ hl => hb.block j hl) hb.size _ _ h.av, (hb.block _ (Array.getElem?_eq_some_iff.1 h.rb).1).trans h.rb, (hb.block _ (Array.getElem?_eq_some_iff.1 h.ob).1).trans h.ob, own_keptO h.nm fun j hj => hb.block j (own_row_lt h.nm j hj).2, h.be.trans ⟨hb.os, hb.tape, hb.output, hb.size, fun j hj => hb.block j (by have := h.be.size; omega)⟩⟩
/-- what is known within the region that lays the copy -/
structure K1 (b1 : Nat) (k : Int) (t : ByteArray) (W : World) (L : Nat → Bool) (f : Nat → Value) (Z : World) : Prop where
  be : Below W.heap.size W Z
  e0 : L 0 = true → f 0 = .pointer (some ⟨b1, 0, none⟩)
  e1 : L 1 = true → f 1 = .int .i64 k
  e2 : L 2 = true → f 2 = .pointer (some ⟨b1, 1, none⟩)
  e3 : L 3 = true → f 3 = .string t
  e4 : L 4 = true → f 4 = .string t
  e5 : L 5 = true → f 5 = .agg #[.int .i64 k, .string t, .slice none 0 0, .slice none 0 0]
  e6 : L 6 = true → ∃ V, f 6 = .pointer (some ⟨V, 0, none⟩) ∧ W.heap.size ≤ V ∧ Z.heap[V]? = some (.cells (if L 7 = true then #[.int .i64 k, .string t, .slice none 0 0, .slice none 0 0] else zr4) 41 (0, 0))
  e7 : L 7 = true → L 6 = true
theorem K1.s0 {b1 : Nat} {k : Int} {t : ByteArray} {W : World} {L : Nat → Bool} {f : Nat → Value} {Z : World} {u : Value} (h : K1 b1 k t W L f Z) (hu : u = .pointer (some ⟨b1, 0, none⟩)) : ∀ L2 : Nat → Bool, (∀ k, L2 k = if k = 0 then true else L k) → K1 b1 k t W L2 (upd f 0 u) Z := by
  intro L2 hL2
  have hj : ∀ k, k ≠ 0 → L2 k = L k := fun k hk => by rw [hL2, if_neg hk]
  have hi : L2 0 = true := by rw [hL2, if_pos rfl]
  refine ⟨h.be, ?_, ?_, ?_, ?_, ?_, ?_, ?_, ?_⟩
  · exact fun _ => hu
  · exact fun x => h.e1 ((hj 1 (by decide)).symm.trans x)
  · exact fun x => h.e2 ((hj 2 (by decide)).symm.trans x)
  · exact fun x => h.e3 ((hj 3 (by decide)).symm.trans x)
  · exact fun x => h.e4 ((hj 4 (by decide)).symm.trans x)
  · exact fun x => h.e5 ((hj 5 (by decide)).symm.trans x)
  · intro x
    obtain ⟨V, q1, q2, q3⟩ := h.e6 ((hj 6 (by decide)).symm.trans x)
    rw [hj 7 (by decide)]
    exact ⟨V, q1, q2, q3⟩
  · exact fun x => (hj 6 (by decide)).trans (h.e7 ((hj 7 (by decide)).symm.trans x))
theorem K1.s1 {b1 : Nat} {k : Int} {t : ByteArray} {W : World} {L : Nat → Bool} {f : Nat → Value} {Z : World} {u : Value} (h : K1 b1 k t W L f Z) (hu : u = .int .i64 k) : ∀ L2 : Nat → Bool, (∀ k, L2 k = if k = 1 then true else L k) → K1 b1 k t W L2 (upd f 1 u) Z := by
  intro L2 hL2
  have hj : ∀ k, k ≠ 1 → L2 k = L k := fun k hk => by rw [hL2, if_neg hk]
  have hi : L2 1 = true := by rw [hL2, if_pos rfl]
  refine ⟨h.be, ?_, ?_, ?_, ?_, ?_, ?_, ?_, ?_⟩
  · exact fun x => h.e0 ((hj 0 (by decide)).symm.trans x)
  · exact fun _ => hu
  · exact fun x => h.e2 ((hj 2 (by decide)).symm.trans x)
  · exact fun x => h.e3 ((hj 3 (by decide)).symm.trans x)
  · exact fun x => h.e4 ((hj 4 (by decide)).symm.trans x)
  · exact fun x => h.e5 ((hj 5 (by decide)).symm.trans x)
  · intro x
    obtain ⟨V, q1, q2, q3⟩ := h.e6 ((hj 6 (by decide)).symm.trans x)
    rw [hj 7 (by decide)]
    exact ⟨V, q1, q2, q3⟩
  · exact fun x => (hj 6 (by decide)).trans (h.e7 ((hj 7 (by decide)).symm.trans x))
theorem K1.s2 {b1 : Nat} {k : Int} {t : ByteArray} {W : World} {L : Nat → Bool} {f : Nat → Value} {Z : World} {u : Value} (h : K1 b1 k t W L f Z) (hu : u = .pointer (some ⟨b1, 1, none⟩)) : ∀ L2 : Nat → Bool, (∀ k, L2 k = if k = 2 then true else L k) → K1 b1 k t W L2 (upd f 2 u) Z := by
  intro L2 hL2
  have hj : ∀ k, k ≠ 2 → L2 k = L k := fun k hk => by rw [hL2, if_neg hk]
  have hi : L2 2 = true := by rw [hL2, if_pos rfl]
  refine ⟨h.be, ?_, ?_, ?_, ?_, ?_, ?_, ?_, ?_⟩
  · exact fun x => h.e0 ((hj 0 (by decide)).symm.trans x)
  · exact fun x => h.e1 ((hj 1 (by decide)).symm.trans x)
  · exact fun _ => hu
  · exact fun x => h.e3 ((hj 3 (by decide)).symm.trans x)
  · exact fun x => h.e4 ((hj 4 (by decide)).symm.trans x)
  · exact fun x => h.e5 ((hj 5 (by decide)).symm.trans x)
  · intro x
    obtain ⟨V, q1, q2, q3⟩ := h.e6 ((hj 6 (by decide)).symm.trans x)
    rw [hj 7 (by decide)]
    exact ⟨V, q1, q2, q3⟩
  · exact fun x => (hj 6 (by decide)).trans (h.e7 ((hj 7 (by decide)).symm.trans x))
theorem K1.s3 {b1 : Nat} {k : Int} {t : ByteArray} {W : World} {L : Nat → Bool} {f : Nat → Value} {Z : World} {u : Value} (h : K1 b1 k t W L f Z) (hu : u = .string t) : ∀ L2 : Nat → Bool, (∀ k, L2 k = if k = 3 then true else L k) → K1 b1 k t W L2 (upd f 3 u) Z := by
  intro L2 hL2
  have hj : ∀ k, k ≠ 3 → L2 k = L k := fun k hk => by rw [hL2, if_neg hk]
  have hi : L2 3 = true := by rw [hL2, if_pos rfl]
  refine ⟨h.be, ?_, ?_, ?_, ?_, ?_, ?_, ?_, ?_⟩
  · exact fun x => h.e0 ((hj 0 (by decide)).symm.trans x)
  · exact fun x => h.e1 ((hj 1 (by decide)).symm.trans x)
  · exact fun x => h.e2 ((hj 2 (by decide)).symm.trans x)
  · exact fun _ => hu
  · exact fun x => h.e4 ((hj 4 (by decide)).symm.trans x)
  · exact fun x => h.e5 ((hj 5 (by decide)).symm.trans x)
  · intro x
    obtain ⟨V, q1, q2, q3⟩ := h.e6 ((hj 6 (by decide)).symm.trans x)
    rw [hj 7 (by decide)]
    exact ⟨V, q1, q2, q3⟩
  · exact fun x => (hj 6 (by decide)).trans (h.e7 ((hj 7 (by decide)).symm.trans x))
theorem K1.s5 {b1 : Nat} {k : Int} {t : ByteArray} {W : World} {L : Nat → Bool} {f : Nat → Value} {Z : World} {u : Value} (h : K1 b1 k t W L f Z) (hu : u = .agg #[.int .i64 k, .string t, .slice none 0 0, .slice none 0 0]) : ∀ L2 : Nat → Bool, (∀ k, L2 k = if k = 5 then true else L k) → K1 b1 k t W L2 (upd f 5 u) Z := by
  intro L2 hL2
  have hj : ∀ k, k ≠ 5 → L2 k = L k := fun k hk => by rw [hL2, if_neg hk]
  have hi : L2 5 = true := by rw [hL2, if_pos rfl]
  refine ⟨h.be, ?_, ?_, ?_, ?_, ?_, ?_, ?_, ?_⟩
  · exact fun x => h.e0 ((hj 0 (by decide)).symm.trans x)
  · exact fun x => h.e1 ((hj 1 (by decide)).symm.trans x)
  · exact fun x => h.e2 ((hj 2 (by decide)).symm.trans x)
  · exact fun x => h.e3 ((hj 3 (by decide)).symm.trans x)
  · exact fun x => h.e4 ((hj 4 (by decide)).symm.trans x)
  · exact fun _ => hu
  · intro x
    obtain ⟨V, q1, q2, q3⟩ := h.e6 ((hj 6 (by decide)).symm.trans x)
    rw [hj 7 (by decide)]
    exact ⟨V, q1, q2, q3⟩
  · exact fun x => (hj 6 (by decide)).trans (h.e7 ((hj 7 (by decide)).symm.trans x))
theorem K1.s4 {b1 : Nat} {k : Int} {t : ByteArray} {W : World} {L : Nat → Bool} {f : Nat → Value} {Z Y : World} {u : Value} (h : K1 b1 k t W L f Z) (hu : u = .string t) (hbb : Below Z.heap.size Z Y) : ∀ L2 : Nat → Bool, (∀ k, L2 k = if k = 4 then true else L k) → K1 b1 k t W L2 (upd f 4 u) Y := by
  intro L2 hL2
  have hj : ∀ k, k ≠ 4 → L2 k = L k := fun k hk => by rw [hL2, if_neg hk]
  have hb : ∀ j, j < Z.heap.size → Y.heap[j]? = Z.heap[j]? := fun j hj => hbb.block j hj
  have hi : L2 4 = true := by rw [hL2, if_pos rfl]
  refine ⟨h.be.trans ⟨hbb.os, hbb.tape, hbb.output, hbb.size, fun j hj => hbb.block j (by have := h.be.size; omega)⟩, ?_, ?_, ?_, ?_, ?_, ?_, ?_, ?_⟩
  · exact fun x => h.e0 ((hj 0 (by decide)).symm.trans x)
  · exact fun x => h.e1 ((hj 1 (by decide)).symm.trans x)
  · exact fun x => h.e2 ((hj 2 (by decide)).symm.trans x)
  · exact fun x => h.e3 ((hj 3 (by decide)).symm.trans x)
  · exact fun _ => hu
  · exact fun x => h.e5 ((hj 5 (by decide)).symm.trans x)
  · intro x
    obtain ⟨V, q1, q2, q3⟩ := h.e6 ((hj 6 (by decide)).symm.trans x)
    rw [hj 7 (by decide)]
    exact ⟨V, q1, q2, (hb V (Array.getElem?_eq_some_iff.1 q3).1).trans q3⟩
  · exact fun x => (hj 6 (by decide)).trans (h.e7 ((hj 7 (by decide)).symm.trans x))
theorem K1.s6 {b1 : Nat} {k : Int} {t : ByteArray} {W : World} {L : Nat → Bool} {f : Nat → Value} {Z : World} (h : K1 b1 k t W L f Z) (h7 : L 6 = false) : ∀ L2 : Nat → Bool, (∀ k, L2 k = if k = 6 then true else L k) → K1 b1 k t W L2 (upd f 6 (.pointer (some ⟨Z.heap.size, 0, none⟩))) (Z.alloc (.cells zr4 41)) := by
  intro L2 hL2
  have hj : ∀ k, k ≠ 6 → L2 k = L k := fun k hk => by rw [hL2, if_neg hk]
  have h7f : L 7 = false := by
    cases x : L 7
    · rfl
    · rw [h.e7 x] at h7; cases h7
  refine ⟨h.be.alloc h.be.size _, ?_, ?_, ?_, ?_, ?_, ?_, fun _ => ⟨Z.heap.size, rfl, h.be.size, by rw [hj 7 (by decide), h7f]; exact heap_alloc_new Z _⟩, fun x => by rw [hj 7 (by decide), h7f] at x; cases x⟩
  · exact fun x => h.e0 ((hj 0 (by decide)).symm.trans x)
  · exact fun x => h.e1 ((hj 1 (by decide)).symm.trans x)
  · exact fun x => h.e2 ((hj 2 (by decide)).symm.trans x)
  · exact fun x => h.e3 ((hj 3 (by decide)).symm.trans x)
  · exact fun x => h.e4 ((hj 4 (by decide)).symm.trans x)
  · exact fun x => h.e5 ((hj 5 (by decide)).symm.trans x)
theorem K1.s7 {b1 : Nat} {k : Int} {t : ByteArray} {W : World} {L : Nat → Bool} {f : Nat → Value} {Z : World} {u : Value} {V : Nat} (h : K1 b1 k t W L f Z) (h6 : L 6 = true) (h7 : L 7 = false) (hV : f 6 = .pointer (some ⟨V, 0, none⟩)) : ∀ L2 : Nat → Bool, (∀ k, L2 k = if k = 7 then true else L k) → K1 b1 k t W L2 (upd f 7 u) (put4 Z V 0 (.int .i64 k) (.string t) (.slice none 0 0) (.slice none 0 0)) := by
  intro L2 hL2
  have hj : ∀ k, k ≠ 7 → L2 k = L k := fun k hk => by rw [hL2, if_neg hk]
  have hi : L2 7 = true := by rw [hL2, if_pos rfl]
  obtain ⟨V2, q1, q2, q3⟩ := h.e6 h6
  have : V2 = V := by rw [hV] at q1; simp at q1; omega
  subst this
  rw [h7, if_neg (by decide)] at q3
  have hp := put4_res (.int .i64 k) (.string t) (.slice none 0 0) (.slice none 0 0) q3
  refine ⟨⟨hp.os.trans h.be.os, hp.tape.trans h.be.tape, hp.output.trans h.be.output, by rw [hp.size]; exact h.be.size, fun j hj => (hp.block j (by omega)).trans (h.be.block j hj)⟩, ?_, ?_, ?_, ?_, ?_, ?_, fun _ => ⟨V2, hV, q2, by rw [hi, if_pos rfl]; exact hp.row⟩, fun _ => (hj 6 (by decide)).trans h6⟩
  · exact fun x => h.e0 ((hj 0 (by decide)).symm.trans x)
  · exact fun x => h.e1 ((hj 1 (by decide)).symm.trans x)
  · exact fun x => h.e2 ((hj 2 (by decide)).symm.trans x)
  · exact fun x => h.e3 ((hj 3 (by decide)).symm.trans x)
  · exact fun x => h.e4 ((hj 4 (by decide)).symm.trans x)
  · exact fun x => h.e5 ((hj 5 (by decide)).symm.trans x)
/-- behind the names -/
structure C2 (w : World) (b1 R V N0 : Nat) (acs : Array Value) (v : Vl) (F : Nat → Prop) (k : Int) (t : ByteArray) (vn : Value) (ns : List ByteArray) (vk : Value) (ks : List Vl) (xs : List Value) (F' : Nat → Prop) (X : World) : Prop where
  ab : X.heap[b1]? = some (.cells acs 41 (0, 0))
  av : VlAt F X v acs
  rb : X.heap[R]? = some (.cells zr4 41 (0, 0))
  ob : X.heap[V]? = some (.cells #[.int .i64 k, .string t, vn, vk] 41 (0, 0))
  nm : X.ownsRow w.heap.size 9 1 vn ns.length (ns.map Value.string)
  kr : X.ownsRow N0 41 4 vk ks.length xs
  kl : KidsL F' X ks xs
  fF : ∀ j, F' j → N0 ≤ j ∧ j < X.heap.size ∧ some j ≠ vk.ownBlock
  le : N0 ≤ X.heap.size
  be : Below w.heap.size w X
theorem C2.below {w : World} {b1 R V N0 : Nat} {acs : Array Value} {v : Vl} {F : Nat → Prop} {k : Int} {t : ByteArray} {vn : Value} {ns : List ByteArray} {vk : Value} {ks : List Vl} {xs : List Value} {F' : Nat → Prop} {X Y : World} (h : C2 w b1 R V N0 acs v F k t vn ns vk ks xs F' X) (hb : Below X.heap.size X Y) : C2 w b1 R V N0 acs v F k t vn ns vk ks xs F' Y :=
  ⟨(hb.block _ (Array.getElem?_eq_some_iff.1 h.ab).1).trans h.ab, VlAt.keep (fun _ x => x) (fun j _ hl => hb.block j hl) hb.size _ _ h.av, (hb.block _ (Array.getElem?_eq_some_iff.1 h.rb).1).trans h.rb, (hb.block _ (Array.getElem?_eq_some_iff.1 h.ob).1).trans h.ob, own_keptO h.nm fun j hj => hb.block j (own_row_lt h.nm j hj).2, own_keptO h.kr fun j hj => hb.block j (own_row_lt h.kr j hj).2, KidsL.keep (fun _ x => x) (fun j _ hl => hb.block j hl) hb.size _ _ h.kl, fun j hj => ⟨(h.fF j hj).1, Nat.lt_of_lt_of_le (h.fF j hj).2.1 hb.size, (h.fF j hj).2.2⟩, Nat.le_trans h.le hb.size, h.be.trans ⟨hb.os, hb.tape, hb.output, hb.size, fun j hj => hb.block j (by have := h.be.size; omega)⟩⟩
/-- what is handed out -/
theorem C2.out {w : World} {b1 R V N0 : Nat} {acs : Array Value} {v : Vl} {F : Nat → Prop} {k : Nat} {t : ByteArray} {vn : Value} {ns : List ByteArray} {vk : Value} {ks : List Vl} {xs : List Value} {F' : Nat → Prop} {X Y : World} {cur : Array Value} (h : C2 w b1 R V N0 acs v F (k : Int) t vn ns vk ks xs F' X) (hR : w.heap.size ≤ R) (hRN : R < N0) (hp : Put4 X Y R cur 41) : Below w.heap.size w Y ∧ ∃ G : Nat → Prop, (∀ j, G j → w.heap.size ≤ j ∧ j < Y.heap.size) ∧ VlAt G Y (.mk k t ns ks) #[.int .i64 (k : Int), .string t, vn, vk] := by
  have hkr := own_row_lt h.kr
  have hnr := own_row_lt h.nm
  refine ⟨⟨hp.os.trans h.be.os, hp.tape.trans h.be.tape, hp.output.trans h.be.output, by rw [hp.size]; exact h.be.size, fun j hj => (hp.block j (by omega)).trans (h.be.block j hj)⟩, fun j => (F' j ∨ vk.ownBlock = some j ∨ vn.ownBlock = some j) ∧ w.heap.size ≤ j ∧ j < X.heap.size, fun j hj => by rw [hp.size]; exact hj.2, ?_⟩
  have hv : VlAt (fun j => (F' j ∨ vk.ownBlock = some j ∨ vn.ownBlock = some j) ∧ w.heap.size ≤ j ∧ j < X.heap.size) X (.mk k t ns ks) #[.int .i64 (k : Int), .string t, vn, vk] := by
    rw [VlAt]
    exact ⟨vn, vk, rfl, strs_own _ h.nm (fun j hj => ⟨.inr (.inr hj), hnr j hj⟩), kids_own _ h.kr (KidsL.keep (fun j hj => ⟨.inl hj, by have := h.fF j hj; have := h.be.size; omega, (h.fF j hj).2.1⟩) (fun _ _ _ => rfl) (Nat.le_refl _) _ _ h.kl) (fun j hj => ⟨.inr (.inl hj), by have := hkr j hj; omega, (hkr j hj).2⟩)⟩
  refine VlAt.keep (fun _ x => x) (fun j hj _ => hp.block j (fun e => ?_)) (by rw [hp.size]; omega) _ _ hv
  subst e
  rcases hj.1 with x | x | x
  · have := (h.fF j x).1
    omega
  · have := (hkr j x).1
    omega
  · exact row_ne h.nm h.rb (by decide) x
set_option maxRecDepth 100000 in
set_option maxHeartbeats 8000000 in
theorem copied_step (F : Nat → Prop) (v : Vl) (k : Nat) (t : ByteArray) (ns : List ByteArray) (ks : List Vl) (hvd : v = .mk k t ns ks) (cs : Array Value) (w : World) (hv : VlAt F w v cs) (hF : ∀ j, F j → j < w.heap.size) (ht : t.size ≤ 65536) (hns : ∀ t ∈ ns, t.size ≤ 65536) (hnl : ns.length ≤ 65536) (hkl : ks.length ≤ 65536)
    (hkid : ∀ (i : Nat) (u : Vl), ks[i]? = some u → ∀ (cs : Array Value) (X : World), VlAt F X u cs → (∀ j, F j → j < X.heap.size) → Calls Tryz.prog 39 #[.agg cs] X fun e w' => ∃ cs', e = .returned (.agg cs') ∧ Below X.heap.size X w' ∧ ∃ G : Nat → Prop, (∀ k, G k → X.heap.size ≤ k ∧ k < w'.heap.size) ∧ VlAt G w' u cs') :
    Calls Tryz.prog 39 #[.agg cs] w fun e w' => ∃ cs', e = .returned (.agg cs') ∧ Below w.heap.size w w' ∧ ∃ G : Nat → Prop, (∀ k, G k → w.heap.size ≤ k ∧ k < w'.heap.size) ∧ VlAt G w' v cs' := by
  subst hvd
  obtain ⟨pn, cn, pk, ck, rfl, hnm, hkids⟩ := hv.open_
  have HV := Hid.mk' hv
  have HTS : Hid (t.size ≤ 281474976710656) := Hid.mk' (by omega)
  have HW : Hid (∀ X, X = (w.alloc (.cells #[.int .i64 (k : Int), .string t, .slice pn ns.length cn, .slice pk ks.length ck] 41)).alloc (.cells #[.int .i64 0, .string ⟨#[]⟩, .slice none 0 0, .slice none 0 0] 41) → X.heap[w.heap.size]? = some (.cells #[.int .i64 (k : Int), .string t, .slice pn ns.length cn, .slice pk ks.length ck] 41 (0, 0)) ∧ X.heap[w.heap.size + 1]? = some (.cells zr4 41 (0, 0)) ∧ Below w.heap.size w X ∧ X.heap.size = w.heap.size + 1 + 1) := Hid.mk' (fun X hX => by
    subst hX
    have s1 : (w.alloc (.cells #[.int .i64 (k : Int), .string t, .slice pn ns.length cn, .slice pk ks.length ck] 41)).heap.size = w.heap.size + 1 := World.size_alloc _ _
    have b1 := (Below.refl _ w).alloc (Nat.le_refl _) (.cells #[.int .i64 (k : Int), .string t, .slice pn ns.length cn, .slice pk ks.length ck] 41)
    have n1 := heap_alloc_new w (.cells #[.int .i64 (k : Int), .string t, .slice pn ns.length cn, .slice pk ks.length ck] 41)
    have n2 := heap_alloc_new (w.alloc (.cells #[.int .i64 (k : Int), .string t, .slice pn ns.length cn, .slice pk ks.length ck] 41)) (.cells #[.int .i64 0, .string ⟨#[]⟩, .slice none 0 0, .slice none 0 0] 41)
    rw [s1] at n2
    exact ⟨(((Below.refl _ (w.alloc _)).alloc (Nat.le_refl _) _).block _ (by rw [s1]; omega)).trans n1, n2, b1.alloc (by omega) _, by rw [World.size_alloc, s1]⟩)
  have HNS := Hid.mk' hns
  have HKID := Hid.mk' hkid
  have HFL := Hid.mk' hF
  have hnI : (ns.length : Int) ≤ 65536 := by omega
  have hkI : (ks.length : Int) ≤ 65536 := by omega
  clear hv hnm hkids ht hns hF hkid
  go_enter Tryz.func39, Tryz.ntmps39
  go_upto_region 1 with fail
  have H1 := Hid.mk' (HW.out _ rfl)
  generalize (w.alloc (.cells #[.int .i64 (k : Int), .string t, .slice pn ns.length cn, .slice pk ks.length ck] 41)).alloc (.cells #[.int .i64 0, .string ⟨#[]⟩, .slice none 0 0, .slice none 0 0] 41) = w1 at H1 ⊢
  have hb1 := H1.out.1
  have b0 : w1.cell? ⟨w.heap.size, 0, none⟩ = some (.int .i64 (k : Int)) := by simp [World.cell?, hb1]
  have b1 : w1.cell? ⟨w.heap.size, 1, none⟩ = some (.string t) := by simp [World.cell?, hb1]
  have HB1L : Hid (w.heap.size < w1.heap.size) := Hid.mk' (Array.getElem?_eq_some_iff.1 hb1).1
  clear hb1 HW
  refine (wpIn_wide (n := 6)).1 ?_
  refine region_rel (by kernel_rfl) (fun zz => { tmps := #[.agg #[.int .i64 (k : Int), .string t, .slice pn ns.length cn, .slice pk ks.length ck], .pointer (some ⟨w.heap.size, 0, none⟩), .pointer (some ⟨w.heap.size + 1, 0, none⟩), zz 6, undef, undef, undef, undef, zz 0, zz 1, zz 2, zz 3, zz 4, zz 5, undef, undef, undef, undef, undef, undef, undef, undef, undef, undef, undef, undef, undef, undef, undef, undef, undef, undef, undef, undef, undef, undef, undef, undef, undef, undef, undef, undef, undef, undef, undef], defers := [] }) (fun _ => undef) _ (fun L zz Z => K1 w.heap.size (k : Int) t w1 L zz Z) (fun L' hL => ⟨⟨rfl, rfl, rfl, Nat.le_refl _, fun _ _ => rfl⟩, fun x => (by rw [hL] at x; cases x), fun x => (by rw [hL] at x; cases x), fun x => (by rw [hL] at x; cases x), fun x => (by rw [hL] at x; cases x), fun x => (by rw [hL] at x; cases x), fun x => (by rw [hL] at x; cases x), fun x => (by rw [hL] at x; cases x), fun x => (by rw [hL] at x; cases x)⟩) (deps_of' (by kernel_rfl)) ?_ ?_
  · intro L zz Z hI i0 hi0 hL op ho hdone KK hKK
    have hlt : i0 < 8 := hi0
    have z0 := (hI.be.cell (p := ⟨w.heap.size, 0, none⟩) HB1L.out).trans b0
    have z1 := (hI.be.cell (p := ⟨w.heap.size, 1, none⟩) HB1L.out).trans b1
    rcases (show i0 = 0 ∨ i0 = 1 ∨ i0 = 2 ∨ i0 = 3 ∨ i0 = 4 ∨ i0 = 5 ∨ i0 = 6 ∨ i0 = 7 by omega) with rfl | rfl | rfl | rfl | rfl | rfl | rfl | rfl
    · simp at ho; subst ho
      have hKX := hKK (.pointer (some ⟨w.heap.size, 0, none⟩)) Z (fun L2 h2 => hI.s0 rfl L2 h2)
      simp [wpOpIn, Region.wanted, yielded, Oper.wpIn, Oper.semAt_eq, execOp, Oper.uponIn, go_sem]
      first | exact hKX | (simp [upd] at hKX; exact hKX) | (simp [upd] at hKX ⊢; exact hKX)
    · simp at ho; subst ho; simp [Region.binds] at hdone
      have e0 := hI.e0 hdone
      have hKX := hKK (.int .i64 (k : Int)) Z (fun L2 h2 => hI.s1 rfl L2 h2)
      simp [wpOpIn, Region.wanted, yielded, Oper.wpIn, Oper.semAt_eq, execOp, Oper.uponIn, go_sem, e0, z0]
      first | exact hKX | (simp [upd, e0] at hKX; exact hKX) | (simp [upd, e0] at hKX ⊢; exact hKX)
    · simp at ho; subst ho
      have hKX := hKK (.pointer (some ⟨w.heap.size, 1, none⟩)) Z (fun L2 h2 => hI.s2 rfl L2 h2)
      simp [wpOpIn, Region.wanted, yielded, Oper.wpIn, Oper.semAt_eq, execOp, Oper.uponIn, go_sem]
      first | exact hKX | (simp [upd] at hKX; exact hKX) | (simp [upd] at hKX ⊢; exact hKX)
    · simp at ho; subst ho; simp [Region.binds] at hdone
      have e2 := hI.e2 (by simp [hdone])
      have hKX := hKK (.string t) Z (fun L2 h2 => hI.s3 rfl L2 h2)
      simp [wpOpIn, Region.wanted, yielded, Oper.wpIn, Oper.semAt_eq, execOp, Oper.uponIn, go_sem, e2, z1]
      first | exact hKX | (simp [upd, e2] at hKX; exact hKX) | (simp [upd, e2] at hKX ⊢; exact hKX)
    · simp at ho; subst ho; simp [Region.binds] at hdone
      have e3 := hI.e3 (by simp [hdone])
      simp [wpOpIn, Region.wanted, yielded, Oper.wpIn, Oper.semAt_eq, execOp, Oper.uponIn, go_sem, e3]
      refine ⟨trivial, ?_⟩
      refine CallsIn.mono (callsIn_wide.2 (clone_any t Z HTS.out)) ?_
      rintro e Y ⟨rfl, hY⟩
      have hKX := hKK (.string t) Y (fun L2 h2 => hI.s4 rfl hY L2 h2)
      first | exact hKX | (simp [upd, e3] at hKX; exact hKX) | (simp [upd, e3] at hKX ⊢; exact hKX)
    · simp at ho; subst ho; simp [Region.binds] at hdone
      have e1 := hI.e1 (by simp [hdone])
      have e4 := hI.e4 (by simp [hdone])
      have hKX := hKK (.agg #[.int .i64 (k : Int), .string t, .slice none 0 0, .slice none 0 0]) Z (fun L2 h2 => hI.s5 rfl L2 h2)
      have hbd : ∀ W : World, (Instr.build 41 #[(0, .int .i64 (k : Int)), (1, .string t)]).run Tryz.prog W = .ok (.agg #[.int .i64 (k : Int), .string t, .slice none 0 0, .slice none 0 0]) W := fun W => by kernel_rfl
      simp [wpOpIn, Region.wanted, yielded, Oper.wpIn, Oper.semAt_eq, execOp, Oper.uponIn, go_sem, e1, e4, hbd]
      first | exact hKX | (simp [upd, e1, e4] at hKX; exact hKX) | (simp [upd, e1, e4] at hKX ⊢; exact hKX)
    · simp at ho; subst ho
      have hKX := hKK (.pointer (some ⟨Z.heap.size, 0, none⟩)) (Z.alloc (.cells zr4 41)) (fun L2 h2 => hI.s6 hL L2 h2)
      unfold zr4 at hKX
      simp [wpOpIn, Region.wanted, yielded, Oper.wpIn, Oper.semAt_eq, execOp, Oper.uponIn, go_sem]
      first | exact hKX | (simp [upd] at hKX; exact hKX) | (simp [upd] at hKX ⊢; exact hKX)
    · simp at ho; subst ho; simp [Region.binds] at hdone
      have h6 : L 6 = true := by simp [hdone]
      have e5 := hI.e5 (by simp [hdone])
      obtain ⟨V, e6, hVl, hVr⟩ := hI.e6 h6
      rw [hL, if_neg (by decide)] at hVr
      obtain ⟨r0, r1, r2, r3, y0, y1, y2, y3⟩ := rz_of hVr
      have hKX := hKK undef (put4 Z V 0 (.int .i64 (k : Int)) (.string t) (.slice none 0 0) (.slice none 0 0)) (fun L2 h2 => hI.s7 h6 hL e6 L2 h2)
      unfold put4 at hKX
      simp [wpOpIn, Region.wanted, yielded, Oper.wpIn, Oper.semAt_eq, execOp, Oper.uponIn, go_sem, e5, e6, r0, r1, r2, r3, y0, y1, y2, y3]
      first | exact hKX | (simp [upd, e5, e6] at hKX; exact hKX) | (simp [upd, e5, e6] at hKX ⊢; exact hKX)
  · intro L zz Z hall hI
    obtain ⟨V, e6, hVl, hVr⟩ := hI.e6 (hall 6 (by decide))
    rw [hall 7 (by decide), if_pos rfl] at hVr
    have e0 := hI.e0 (hall 0 (by decide))
    have e1 := hI.e1 (hall 1 (by decide))
    have e2 := hI.e2 (hall 2 (by decide))
    have e3 := hI.e3 (hall 3 (by decide))
    have e4 := hI.e4 (hall 4 (by decide))
    have e5 := hI.e5 (hall 5 (by decide))
    have HC : Hid (w.heap.size + 1 < V ∧ C1 w w.heap.size (w.heap.size + 1) V #[.int .i64 (k : Int), .string t, .slice pn ns.length cn, .slice pk ks.length ck] (.mk k t ns ks) F (k : Int) t (.slice none 0 0) [] Z) := Hid.mk' (by
      obtain ⟨x1, x2, x3, x4⟩ := H1.out
      refine ⟨by omega, ⟨(hI.be.block _ (by omega)).trans x1, ?_, (hI.be.block _ (by omega)).trans x2, hVr, own_nil _ _ _ _, ⟨hI.be.os.trans x3.os, hI.be.tape.trans x3.tape, hI.be.output.trans x3.output, Nat.le_trans x3.size hI.be.size, fun j hj => (hI.be.block j (by omega)).trans (x3.block j hj)⟩⟩⟩
      refine VlAt.keep (X := w) (fun _ x => x) (fun j hj hl => (hI.be.block j (by omega)).trans (x3.block j hl)) (by have := hI.be.size; omega) _ _ HV.out)
    simp only [e0, e1, e2, e3, e4, e5, e6]
    clear hI hall e0 e1 e2 e3 e4 e5 e6 hVl hVr
    obtain ⟨hVl, hC0⟩ := HC.out
    have hab := hC0.ab
    have b2 : Z.cell? ⟨w.heap.size, 2, none⟩ = some (.slice pn ns.length cn) := by simp [World.cell?, hab]
    have H0 := Hid.mk' hC0
    have HVL := Hid.mk' hVl
    clear hab hC0 hVl b0 b1 HC H1 HV
    go_wp2_with fail
    go_loopw [17] (fun iv wr => ∃ (i : Nat) (vn : Value), iv = .int .i64 ((i : Nat) : Int) ∧ i ≤ ns.length ∧ Hid (C1 w w.heap.size (w.heap.size + 1) V #[.int .i64 (k : Int), .string t, .slice pn ns.length cn, .slice pk ks.length ck] (.mk k t ns ks) F (k : Int) t vn (ns.take i) wr)) (fun iv _ => ns.length - (intOf iv).toNat)
    case atStart => exact ⟨0, _, rfl, by omega, H0⟩
    case round =>
      obtain ⟨i, vn, rfl, hi, HI⟩ := hrel
      clear H0 b2
      rename World => wi
      by_cases hiT : i < ns.length
      · have hiI : (i : Int) < (ns.length : Int) := by omega
        obtain ⟨x, hx⟩ : ∃ x, ns[i]? = some x := ⟨_, List.getElem?_eq_getElem hiT⟩
        obtain ⟨p1, c1, p2, c2, heq, hnm, _⟩ := HI.out.av.open_
        obtain ⟨g, off, hp, hgl, hc⟩ := hnm i x hx
        have hp1 : p1 = pn := by simp at heq; exact heq.1.1.symm
        rw [hp1] at hp
        have hxs := HNS.out x (List.mem_of_getElem? hx)
        have HXS : Hid (x.size ≤ 281474976710656) := Hid.mk' (by omega)
        have HTK : Hid (ns.take (i + 1) = ns.take i ++ [x]) := Hid.mk' (by rw [List.take_add_one, hx]; rfl)
        have htl : (ns.take i).length = i := by rw [List.length_take]; omega
        have hnm2 := HI.out.nm
        rw [htl] at hnm2
        obtain ⟨pv, cv, rfl⟩ := own_shape4 hnm2
        subst hp
        have hob := HI.out.ob
        have v2 : wi.cell? ⟨V, 2, none⟩ = some (.slice pv i cv) := by simp [World.cell?, hob]
        have HM : Hid (∀ n X, Below (wi.drewN n).heap.size (wi.drewN n) X → C1 w w.heap.size (w.heap.size + 1) V #[.int .i64 (k : Int), .string t, .slice (some ⟨g, off, none⟩) ns.length cn, .slice pk ks.length ck] (.mk k t ns ks) F (k : Int) t (.slice pv i cv) (ns.take i) X) := Hid.mk' (fun n X hX => HI.out.below ⟨hX.os, hX.tape, hX.output, hX.size, hX.block⟩)
        have HIL : Hid (i ≤ 65536 ∧ (ns.take i).length = i) := Hid.mk' (by omega)
        obtain ⟨i0, hi0, hz0, hz1, hz2⟩ := info_parts strs_info
        clear hx heq hnm hp1 hxs hnm2 hob hgl htl
        go_upto_region 5 with fail
        clear hc
        have HGK : Hid (GK (fun u news (_ : World) => u = .string x ∧ news = [.string x]) wi) := Hid.mk' (fun u news X Y h _ _ => h)
        have HOW : Hid (wi.ownsRow w.heap.size 9 1 (.slice pv i cv) i ((ns.take i).map Value.string)) := Hid.mk' (by have := HI.out.nm; rw [HIL.out.2] at this; exact this)
        have HBXX := Hid.mk' HI.out.ob
        have HVR : Hid ((Value.slice pv i cv).ownBlock ≠ some V) := Hid.mk' (row_ne HOW.out HI.out.ob (by decide))
        have HVW : Hid (V < wi.heap.size) := Hid.mk' (Array.getElem?_eq_some_iff.1 HI.out.ob).1
        have HVC : Hid (∀ Z, Below wi.heap.size wi Z → Z.cell? ⟨V, 2, none⟩ = some (.slice pv i cv)) := Hid.mk' (fun Z hZ => (hZ.cell (p := ⟨V, 2, none⟩) HVW.out).trans v2)
        have HBC : Hid (∀ Z : World, Z.heap[V]? = some (.cells #[.int .i64 (k : Int), .string t, .slice pv i cv, .slice none 0 0] 41 (0, 0)) → Z.cell? ⟨V, 2, none⟩ = some (.slice pv i cv) ∧ Z.frozen? ⟨V, 2, none⟩ = false) := Hid.mk' (fun Z hZ => ⟨by simp [World.cell?, hZ], by simp [World.frozen?, hZ]⟩)
        clear v2
        refine (wpIn_wide (n := 6)).1 ?_
        refine region_rel (by kernel_rfl) (fun zz => { tmps := #[.agg #[.int .i64 (k : Int), .string t, .slice (some ⟨g, off, none⟩) ns.length cn, .slice pk ks.length ck], .pointer (some ⟨w.heap.size, 0, none⟩), .pointer (some ⟨w.heap.size + 1, 0, none⟩), .pointer (some ⟨V, 0, none⟩), undef, .string x, undef, undef, .pointer (some ⟨w.heap.size, 0, none⟩), .int .i64 (k : Int), .pointer (some ⟨w.heap.size, 1, none⟩), .string t, .string t, .agg #[.int .i64 (k : Int), .string t, .slice none 0 0, .slice none 0 0], .pointer (some ⟨w.heap.size, 2, none⟩), .slice (some ⟨g, off, none⟩) ns.length cn, .int .i64 (ns.length : Int), .int .i64 (i : Int), .bool true, .pointer (some ⟨g, off + i, none⟩), .string x, zz 0, zz 1, zz 2, zz 3, zz 4, zz 5, zz 6, u28, undef, undef, undef, undef, undef, undef, undef, undef, undef, undef, undef, undef, undef, undef, undef, undef], defers := [] }) (fun j => (#[u21, u22, u23, u24, u25, u26, u27] : Array Value).getD j undef) _ (fun L zz Z => CI (fun u news (_ : World) => u = .string x ∧ news = [.string x]) 9 1 2 V w.heap.size i ((ns.take i).map Value.string) (.slice pv i cv) (.string x) #[.int .i64 (k : Int), .string t, .slice pv i cv, .slice none 0 0] wi L zz Z) (fun L' hL => ⟨fun x => (by rw [hL] at x; cases x), fun x => (by rw [hL] at x; cases x), fun x => (by rw [hL] at x; cases x), fun x => (by rw [hL] at x; cases x), ⟨fun x => (by rw [hL] at x; cases x), fun x => (by rw [hL] at x; cases x), fun x => (by rw [hL] at x; cases x)⟩, fun x => (by rw [hL] at x; cases x), fun _ => ⟨⟨hL _, hL _⟩, ⟨⟨rfl, rfl, rfl, Nat.le_refl _, fun _ _ => rfl⟩, fun x => (by rw [hL] at x; cases x)⟩⟩, fun x => (by rw [hL] at x; cases x)⟩) (deps_of' (by kernel_rfl)) ?_ ?_
        · intro L zz Z hI i0 hi0 hL op ho hdone KK hKK
          have hlt : i0 < 8 := hi0
          have h5f : ∀ k, k < 5 → L k = false → L 5 = false := fun k hk hl => by
            cases h5 : L 5
            · rfl
            · rw [hI.e5 h5 k hk] at hl
              cases hl
          rcases (show i0 = 0 ∨ i0 = 1 ∨ i0 = 2 ∨ i0 = 3 ∨ i0 = 4 ∨ i0 = 5 ∨ i0 = 6 ∨ i0 = 7 by omega) with rfl | rfl | rfl | rfl | rfl | rfl | rfl | rfl
          · have h5 := h5f 0 (by decide) hL
            simp at ho; subst ho
            have hKX := hKK _ Z (fun L2 h2 => hI.s0 h5 rfl L2 h2)
            simp [wpOpIn, Region.wanted, yielded, Oper.wpIn, Oper.semAt_eq, execOp, Oper.uponIn, go_sem]
            first | exact hKX | (simp [upd] at hKX; exact hKX) | (simp [upd] at hKX ⊢; exact hKX)
          · have h5 := h5f 1 (by decide) hL
            simp at ho; subst ho; simp [Region.binds] at hdone
            have e0 := hI.e0 hdone
            have hKX := hKK _ Z (fun L2 h2 => hI.s1 h5 rfl hdone L2 h2)
            have v2 := HVC.out Z (hI.m1 h5).2.be
            simp [wpOpIn, Region.wanted, yielded, Oper.wpIn, Oper.semAt_eq, execOp, Oper.uponIn, go_sem, e0, v2]
            first | exact hKX | (simp [upd, e0] at hKX; exact hKX) | (simp [upd, e0] at hKX ⊢; exact hKX)
          · have h5 := h5f 2 (by decide) hL
            simp at ho; subst ho
            have hKX := hKK _ Z (fun L2 h2 => hI.s2 h5 rfl L2 h2)
            simp [wpOpIn, Region.wanted, yielded, Oper.wpIn, Oper.semAt_eq, execOp, Oper.uponIn, go_sem]
            first | exact hKX | (simp [upd] at hKX; exact hKX) | (simp [upd] at hKX ⊢; exact hKX)
          · have h5 := h5f 3 (by decide) hL
            simp at ho; subst ho; simp [Region.binds] at hdone
            have h2t : L 2 = true := by simp [hdone]
            have e2 := hI.e2 h2t
            have h4 : L 4 = false := by
              cases h4 : L 4
              · rfl
              · rw [hI.dd.2.2 h4] at hL; cases hL
            simp [wpOpIn, Region.wanted, yielded, Oper.wpIn, Oper.semAt_eq, execOp, Oper.uponIn, go_sem, e2]
            refine ⟨trivial, ?_⟩
            refine CallsIn.mono (callsIn_wide.2 (clone_any x Z HXS.out)) ?_
            rintro e Y ⟨rfl, hY⟩
            have hKX := hKK (.string x) Y (fun L2 h2 => hI.s3 h5 h2t (fun hy => by rw [hL] at hy; exact hy.call h4 hY ⟨_, rfl, rfl⟩) L2 h2)
            first | exact hKX | (simp [upd, e2] at hKX; exact hKX) | (simp [upd, e2] at hKX ⊢; exact hKX)
          · have h5 := h5f 4 (by decide) hL
            simp at ho; subst ho; simp [Region.binds] at hdone
            have h3t : L 3 = true := by simp [hdone]
            have hA := (hI.m1 h5).2
            rw [h3t] at hA
            obtain ⟨news, hg, _⟩ := hA.g3 rfl
            obtain ⟨e3, rfl⟩ := hg
            have hKX := hKK (.slice (some ⟨Z.heap.size, 0, none⟩) 1 1) (Z.alloc (.cells #[.string x] 9)) (fun L2 h2 => hI.s4 h5 h3t (fun hy => by rw [h3t] at hy ⊢; exact hy.build HGK.out (fun news hn => by rw [hn.2])) L2 h2)
            have hbz := build_str x Z
            simp [wpOpIn, Region.wanted, yielded, Oper.wpIn, Oper.semAt_eq, execOp, Oper.uponIn, go_sem, e3, hbz]
            first | exact hKX | (simp [upd, e3] at hKX; exact hKX) | (simp [upd, e3] at hKX ⊢; exact hKX)
          · simp at ho; subst ho; simp [Region.binds] at hdone
            have k1 : L 1 = true := by simp [hdone]
            have k4 : L 4 = true := by simp [hdone]
            have k3 := hI.dd.2.2 k4
            have hall : ∀ k, k < 5 → L k = true := fun k hk => by
              rcases (show k = 0 ∨ k = 1 ∨ k = 2 ∨ k = 3 ∨ k = 4 by omega) with rfl | rfl | rfl | rfl | rfl
              · exact hI.dd.1 k1
              · exact k1
              · exact hI.dd.2.1 k3
              · exact k3
              · exact k4
            have e1 := hI.e1 k1
            have hA := (hI.m1 hL).2
            rw [k3, k4] at hA
            obtain ⟨news, hg, hb4⟩ := hA.g3 rfl
            obtain ⟨b4, e4, y1, y2, y3⟩ := hb4 rfl
            obtain ⟨e3, rfl⟩ := hg
            have hg : (fun u news (_ : World) => u = .string x ∧ news = [.string x] : Value → List Value → World → Prop) (zz 3) [.string x] Z := ⟨e3, rfl⟩
            obtain ⟨v', Y, a1, a2, a3, a4⟩ := append_str Z w.heap.size (.slice pv i cv) i ((ns.take i).map Value.string) x (own_keptO HOW.out fun k hk => hA.be.block k (own_row_lt HOW.out k hk).2) b4 y3 HIL.out.1 (by have := hA.be.size; have := HI.out.be.size; omega) 36
            have hKX := hKK v' Y (fun L2 h2 => hI.s5 hL hall (fun hy => by rw [k3, k4] at hy; exact hy.append HGK.out hg HOW.out HBXX.out HVR.out a2 a3 a4) L2 h2)
            simp [wpOpIn, Region.wanted, yielded, Oper.wpIn, Oper.semAt_eq, execOp, Oper.uponIn, resolve, invoke, builtin, Act.eval, Act.put, e1, e4, a1]
            refine ⟨fun _ _ => trivial, ?_⟩
            first | exact hKX | (simp [upd, e1, e4] at hKX; exact hKX) | (simp [upd, e1, e4] at hKX ⊢; exact hKX)
          · simp at ho; subst ho; simp [Region.binds] at hdone
            have h5 : L 5 = true := by simp [hdone]
            have hKX := hKK _ Z (fun L2 h2 => hI.s6 h5 rfl L2 h2)
            simp [wpOpIn, Region.wanted, yielded, Oper.wpIn, Oper.semAt_eq, execOp, Oper.uponIn, go_sem]
            first | exact hKX | (simp [upd] at hKX; exact hKX) | (simp [upd] at hKX ⊢; exact hKX)
          · simp at ho; subst ho; simp [Region.binds] at hdone
            have h6 : L 6 = true := by simp [hdone]
            have h5 : L 5 = true := by
              cases h5 : L 5
              · rw [(hI.m1 h5).1.1] at h6; cases h6
              · rfl
            have e6 := hI.e6 h6
            have hB := hI.m2 h5
            have hbx := hB.box
            rw [hL, if_neg (by decide)] at hbx
            obtain ⟨_, _, _, _, _, _, _, ho6⟩ := hB.ex
            obtain ⟨pf, cf, e5⟩ := own_shape4 ho6
            have u3 := HBC.out Z hbx
            have hKX := hKK undef (Z.setCell ⟨V, 2, none⟩ (zz 5)) (fun L2 h2 => hI.s7 h5 (fun hy => hy.hang hL HGK.out HVW.out HVR.out) L2 h2)
            rw [e5] at hKX
            simp [wpOpIn, Region.wanted, yielded, Oper.wpIn, Oper.semAt_eq, execOp, Oper.uponIn, go_sem, e5, e6, u3.1, u3.2]
            first | exact hKX | (simp [upd, e5, e6] at hKX; exact hKX) | (simp [upd, e5, e6] at hKX ⊢; exact hKX)
        · intro L zz Z hall hI
          have hB := hI.m2 (hall 5 (by decide))
          rw [hall 7 (by decide)] at hB
          obtain ⟨u, news, X0, ⟨_, rfl⟩, _, _, _, hown⟩ := hB.ex
          have HI2 : Hid (C1 w w.heap.size (w.heap.size + 1) V #[.int .i64 (k : Int), .string t, .slice (some ⟨g, off, none⟩) ns.length cn, .slice pk ks.length ck] (.mk k t ns ks) F (k : Int) t (zz 5) (ns.take (i + 1)) Z) := Hid.mk' (by
            have hVl := HVL.out
            have hrow : ∀ j, (Value.slice pv i cv).ownBlock = some j → w.heap.size ≤ j := fun j hj => (own_row_lt HOW.out j hj).1
            have hws := HI.out.be.size
            have hk1 : ∀ {j : Nat} {cs : Array Value} {fz : Nat × Nat}, wi.heap[j]? = some (.cells cs 41 fz) → j ≠ V → Z.heap[j]? = some (.cells cs 41 fz) := fun {j cs fz} hj hne => (hB.block j (Array.getElem?_eq_some_iff.1 hj).1 hne (fun e => row_ne HOW.out hj (by decide) e.symm)).trans hj
            refine ⟨hk1 HI.out.ab (by omega), ?_, hk1 HI.out.rb (by omega), by simpa using hB.box, ?_, ⟨hB.os.trans HI.out.be.os, hB.tape.trans HI.out.be.tape, hB.output.trans HI.out.be.output, Nat.le_trans hws hB.size, fun j hj => (hB.block j (by omega) (by omega) (fun e => by have := hrow j e.symm; omega)).trans (HI.out.be.block j hj)⟩⟩
            · exact VlAt.keep (fun _ x => x) (fun j hj hl => hB.block j hl (by have := HFL.out j hj; omega) (fun e => by have := hrow j e.symm; have := HFL.out j hj; omega)) hB.size _ _ HI.out.av
            · rw [HTK.out, List.length_append, List.map_append, HIL.out.2]
              exact hown)
          dsimp only
          clear hB hown hI hall
          go_wp2_with fail
          go_roundw
          case rel => exact ⟨i + 1, _, by simp, by omega, HI2⟩
          case measure => simp [intOf]; omega
      · obtain rfl : i = ns.length := by omega
        have HE : Hid (C1 w w.heap.size (w.heap.size + 1) V #[.int .i64 (k : Int), .string t, .slice pn ns.length cn, .slice pk ks.length ck] (.mk k t ns ks) F (k : Int) t vn ns wi) := Hid.mk' (by have := HI.out; rw [List.take_length] at this; exact this)
        clear HI hi hiT
        have hab := HE.out.ab
        have b3 : wi.cell? ⟨w.heap.size, 3, none⟩ = some (.slice pk ks.length ck) := by simp [World.cell?, hab]
        clear hab
        go_wp2_with fail
        have HN0 : Hid (V < wi.heap.size ∧ ∀ j, vn.ownBlock = some j → j < wi.heap.size) := Hid.mk' ⟨(Array.getElem?_eq_some_iff.1 HE.out.ob).1, fun j hj => (own_row_lt HE.out.nm j hj).2⟩
        have H20 : Hid (C2 w w.heap.size (w.heap.size + 1) V wi.heap.size #[.int .i64 (k : Int), .string t, .slice pn ns.length cn, .slice pk ks.length ck] (.mk k t ns ks) F (k : Int) t vn ns (.slice none 0 0) [] [] (fun _ => False) wi) := Hid.mk' ⟨HE.out.ab, HE.out.av, HE.out.rb, HE.out.ob, HE.out.nm, own_nil _ _ _ _, rfl, fun _ hf => hf.elim, Nat.le_refl _, HE.out.be⟩
        clear HE b3
        generalize wi.heap.size = N0 at HN0 H20
        go_loopw [32] (fun iv wr => ∃ (i : Nat) (vk : Value) (xs : List Value) (F' : Nat → Prop), iv = .int .i64 ((i : Nat) : Int) ∧ i ≤ ks.length ∧ Hid (C2 w w.heap.size (w.heap.size + 1) V N0 #[.int .i64 (k : Int), .string t, .slice pn ns.length cn, .slice pk ks.length ck] (.mk k t ns ks) F (k : Int) t vn ns vk (ks.take i) xs F' wr)) (fun iv _ => ks.length - (intOf iv).toNat)
        case atStart => exact ⟨0, _, _, _, rfl, by omega, H20⟩
        case round =>
          obtain ⟨i, vk, xs, F', rfl, hi, HI⟩ := hrel
          clear H20
          rename World => wi
          by_cases hiT : i < ks.length
          · have hiI : (i : Int) < (ks.length : Int) := by omega
            obtain ⟨u, hu⟩ : ∃ u, ks[i]? = some u := ⟨_, List.getElem?_eq_getElem hiT⟩
            obtain ⟨p1, c1, p2, c2, heq, _, hkk⟩ := HI.out.av.open_
            obtain ⟨g, off, hpk, xk, xt, q1, n1, d1, q2, n2, d2, e0, e1, e2, e3, hvu⟩ := hkk i u hu
            have hp2 : p2 = pk := by simp at heq; exact heq.2.1.symm
            rw [hp2] at hpk
            have HTK : Hid (ks.take (i + 1) = ks.take i ++ [u]) := Hid.mk' (by rw [List.take_add_one, hu]; rfl)
            have htl : (ks.take i).length = i := by rw [List.length_take]; omega
            have hkr2 := HI.out.kr
            rw [htl] at hkr2
            obtain ⟨pv, cv, rfl⟩ := own_shape4 hkr2
            subst hpk
            have HIL : Hid (i ≤ 65536 ∧ (ks.take i).length = i) := Hid.mk' (by omega)
            have HCP : Hid (∀ Z, Below wi.heap.size wi Z → Calls Tryz.prog 39 #[.agg #[.int .i64 xk, .string xt, .slice q1 n1 d1, .slice q2 n2 d2]] Z fun e Y => ∃ cs', e = .returned (.agg cs') ∧ Below Z.heap.size Z Y ∧ ∃ G : Nat → Prop, (∀ k, G k → Z.heap.size ≤ k ∧ k < Y.heap.size) ∧ VlAt G Y u cs') := Hid.mk' (fun Z hZ => HKID.out i u hu _ Z (VlAt.keep (fun _ x => x) (fun j _ hl => hZ.block j hl) hZ.size _ _ hvu) (fun j hj => by have := HFL.out j hj; have := HI.out.be.size; have := hZ.size; omega))
            clear hu heq hkk hvu hp2 hkr2 htl
            go_upto_region 10 with fail
            have hb0 := (Below.refl wi.heap.size wi).alloc (Nat.le_refl _) (.cells #[.int .i64 xk, .string xt, .slice q1 n1 d1, .slice q2 n2 d2] 41)
            have hn0 := heap_alloc_new wi (.cells #[.int .i64 xk, .string xt, .slice q1 n1 d1, .slice q2 n2 d2] 41)
            generalize wi.alloc (.cells #[.int .i64 xk, .string xt, .slice q1 n1 d1, .slice q2 n2 d2] 41) = wj at hb0 hn0 ⊢
            have H2 := Hid.mk' (HI.out.below hb0)
            have HKB : Hid (∀ Z, Below wj.heap.size wj Z → Z.cell? ⟨wi.heap.size, 0, none⟩ = some (.int .i64 xk) ∧ Z.cell? ⟨wi.heap.size, 1, none⟩ = some (.string xt) ∧ Z.cell? ⟨wi.heap.size, 2, none⟩ = some (.slice q1 n1 d1) ∧ Z.cell? ⟨wi.heap.size, 3, none⟩ = some (.slice q2 n2 d2)) := Hid.mk' (fun Z hZ => by
              have hz := (hZ.block wi.heap.size (Array.getElem?_eq_some_iff.1 hn0).1).trans hn0
              exact ⟨by simp [World.cell?, hz], by simp [World.cell?, hz], by simp [World.cell?, hz], by simp [World.cell?, hz]⟩)
            have HB0 := Hid.mk' hb0
            clear hb0 hn0 e0 e1 e2 e3
            have HGK : Hid (GK (fun (u0 : Value) (news : List Value) (X : World) => ∃ (cs : Array Value) (F1 : Nat → Prop), u0 = .agg cs ∧ news = cs.toList ∧ VlAt F1 X u cs ∧ ∀ j, F1 j → wj.heap.size ≤ j ∧ j < X.heap.size) wj) := Hid.mk' (fun u0 news X Y h hs hb => by
              obtain ⟨cs, F1, h1, h2, h3, h4⟩ := h
              exact ⟨cs, F1, h1, h2, VlAt.keep (fun _ x => x) (fun j hj hl => hb j (h4 j hj).1 hl) hs _ _ h3, fun j hj => ⟨(h4 j hj).1, Nat.lt_of_lt_of_le (h4 j hj).2 hs⟩⟩)
            have HOW : Hid (wj.ownsRow N0 41 4 (.slice pv i cv) i xs) := Hid.mk' (by have := H2.out.kr; rw [HIL.out.2] at this; exact this)
            have HBXX := Hid.mk' H2.out.ob
            have HVR : Hid ((Value.slice pv i cv).ownBlock ≠ some V) := Hid.mk' (fun e => by have := (own_row_lt HOW.out V e).1; have := HN0.out.1; omega)
            have HVW : Hid (V < wj.heap.size) := Hid.mk' (Array.getElem?_eq_some_iff.1 H2.out.ob).1
            have HBC : Hid (∀ Z : World, Z.heap[V]? = some (.cells #[.int .i64 (k : Int), .string t, vn, .slice pv i cv] 41 (0, 0)) → Z.cell? ⟨V, 3, none⟩ = some (.slice pv i cv) ∧ Z.frozen? ⟨V, 3, none⟩ = false) := Hid.mk' (fun Z hZ => ⟨by simp [World.cell?, hZ], by simp [World.frozen?, hZ]⟩)
            have HVC : Hid (∀ Z, Below wj.heap.size wj Z → Z.cell? ⟨V, 3, none⟩ = some (.slice pv i cv)) := Hid.mk' (fun Z hZ => (HBC.out Z ((hZ.block V HVW.out).trans HBXX.out)).1)
            have HWW : Hid (∀ Z, Below wj.heap.size wj Z → Below wi.heap.size wi Z) := Hid.mk' (fun Z hZ => HB0.out.trans ⟨hZ.os, hZ.tape, hZ.output, hZ.size, fun j hj => hZ.block j (by have := HB0.out.size; omega)⟩)
            refine (wpIn_wide (n := 6)).1 ?_
            refine region_rel (by kernel_rfl) (fun zz => { tmps := #[.agg #[.int .i64 (k : Int), .string t, .slice pn ns.length cn, .slice (some ⟨g, off, none⟩) ks.length ck], .pointer (some ⟨w.heap.size, 0, none⟩), .pointer (some ⟨w.heap.size + 1, 0, none⟩), .pointer (some ⟨V, 0, none⟩), undef, u5, undef, .pointer (some ⟨wi.heap.size, 0, none⟩), .pointer (some ⟨w.heap.size, 0, none⟩), .int .i64 (k : Int), .pointer (some ⟨w.heap.size, 1, none⟩), .string t, .string t, .agg #[.int .i64 (k : Int), .string t, .slice none 0 0, .slice none 0 0], .pointer (some ⟨w.heap.size, 2, none⟩), .slice pn ns.length cn, .int .i64 (ns.length : Int), .int .i64 (ns.length : Int), .bool false, u19, u20, u21, u22, u23, u24, u25, u26, u27, u28, .pointer (some ⟨w.heap.size, 3, none⟩), .slice (some ⟨g, off, none⟩) ks.length ck, .int .i64 (ks.length : Int), .int .i64 (i : Int), .bool true, .pointer (some ⟨g, off + i * 4, none⟩), .agg #[.int .i64 xk, .string xt, .slice q1 n1 d1, .slice q2 n2 d2], zz 0, zz 1, zz 2, zz 3, zz 4, zz 5, zz 6, u43, undef], defers := [] }) (fun j => (#[u36, u37, u38, u39, u40, u41, u42] : Array Value).getD j undef) _ (fun L zz Z => CI (fun (u0 : Value) (news : List Value) (X : World) => ∃ (cs : Array Value) (F1 : Nat → Prop), u0 = .agg cs ∧ news = cs.toList ∧ VlAt F1 X u cs ∧ ∀ j, F1 j → wj.heap.size ≤ j ∧ j < X.heap.size) 41 4 3 V N0 i xs (.slice pv i cv) (.agg #[.int .i64 xk, .string xt, .slice q1 n1 d1, .slice q2 n2 d2]) #[.int .i64 (k : Int), .string t, vn, .slice pv i cv] wj L zz Z) (fun L' hL => ⟨fun x => (by rw [hL] at x; cases x), fun x => (by rw [hL] at x; cases x), fun x => (by rw [hL] at x; cases x), fun x => (by rw [hL] at x; cases x), ⟨fun x => (by rw [hL] at x; cases x), fun x => (by rw [hL] at x; cases x), fun x => (by rw [hL] at x; cases x)⟩, fun x => (by rw [hL] at x; cases x), fun _ => ⟨⟨hL _, hL _⟩, ⟨⟨rfl, rfl, rfl, Nat.le_refl _, fun _ _ => rfl⟩, fun x => (by rw [hL] at x; cases x)⟩⟩, fun x => (by rw [hL] at x; cases x)⟩) (deps_of' (by kernel_rfl)) ?_ ?_
            · intro L zz Z hI i0 hi0 hL op ho hdone KK hKK
              have hlt : i0 < 8 := hi0
              have h5f : ∀ k, k < 5 → L k = false → L 5 = false := fun k hk hl => by
                cases h5 : L 5
                · rfl
                · rw [hI.e5 h5 k hk] at hl
                  cases hl
              rcases (show i0 = 0 ∨ i0 = 1 ∨ i0 = 2 ∨ i0 = 3 ∨ i0 = 4 ∨ i0 = 5 ∨ i0 = 6 ∨ i0 = 7 by omega) with rfl | rfl | rfl | rfl | rfl | rfl | rfl | rfl
              · have h5 := h5f 0 (by decide) hL
                simp at ho; subst ho
                have hKX := hKK _ Z (fun L2 h2 => hI.s0 h5 rfl L2 h2)
                simp [wpOpIn, Region.wanted, yielded, Oper.wpIn, Oper.semAt_eq, execOp, Oper.uponIn, go_sem]
                first | exact hKX | (simp [upd] at hKX; exact hKX) | (simp [upd] at hKX ⊢; exact hKX)
              · have h5 := h5f 1 (by decide) hL
                simp at ho; subst ho; simp [Region.binds] at hdone
                have e0 := hI.e0 hdone
                have hKX := hKK _ Z (fun L2 h2 => hI.s1 h5 rfl hdone L2 h2)
                have v2 := HVC.out Z (hI.m1 h5).2.be
                simp [wpOpIn, Region.wanted, yielded, Oper.wpIn, Oper.semAt_eq, execOp, Oper.uponIn, go_sem, e0, v2]
                first | exact hKX | (simp [upd, e0] at hKX; exact hKX) | (simp [upd, e0] at hKX ⊢; exact hKX)
              · have h5 := h5f 2 (by decide) hL
                simp at ho; subst ho
                have hKX := hKK _ Z (fun L2 h2 => hI.s2 h5 rfl L2 h2)
                obtain ⟨c0, c1, c2, c3⟩ := HKB.out Z (hI.m1 h5).2.be
                simp [wpOpIn, Region.wanted, yielded, Oper.wpIn, Oper.semAt_eq, execOp, Oper.uponIn, go_sem, c0, c1, c2, c3]
                first | exact hKX | (simp [upd] at hKX; exact hKX) | (simp [upd] at hKX ⊢; exact hKX)
              · have h5 := h5f 3 (by decide) hL
                simp at ho; subst ho; simp [Region.binds] at hdone
                have h2t : L 2 = true := by simp [hdone]
                have e2 := hI.e2 h2t
                have h4 : L 4 = false := by
                  cases h4 : L 4
                  · rfl
                  · rw [hI.dd.2.2 h4] at hL; cases hL
                simp [wpOpIn, Region.wanted, yielded, Oper.wpIn, Oper.semAt_eq, execOp, Oper.uponIn, go_sem, e2]
                refine ⟨trivial, ?_⟩
                refine CallsIn.mono (callsIn_wide.2 (HCP.out Z (HWW.out Z (hI.m1 h5).2.be))) ?_
                rintro e Y ⟨cs2, rfl, hY, G1, hG1, hv1⟩
                have hzs := (hI.m1 h5).2.be.size
                have hKX := hKK (.agg cs2) Y (fun L2 h2 => hI.s3 h5 h2t (fun hy => by rw [hL] at hy; exact hy.call h4 hY ⟨_, cs2, G1, rfl, rfl, hv1, fun j hj => ⟨by have := (hG1 j hj).1; omega, (hG1 j hj).2⟩⟩) L2 h2)
                first | exact hKX | (simp [upd, e2] at hKX; exact hKX) | (simp [upd, e2] at hKX ⊢; exact hKX)
              · have h5 := h5f 4 (by decide) hL
                simp at ho; subst ho; simp [Region.binds] at hdone
                have h3t : L 3 = true := by simp [hdone]
                have hA := (hI.m1 h5).2
                rw [h3t] at hA
                obtain ⟨news, hg, _⟩ := hA.g3 rfl
                obtain ⟨cs2, F1, e3, rfl, hv1, _⟩ := hg
                obtain ⟨yk, yt, s1, m1, t1, s2, m2, t2, rfl⟩ := hv1.form
                have hKX := hKK (.slice (some ⟨Z.heap.size, 0, none⟩) 1 1) (Z.alloc (.cells #[.int .i64 yk, .string yt, .slice s1 m1 t1, .slice s2 m2 t2] 41)) (fun L2 h2 => hI.s4 h5 h3t (fun hy => by rw [h3t] at hy ⊢; exact hy.build HGK.out (fun news hn => by
                  obtain ⟨cs3, _, e4, rfl, _⟩ := hn
                  rw [e3] at e4
                  have e5 : #[.int .i64 yk, .string yt, .slice s1 m1 t1, .slice s2 m2 t2] = cs3 := by injection e4
                  rw [← e5])) L2 h2)
                have hbz := build_four yk yt s1 m1 t1 s2 m2 t2 Z
                simp [wpOpIn, Region.wanted, yielded, Oper.wpIn, Oper.semAt_eq, execOp, Oper.uponIn, go_sem, e3, hbz]
                first | exact hKX | (simp [upd, e3] at hKX; exact hKX) | (simp [upd, e3] at hKX ⊢; exact hKX)
              · simp at ho; subst ho; simp [Region.binds] at hdone
                have k1 : L 1 = true := by simp [hdone]
                have k4 : L 4 = true := by simp [hdone]
                have k3 := hI.dd.2.2 k4
                have hall : ∀ k, k < 5 → L k = true := fun k hk => by
                  rcases (show k = 0 ∨ k = 1 ∨ k = 2 ∨ k = 3 ∨ k = 4 by omega) with rfl | rfl | rfl | rfl | rfl
                  · exact hI.dd.1 k1
                  · exact k1
                  · exact hI.dd.2.1 k3
                  · exact k3
                  · exact k4
                have e1 := hI.e1 k1
                have hA := (hI.m1 hL).2
                rw [k3, k4] at hA
                obtain ⟨news, hg, hb4⟩ := hA.g3 rfl
                obtain ⟨b4, e4, y1, y2, y3⟩ := hb4 rfl
                obtain ⟨cs2, F1, e3, rfl, hv1, hF1⟩ := hg
                obtain ⟨yk, yt, s1, m1, t1, s2, m2, t2, rfl⟩ := hv1.form
                have hg : (fun (u0 : Value) (news : List Value) (X : World) => ∃ (cs : Array Value) (F1 : Nat → Prop), u0 = .agg cs ∧ news = cs.toList ∧ VlAt F1 X u cs ∧ ∀ j, F1 j → wj.heap.size ≤ j ∧ j < X.heap.size) (zz 3) [.int .i64 yk, .string yt, .slice s1 m1 t1, .slice s2 m2 t2] Z := ⟨_, F1, e3, rfl, hv1, hF1⟩
                obtain ⟨v', Y, a1, a2, a3, a4⟩ := append_four Z N0 (.slice pv i cv) i xs yk yt s1 m1 t1 s2 m2 t2 (own_keptO HOW.out fun k hk => hA.be.block k (own_row_lt HOW.out k hk).2) b4 (by simpa using y3) HIL.out.1 (by have := hA.be.size; have := H2.out.le; omega) 39
                have hKX := hKK v' Y (fun L2 h2 => hI.s5 hL hall (fun hy => by rw [k3, k4] at hy; exact hy.append HGK.out hg HOW.out HBXX.out HVR.out a2 a3 a4) L2 h2)
                simp [wpOpIn, Region.wanted, yielded, Oper.wpIn, Oper.semAt_eq, execOp, Oper.uponIn, resolve, invoke, builtin, Act.eval, Act.put, e1, e4, a1]
                refine ⟨fun _ _ => trivial, ?_⟩
                first | exact hKX | (simp [upd, e1, e4] at hKX; exact hKX) | (simp [upd, e1, e4] at hKX ⊢; exact hKX)
              · simp at ho; subst ho; simp [Region.binds] at hdone
                have h5 : L 5 = true := by simp [hdone]
                have hKX := hKK _ Z (fun L2 h2 => hI.s6 h5 rfl L2 h2)
                simp [wpOpIn, Region.wanted, yielded, Oper.wpIn, Oper.semAt_eq, execOp, Oper.uponIn, go_sem]
                first | exact hKX | (simp [upd] at hKX; exact hKX) | (simp [upd] at hKX ⊢; exact hKX)
              · simp at ho; subst ho; simp [Region.binds] at hdone
                have h6 : L 6 = true := by simp [hdone]
                have h5 : L 5 = true := by
                  cases h5 : L 5
                  · rw [(hI.m1 h5).1.1] at h6; cases h6
                  · rfl
                have e6 := hI.e6 h6
                have hB := hI.m2 h5
                have hbx := hB.box
                rw [hL, if_neg (by decide)] at hbx
                obtain ⟨_, _, _, _, _, _, _, ho6⟩ := hB.ex
                obtain ⟨pf, cf, e5⟩ := own_shape4 ho6
                have u3 := HBC.out Z hbx
                have hKX := hKK undef (Z.setCell ⟨V, 3, none⟩ (zz 5)) (fun L2 h2 => hI.s7 h5 (fun hy => hy.hang hL HGK.out HVW.out HVR.out) L2 h2)
                rw [e5] at hKX
                simp [wpOpIn, Region.wanted, yielded, Oper.wpIn, Oper.semAt_eq, execOp, Oper.uponIn, go_sem, e5, e6, u3.1, u3.2]
                first | exact hKX | (simp [upd, e5, e6] at hKX; exact hKX) | (simp [upd, e5, e6] at hKX ⊢; exact hKX)
            · intro L zz Z hall hI
              have hB := hI.m2 (hall 5 (by decide))
              rw [hall 7 (by decide)] at hB
              obtain ⟨u0, news, X0, ⟨cs2, F1, _, rfl, hv0, hF0⟩, hX1, hX2, hX3, hown⟩ := hB.ex
              have hv1 : VlAt F1 Z u cs2 := VlAt.keep (fun _ x => x) (fun j hj hl => hX2 j (hF0 j hj).1 hl) hX1 _ _ hv0
              have hF1 : ∀ j, F1 j → wj.heap.size ≤ j ∧ j < X0.heap.size := hF0
              clear hv0 hF0 hX2
              obtain ⟨yk, yt, s1, m1, t1, s2, m2, t2, rfl⟩ := hv1.form
              have HI2 : Hid (C2 w w.heap.size (w.heap.size + 1) V N0 #[.int .i64 (k : Int), .string t, .slice pn ns.length cn, .slice (some ⟨g, off, none⟩) ks.length ck] (.mk k t ns ks) F (k : Int) t vn ns (zz 5) (ks.take (i + 1)) (xs ++ [.int .i64 yk, .string yt, .slice s1 m1 t1, .slice s2 m2 t2]) (fun j => F' j ∨ F1 j) Z) := Hid.mk' (by
                have hVl := HVL.out
                have hN := HN0.out
                have hle := H2.out.le
                have hrow : ∀ j, (Value.slice pv i cv).ownBlock = some j → N0 ≤ j := fun j hj => (own_row_lt HOW.out j hj).1
                have hws := H2.out.be.size
                have hbk : ∀ j, j < N0 → j ≠ V → Z.heap[j]? = wj.heap[j]? := fun j hj hne => hB.block j (by omega) hne (fun e => by have := hrow j e.symm; omega)
                refine ⟨(hbk _ (by omega) (by omega)).trans H2.out.ab, ?_, (hbk _ (by omega) (by omega)).trans H2.out.rb, by simpa using hB.box, own_keptO H2.out.nm fun j hj => hbk j (hN.2 j hj) (fun e => row_ne H2.out.nm H2.out.ob (by decide) (by rw [← e]; exact hj)), ?_, ?_, ?_, Nat.le_trans hle hB.size, ⟨hB.os.trans H2.out.be.os, hB.tape.trans H2.out.be.tape, hB.output.trans H2.out.be.output, Nat.le_trans hws hB.size, fun j hj => (hbk j (by omega) (by omega)).trans (H2.out.be.block j hj)⟩⟩
                · exact VlAt.keep (fun _ x => x) (fun j hj hl => hbk j (by have := HFL.out j hj; omega) (by have := HFL.out j hj; omega)) hB.size _ _ H2.out.av
                · rw [HTK.out, List.length_append, HIL.out.2]
                  exact hown
                · rw [HTK.out]
                  exact KidsL.snoc (VlAt.trim hv1 (fun j hj => .inr hj)) _ _ (KidsL.keep (fun j hj => .inl hj) (fun j hj hl => hB.block j hl (by have := (H2.out.fF j hj).1; omega) (H2.out.fF j hj).2.2) hB.size _ _ H2.out.kl)
                · rintro j (hj | hj)
                  · have hf := H2.out.fF j hj
                    refine ⟨hf.1, by have := hB.size; omega, fun e => ?_⟩
                    rcases hB.loc with l | ⟨b, l, hb⟩
                    · exact hf.2.2 (e.trans l)
                    · rw [l] at e
                      simp at e
                      omega
                  · have hf := hF1 j hj
                    refine ⟨by omega, by omega, fun e => ?_⟩
                    rcases hX3 j e.symm with x | x <;> omega)
              dsimp only
              clear hB hown hI hall hv1 hF1 hX1 hX3
              go_wp2_with fail
              go_roundw
              case rel => exact ⟨i + 1, _, _, _, by simp, by omega, HI2⟩
              case measure => simp [intOf]; omega
          · obtain rfl : i = ks.length := by omega
            have hkt := HI.out.kr
            rw [List.take_length] at hkt
            obtain ⟨pv, cv, rfl⟩ := own_shape4 hkt
            obtain ⟨pm, cm, rfl⟩ := own_shape4 HI.out.nm
            have HE2 := HI.out
            rw [List.take_length] at HE2
            have HE3 := Hid.mk' HE2
            have hob := HE2.ob
            have c0 : wi.cell? ⟨V, 0, none⟩ = some (.int .i64 (k : Int)) := by simp [World.cell?, hob]
            have c1 : wi.cell? ⟨V, 1, none⟩ = some (.string t) := by simp [World.cell?, hob]
            have c2 : wi.cell? ⟨V, 2, none⟩ = some (.slice pm ns.length cm) := by simp [World.cell?, hob]
            have c3 : wi.cell? ⟨V, 3, none⟩ = some (.slice pv ks.length cv) := by simp [World.cell?, hob]
            obtain ⟨r0, r1, r2, r3, z0, z1, z2, z3⟩ := rz_of HE2.rb
            clear HI hkt HE2 hob
            go_wp2_with fail
            have hp := put4_res (.int .i64 (k : Int)) (.string t) (.slice pm ns.length cm) (.slice pv ks.length cv) HE3.out.rb
            obtain ⟨y1, y2⟩ := HE3.out.out (by omega) (by have := HN0.out.1; have := HVL.out; omega) hp
            have hrow := hp.row
            show bodyPost _ _ _ _ _ (put4 wi (w.heap.size + 1) 0 (.int .i64 (k : Int)) (.string t) (.slice pm ns.length cm) (.slice pv ks.length cv))
            generalize put4 wi (w.heap.size + 1) 0 (.int .i64 (k : Int)) (.string t) (.slice pm ns.length cm) (.slice pv ks.length cv) = w4 at y1 y2 hrow ⊢
            refine ⟨rfl, _, ?_, _, rfl, y1, y2⟩
            simp [results, Tryz.f39, go_sem, World.cell?, hrow]
end Go.Proofs.YtkplbggefiemdaaGreatDoor
