/-
  made: what lies in memory while a packed text is made. Conditions: as each says.
-/
import Derived.Test.YtchjmhgalbkjkabMadB
import Derived.Test.YtchjmhgalbkjkabRws
namespace Go.Proofs.Ytchjmhgalbkjkab
open Go.RowKit Go.Shelf
set_option linter.unusedVariables false
/-- the pieces' places and sequences -/
def ptsP : Nat → List Lz.Pc → List Pt
  | _, [] => []
  | i, x :: l => (i, nums x.lit, x.off, x.len) :: ptsP (i + (Lz.enc1 x).length) l
theorem ptsP_snoc (x : Lz.Pc) : ∀ (a : List Lz.Pc) (i : Nat), ptsP i (a ++ [x]) = ptsP i a ++ [(i + (Lz.enc a).length, nums x.lit, x.off, x.len)]
  | [], i => by simp [ptsP, Lz.enc]
  | y :: a, i => by
    rw [List.cons_append, ptsP, ptsP_snoc x a, ptsP, Lz.enc, List.length_append, Nat.add_assoc]
    rfl
theorem ptsP_length : ∀ (a : List Lz.Pc) (i : Nat), (ptsP i a).length = a.length
  | [], i => rfl
  | y :: a, i => by rw [ptsP, List.length_cons, List.length_cons, ptsP_length a]
/-- a block of another kind stays through what grows a row of bytes -/
theorem ty_ne {W : World} {k g : Nat} {cs cs' : Array Value} {t t' : TypeId} {fz fz' : Nat × Nat} (h : W.heap[k]? = some (.cells cs t fz)) (h' : W.heap[g]? = some (.cells cs' t' fz')) (ht : t ≠ t') : k ≠ g := by
  intro e
  subst e
  rw [h] at h'
  cases h'
  exact ht rfl
theorem own_ty {w : World} {base n size : Nat} {e : TypeId} {v : Value} {xs : List Value} (h : w.ownsRow base e size v n xs) {k : Nat} {cs : Array Value} {t : TypeId} {fz : Nat × Nat} (hk : w.heap[k]? = some (.cells cs t fz)) (ht : t ≠ e) : v.ownBlock ≠ some k := by
  intro e1
  obtain ⟨c1, z1, h1⟩ := row_type h k e1
  exact ty_ne hk h1 ht rfl
theorem ne_of {v : Value} {row : Option Nat} (h : ∀ k, v.ownBlock = some k → row ≠ some k) : v.ownBlock = none ∨ v.ownBlock ≠ row := by
  cases e : v.ownBlock with
  | none => exact .inl rfl
  | some k => exact .inr (fun e2 => h k e e2.symm)
theorem grown_setc (W : World) (k o : Nat) (u : Value) : W.grownBy (W.setCell ⟨k, o, none⟩ u) (some k) :=
  ⟨rfl, rfl, rfl, by simp [World.setCell], fun i _ hne => by
    simp only [World.setCell, Array.getElem?_modify]
    rw [if_neg (fun e => hne (by rw [e]))]⟩
theorem setc_at {W : World} {k : Nat} {cs : Array Value} {t : TypeId} {fz : Nat × Nat} (h : W.heap[k]? = some (.cells cs t fz)) (o : Nat) (u : Value) : (W.setCell ⟨k, o, none⟩ u).heap[k]? = some (.cells (cs.setIfInBounds o u) t fz) := by
  simp [World.setCell, Array.getElem?_modify, h]
end Go.Proofs.Ytchjmhgalbkjkab
