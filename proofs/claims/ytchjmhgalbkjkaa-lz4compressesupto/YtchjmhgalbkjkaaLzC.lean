/-
  Packings as lists of numbers: how they are made. No conditions but those that each fact names.
-/
namespace Lz
/-- four bytes at a place, as a number -/
def four (bs : List Nat) (p : Nat) : Nat := bs.getD p 0 + bs.getD (p + 1) 0 * 256 + bs.getD (p + 2) 0 * 65536 + bs.getD (p + 3) 0 * 16777216
/-- the latest place below one at which k stands -/
def lastAt (bs : List Nat) (k : Nat) : Nat → Option Nat
  | 0 => none
  | p + 1 => if four bs p = k then some p else lastAt bs k p
def orNone : Option Nat → Int
  | some q => (q : Int)
  | none => -1
def nearOf (bs : List Nat) (p : Nat) : Int := orNone (lastAt bs (four bs p) p)
theorem lastAt_lt (bs : List Nat) (k : Nat) : ∀ p q, lastAt bs k p = some q → q < p
  | 0, q, h => by simp [lastAt] at h
  | p + 1, q, h => by
    unfold lastAt at h
    split at h
    · cases h; omega
    · have := lastAt_lt bs k p q h; omega
theorem orNone_lt (bs : List Nat) (k p : Nat) : -1 ≤ orNone (lastAt bs k p) ∧ orNone (lastAt bs k p) < p := by
  cases h : lastAt bs k p with
  | none => simp [orNone]; omega
  | some q => have := lastAt_lt bs k p q h; simp [orNone]; omega
theorem nearOf_lt (bs : List Nat) (p : Nat) : -1 ≤ nearOf bs p ∧ nearOf bs p < p := orNone_lt bs _ p
/-- how many numbers two lists have in common at their heads -/
def common : List Nat → List Nat → Nat
  | a :: l, b :: m => if a = b then common l m + 1 else 0
  | _, _ => 0
theorem common_le : ∀ l m : List Nat, common l m ≤ l.length
  | a :: l, b :: m => by
    unfold common
    split
    · have := common_le l m; simp; omega
    · omega
  | [], _ => by simp [common]
  | _ :: _, [] => by simp [common]
/-- with how many bytes two places agree, as far as a copy may go -/
def agree (bs : List Nat) (c p : Nat) : Nat := common ((bs.take (bs.length - 5)).drop p) (bs.drop c)
theorem agree_le (bs : List Nat) (c p : Nat) : agree bs c p ≤ bs.length - 5 - p := by
  unfold agree
  have := common_le ((bs.take (bs.length - 5)).drop p) (bs.drop c)
  simp at this
  omega
theorem agree_stop (bs : List Nat) (c p : Nat) (h : bs.length - 5 ≤ p) : agree bs c p = 0 := by
  have := agree_le bs c p
  omega
theorem agree_step (bs : List Nat) (c p : Nat) (h : p < bs.length - 5) (hc : c < bs.length) :
    agree bs c p = if bs.getD p 0 = bs.getD c 0 then agree bs (c + 1) (p + 1) + 1 else 0 := by
  unfold agree
  rw [List.drop_eq_getElem_cons (l := bs.take (bs.length - 5)) (i := p) (by simp; omega), List.drop_eq_getElem_cons (l := bs) (i := c) hc, common]
  simp [List.getD, hc, show p < bs.length by omega]
/-- the best of so many candidates: offset and count -/
def longF (bs : List Nat) (p : Nat) : Nat → Int → Nat × Nat → Nat × Nat
  | 0, _, b => b
  | t + 1, c, b => if 0 ≤ c ∧ (p : Int) - c ≤ 65535 then longF bs p t (nearOf bs c.toNat) (if b.2 < agree bs c.toNat p then (p - c.toNat, agree bs c.toNat p) else b) else b
def long (bs : List Nat) (tries p : Nat) : Nat × Nat := longF bs p tries (nearOf bs p) (0, 0)
theorem longF_stop (bs : List Nat) (p t : Nat) (c : Int) (b : Nat × Nat) (h : ¬ (0 ≤ c ∧ (p : Int) - c ≤ 65535)) : longF bs p t c b = b := by
  cases t with
  | zero => rfl
  | succ t => rw [longF, if_neg h]
theorem longF_step (bs : List Nat) (p t : Nat) (c : Int) (b : Nat × Nat) (h : 0 ≤ c ∧ (p : Int) - c ≤ 65535) : longF bs p (t + 1) c b = longF bs p t (nearOf bs c.toNat) (if b.2 < agree bs c.toNat p then (p - c.toNat, agree bs c.toNat p) else b) := by
  rw [longF, if_pos h]
/-- a copy: where, its offset, its count -/
structure Cp where
  at_ : Nat
  off : Nat
  cnt : Nat
def greedyF (bs : List Nat) (tries : Nat) : Nat → Nat → List Cp
  | 0, _ => []
  | f + 1, p => if bs.length < p + 12 then [] else if (long bs tries p).2 = 0 then greedyF bs tries f (p + 1) else ⟨p, (long bs tries p).1, (long bs tries p).2⟩ :: greedyF bs tries f (p + (long bs tries p).2)
def greedy (bs : List Nat) (tries : Nat) : List Cp := greedyF bs tries (bs.length + 1) 0
/-- a count's length bytes -/
def lenb (n : Nat) : List Nat := if n < 15 then [] else List.replicate ((n - 15) / 255) 255 ++ [(n - 15) % 255]
def lits (plain : List Nat) (beyond : Nat) : List Nat := (16 * min plain.length 15 + min beyond 15) :: (lenb plain.length ++ plain)
def packed (bs : List Nat) : Nat → List Cp → List Nat
  | i, [] => lits (bs.drop i) 0
  | i, c :: l => lits ((bs.take c.at_).drop i) (c.cnt - 4) ++ ([c.off % 256, c.off / 256] ++ (lenb (c.cnt - 4) ++ packed bs (c.at_ + c.cnt) l))
end Lz
