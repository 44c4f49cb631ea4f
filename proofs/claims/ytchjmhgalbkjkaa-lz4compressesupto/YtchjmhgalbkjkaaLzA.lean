/-
  Packed texts as lists of numbers: how they are read. No conditions but those that each fact names.
-/
namespace Lz
def lens : List Nat → Nat → Nat → Nat → Nat × Nat × Nat
  | [], _, _, _ => (30, 0, 0)
  | c :: l, n, i, room => if room < n + c then (41, 0, 0) else if c = 255 then lens l (n + c) (i + 1) room else (0, n + c, i + 1)
def counted (bs : List Nat) (i n : Nat) (more : Bool) (room : Nat) : Nat × Nat × Nat :=
  if room < n then (41, 0, 0) else if more then lens (bs.drop i) n i room else (0, n, i)
theorem drop_cons (bs : List Nat) (i : Nat) (h : i < bs.length) : bs.drop i = bs.getD i 0 :: bs.drop (i + 1) := by
  rw [List.drop_eq_getElem_cons h]
  simp [List.getD, h]
theorem counted_most (bs : List Nat) (i n : Nat) (more : Bool) (room : Nat) (h : room < n) : counted bs i n more room = (41, 0, 0) := by simp [counted, h]
theorem counted_done (bs : List Nat) (i n room : Nat) (h : ¬ room < n) : counted bs i n false room = (0, n, i) := by simp [counted, h]
theorem counted_short (bs : List Nat) (i n room : Nat) (h : ¬ room < n) (hi : bs.length ≤ i) : counted bs i n true room = (30, 0, 0) := by
  simp [counted, h, List.drop_eq_nil_of_le hi, lens]
theorem counted_step (bs : List Nat) (i n room : Nat) (h : ¬ room < n) (hi : i < bs.length) :
    counted bs i n true room = counted bs (i + 1) (n + bs.getD i 0) (bs.getD i 0 == 255) room := by
  unfold counted
  rw [if_neg h, if_pos rfl, drop_cons bs i hi, lens]
  simp
structure Part where
  code : Nat
  place : Nat
  frm : Nat
  many : Nat
  off : Nat
  len : Nat
  nxt : Nat
/-- what is left of a sequence behind its copy's count -/
def nextC (bs : List Nat) (token frm many off : Nat) (m : Nat × Nat × Nat) : Part :=
  if m.1 = 41 then ⟨41, token, 0, 0, 0, 0, 0⟩ else if m.1 ≠ 0 then ⟨30, bs.length, 0, 0, 0, 0, 0⟩ else ⟨0, 0, frm, many, off, m.2.1, m.2.2⟩
def offAt (bs : List Nat) (p : Nat) : Nat := bs.getD p 0 + 256 * bs.getD (p + 1) 0
/-- what is left of it behind its literals' count -/
def nextB (bs : List Nat) (token low said ahead most : Nat) (c : Nat × Nat × Nat) : Part :=
  if c.1 = 41 then ⟨41, token, 0, 0, 0, 0, 0⟩
  else if c.1 ≠ 0 then ⟨30, bs.length, 0, 0, 0, 0, 0⟩
  else if bs.length < c.2.2 + c.2.1 then ⟨30, bs.length, 0, 0, 0, 0, 0⟩
  else if c.2.2 + c.2.1 = bs.length then ⟨0, 0, c.2.2, c.2.1, 0, 0, c.2.2 + c.2.1⟩
  else if c.2.2 + c.2.1 + 1 = bs.length then ⟨30, bs.length, 0, 0, 0, 0, 0⟩
  else if offAt bs (c.2.2 + c.2.1) = 0 ∨ ahead + said + c.2.1 < offAt bs (c.2.2 + c.2.1) then ⟨40, c.2.2 + c.2.1, 0, 0, 0, 0, 0⟩
  else nextC bs token c.2.2 c.2.1 (offAt bs (c.2.2 + c.2.1)) (counted bs (c.2.2 + c.2.1 + 2) (low + 4) (low == 15) (most - said - c.2.1))
/-- the sequence at a place -/
def next (bs : List Nat) (i said ahead most : Nat) : Part :=
  if bs.length ≤ i then ⟨30, bs.length, 0, 0, 0, 0, 0⟩
  else nextB bs i (bs.getD i 0 % 16) said ahead most (counted bs (i + 1) (bs.getD i 0 / 16) (bs.getD i 0 / 16 == 15) (most - said))
structure Sq where
  token : Nat
  frm : Nat
  many : Nat
  off : Nat
  len : Nat
def seqOf (i : Nat) (p : Part) : Sq := ⟨i, p.frm, p.many, p.off, p.len⟩
/-- all sequences up to the last one, or an error and its place -/
def walk (bs : List Nat) (ahead most : Nat) : Nat → Nat → Nat → List Sq × Nat × Nat
  | 0, _, _ => ([], 30, bs.length)
  | f + 1, i, said =>
    if (next bs i said ahead most).code ≠ 0 then ([], (next bs i said ahead most).code, (next bs i said ahead most).place)
    else if (next bs i said ahead most).len = 0 then ([seqOf i (next bs i said ahead most)], 0, 0)
    else (seqOf i (next bs i said ahead most) :: (walk bs ahead most f (next bs i said ahead most).nxt (said + (next bs i said ahead most).many + (next bs i said ahead most).len)).1,
      (walk bs ahead most f (next bs i said ahead most).nxt (said + (next bs i said ahead most).many + (next bs i said ahead most).len)).2)
end Lz
