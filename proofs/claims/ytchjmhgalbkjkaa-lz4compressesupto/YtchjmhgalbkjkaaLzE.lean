/-
  The copies that are taken from the front: what holds of each. No conditions but those that each fact names.
-/
import Derived.Test.YtchjmhgalbkjkaaLzD
import Derived.Test.YtchjmhgalbkjkaaLzC
set_option linter.unusedVariables false
namespace Lz
theorem lastAt_four (bs : List Nat) (k : Nat) : ∀ p q, lastAt bs k p = some q → four bs q = k
  | 0, q, h => by simp [lastAt] at h
  | p + 1, q, h => by
    unfold lastAt at h
    split at h
    · cases h; assumption
    · exact lastAt_four bs k p q h
theorem nearOf_four (bs : List Nat) (p : Nat) (h : 0 ≤ nearOf bs p) : four bs (nearOf bs p).toNat = four bs p ∧ (nearOf bs p).toNat < p := by
  unfold nearOf at h ⊢
  cases e : lastAt bs (four bs p) p with
  | none => rw [e] at h; simp [orNone] at h
  | some q => exact ⟨lastAt_four bs _ p q e, lastAt_lt bs _ p q e⟩
theorem four_same (bs : List Nat) (hb : ∀ z ∈ bs, z < 256) (p q : Nat) (h : four bs p = four bs q) : bs.getD p 0 = bs.getD q 0 ∧ bs.getD (p + 1) 0 = bs.getD (q + 1) 0 ∧ bs.getD (p + 2) 0 = bs.getD (q + 2) 0 ∧ bs.getD (p + 3) 0 = bs.getD (q + 3) 0 := by
  have a0 := getD_byte bs hb p
  have a1 := getD_byte bs hb (p + 1)
  have a2 := getD_byte bs hb (p + 2)
  have a3 := getD_byte bs hb (p + 3)
  have b0 := getD_byte bs hb q
  have b1 := getD_byte bs hb (q + 1)
  have b2 := getD_byte bs hb (q + 2)
  have b3 := getD_byte bs hb (q + 3)
  unfold four at h
  omega
theorem agree_four (bs : List Nat) (hb : ∀ z ∈ bs, z < 256) (c p : Nat) (hc : c < p) (hp : p + 12 ≤ bs.length) (h : four bs c = four bs p) : 4 ≤ agree bs c p := by
  obtain ⟨h0, h1, h2, h3⟩ := four_same bs hb c p h
  rw [agree_step bs c p (by omega) (by omega), if_pos h0.symm, agree_step bs (c + 1) (p + 1) (by omega) (by omega), if_pos h1.symm, agree_step bs (c + 1 + 1) (p + 1 + 1) (by omega) (by omega), if_pos h2.symm, agree_step bs (c + 1 + 1 + 1) (p + 1 + 1 + 1) (by omega) (by omega), if_pos h3.symm]
  omega
/-- a copy that may be, or none -/
def Good (bs : List Nat) (p : Nat) (b : Nat × Nat) : Prop := b.2 = 0 ∧ b.1 = 0 ∨ (4 ≤ b.2 ∧ b.2 ≤ bs.length - 5 - p ∧ 1 ≤ b.1 ∧ b.1 ≤ 65535 ∧ b.1 ≤ p)
theorem longF_good (bs : List Nat) (hb : ∀ z ∈ bs, z < 256) (p : Nat) (hp : p + 12 ≤ bs.length) : ∀ (t : Nat) (c : Int) (b : Nat × Nat), (0 ≤ c → four bs c.toNat = four bs p ∧ c.toNat < p) → Good bs p b → Good bs p (longF bs p t c b)
  | 0, c, b, _, hg => hg
  | t + 1, c, b, hc, hg => by
    unfold longF
    split
    · rename_i h
      obtain ⟨h1, h2⟩ := hc h.1
      refine longF_good bs hb p hp t _ _ ?_ ?_
      · intro h0
        obtain ⟨h3, h4⟩ := nearOf_four bs c.toNat h0
        exact ⟨h3.trans h1, by omega⟩
      · split
        · have h4 := agree_four bs hb c.toNat p h2 hp h1
          have h5 := agree_le bs c.toNat p
          right
          simp only
          omega
        · exact hg
    · exact hg
theorem long_good (bs : List Nat) (hb : ∀ z ∈ bs, z < 256) (tries p : Nat) (hp : p + 12 ≤ bs.length) : Good bs p (long bs tries p) :=
  longF_good bs hb p hp tries _ _ (fun h => nearOf_four bs p h) (.inl ⟨rfl, rfl⟩)
end Lz
