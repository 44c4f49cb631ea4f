/-
  Packings by copies that are true: they say the text. Conditions: as each says.
-/
import Derived.Test.YtchjmhgalbkjkaaLzI
import Derived.Test.YtchjmhgalbkjkaaLzE
namespace Lz
/-- a copy that may stand, and says what stands there -/
def Tru (bs : List Nat) (c : Cp) : Prop := 4 ≤ c.cnt ∧ 1 ≤ c.off ∧ c.off ≤ 65535 ∧ c.off ≤ c.at_ ∧ c.at_ + 12 ≤ bs.length ∧ c.at_ + c.cnt + 5 ≤ bs.length ∧ ∀ k, k < c.cnt → bs.getD (c.at_ + k) 0 = bs.getD (c.at_ + k - c.off) 0
def tru (bs : List Nat) : Nat → List Cp → Prop
  | _, [] => True
  | i, c :: l => i ≤ c.at_ ∧ Tru bs c ∧ tru bs (c.at_ + c.cnt) l
def pcs (bs : List Nat) : Nat → List Cp → List Pc
  | _, [] => []
  | i, c :: l => ⟨(bs.take c.at_).drop i, c.off, c.cnt⟩ :: pcs bs (c.at_ + c.cnt) l
/-- where the last literals begin -/
def restOf : Nat → List Cp → Nat
  | i, [] => i
  | _, c :: l => restOf (c.at_ + c.cnt) l
theorem packed_enc (bs : List Nat) : ∀ (l : List Cp) (i : Nat), packed bs i l = enc (pcs bs i l) ++ lits (bs.drop (restOf i l)) 0
  | [], i => by simp [packed, pcs, enc, restOf]
  | c :: l, i => by
    rw [packed, packed_enc bs l, pcs, enc, restOf]
    simp [enc1]
theorem restOf_le (bs : List Nat) : ∀ (l : List Cp) (i : Nat), i ≤ bs.length → tru bs i l → i ≤ restOf i l ∧ restOf i l ≤ bs.length
  | [], i, h, _ => ⟨Nat.le_refl _, h⟩
  | c :: l, i, h, ⟨h1, h2, h3⟩ => by
    obtain ⟨t1, t2, t3, t4, t5, t6, t7⟩ := h2
    have := restOf_le bs l (c.at_ + c.cnt) (by omega) h3
    rw [restOf]
    omega
theorem lit_len (bs : List Nat) (i a : Nat) (h : i ≤ a) (ha : a ≤ bs.length) : ((bs.take a).drop i).length = a - i := by simp; omega
theorem okP_pcs (bs : List Nat) : ∀ (l : List Cp) (i : Nat), tru bs i l → okP i (pcs bs i l)
  | [], i, _ => trivial
  | c :: l, i, ⟨h1, h2, h3⟩ => by
    obtain ⟨t1, t2, t3, t4, t5, t6, t7⟩ := h2
    have hl := lit_len bs i c.at_ h1 (by omega)
    rw [pcs, okP]
    refine ⟨t1, t2, t3, ?_, ?_⟩
    · simp only [hl]; omega
    · simp only [hl]
      rw [show i + (c.at_ - i) + c.cnt = c.at_ + c.cnt by omega]
      exact okP_pcs bs l _ h3
theorem grow_true (bs : List Nat) (a off : Nat) (h1 : 1 ≤ off) (ho : off ≤ a) : ∀ (k : Nat), a + k ≤ bs.length → (∀ j, j < k → bs.getD (a + j) 0 = bs.getD (a + j - off) 0) → grow off k (bs.take a) = bs.take (a + k)
  | 0, _, _ => rfl
  | k + 1, h, ht => by
    rw [grow_add off k 1, grow_true bs a off h1 ho k (by omega) (fun j hj => ht j (by omega)), grow, grow]
    have hlen : (bs.take (a + k)).length = a + k := by simp; omega
    rw [hlen]
    have e1 : (bs.take (a + k)).getD (a + k - off) 0 = bs.getD (a + k - off) 0 := by
      simp only [List.getD_eq_getElem?_getD, List.getElem?_take]
      rw [if_pos (by omega)]
    rw [e1, ← ht k (by omega), ← Nat.add_assoc, List.take_add_one]
    congr 1
    rw [List.getD_eq_getElem?_getD, List.getElem?_eq_getElem (by omega)]
    rfl
theorem sayP_pcs (bs : List Nat) : ∀ (l : List Cp) (i : Nat), i ≤ bs.length → tru bs i l → sayP (bs.take i) (pcs bs i l) = bs.take (restOf i l)
  | [], i, _, _ => rfl
  | c :: l, i, hi, ⟨h1, h2, h3⟩ => by
    obtain ⟨t1, t2, t3, t4, t5, t6, t7⟩ := h2
    have e : bs.take i ++ (bs.take c.at_).drop i = bs.take c.at_ := by
      conv => rhs; rw [← List.take_append_drop i (bs.take c.at_)]
      rw [List.take_take, Nat.min_eq_left h1]
    rw [pcs, sayP, e, grow_true bs c.at_ c.off t2 t4 c.cnt (by omega) t7, sayP_pcs bs l _ (by omega) h3, restOf]
/-- what a packing by true copies says -/
theorem says_pcs (bs : List Nat) (l : List Cp) (h : tru bs 0 l) : sayP [] (pcs bs 0 l) ++ bs.drop (restOf 0 l) = bs := by
  have := sayP_pcs bs l 0 (Nat.zero_le _) h
  rw [List.take_zero] at this
  rw [this, List.take_append_drop]
theorem tot_pcs (bs : List Nat) : ∀ (l : List Cp) (i : Nat), i ≤ bs.length → tru bs i l → i + tot (pcs bs i l) = restOf i l
  | [], i, _, _ => rfl
  | c :: l, i, hi, ⟨h1, h2, h3⟩ => by
    obtain ⟨t1, t2, t3, t4, t5, t6, t7⟩ := h2
    have := tot_pcs bs l (c.at_ + c.cnt) (by omega) h3
    have hl := lit_len bs i c.at_ h1 (by omega)
    rw [pcs, tot, restOf, ← this]
    simp only [hl]
    omega
theorem common_get : ∀ (l m : List Nat) (k : Nat), k < common l m → l.getD k 0 = m.getD k 0
  | a :: l, b :: m, k, h => by
    unfold common at h
    split at h
    · rename_i e
      subst e
      cases k with
      | zero => rfl
      | succ k => simpa using common_get l m k (by omega)
    · omega
  | [], _, k, h => by simp [common] at h
  | _ :: _, [], k, h => by simp [common] at h
theorem agree_get (bs : List Nat) (c p k : Nat) (h : k < agree bs c p) : bs.getD (p + k) 0 = bs.getD (c + k) 0 := by
  have hk : k < bs.length - 5 - p := Nat.lt_of_lt_of_le h (agree_le bs c p)
  unfold agree at h
  have := common_get _ _ _ h
  simp only [List.getD_eq_getElem?_getD, List.getElem?_drop, List.getElem?_take] at this ⊢
  rw [if_pos (by omega)] at this
  exact this
def TruL (bs : List Nat) (p : Nat) (b : Nat × Nat) : Prop := b.2 = 0 ∨ (b.1 ≤ p ∧ ∀ k, k < b.2 → bs.getD (p + k) 0 = bs.getD (p + k - b.1) 0)
theorem longF_true (bs : List Nat) (p : Nat) : ∀ (t : Nat) (c : Int) (b : Nat × Nat), (0 ≤ c → four bs c.toNat = four bs p ∧ c.toNat < p) → TruL bs p b → TruL bs p (longF bs p t c b)
  | 0, c, b, _, hb => hb
  | t + 1, c, b, hc, hb => by
    rw [longF]
    split
    · rename_i h
      obtain ⟨hf, hlt⟩ := hc h.1
      refine longF_true bs p t _ _ ?_ ?_
      · intro h0
        have := nearOf_four bs c.toNat h0
        exact ⟨this.1.trans hf, by omega⟩
      · split
        · refine .inr ⟨by simp, fun k hk => ?_⟩
          have := agree_get bs c.toNat p k hk
          rw [this]
          simp only
          rw [show p + k - (p - c.toNat) = c.toNat + k by omega]
        · exact hb
    · exact hb
theorem long_true (bs : List Nat) (tries p : Nat) : TruL bs p (long bs tries p) := longF_true bs p tries _ _ (fun h => nearOf_four bs p h) (.inl rfl)
theorem greedyF_true (bs : List Nat) (hb : ∀ z ∈ bs, z < 256) (tries : Nat) : ∀ (f p : Nat), tru bs p (greedyF bs tries f p)
  | 0, p => trivial
  | f + 1, p => by
    rw [greedyF]
    split
    · trivial
    · rename_i hp
      split
      · have := greedyF_true bs hb tries f (p + 1)
        cases hg : greedyF bs tries f (p + 1) with
        | nil => trivial
        | cons c l =>
          rw [hg] at this
          obtain ⟨h1, h2, h3⟩ := this
          exact ⟨by omega, h2, h3⟩
      · rename_i h0
        have hgd := long_good bs hb tries p (by omega)
        have htr := long_true bs tries p
        refine ⟨Nat.le_refl _, ?_, greedyF_true bs hb tries f _⟩
        rcases hgd with ⟨h1, _⟩ | ⟨g1, g2, g3, g4, g5⟩
        · exact absurd h1 h0
        · rcases htr with h1 | ⟨_, h2⟩
          · exact absurd h1 h0
          · exact ⟨g1, g3, g4, g5, by show p + 12 ≤ bs.length; omega, by show p + (long bs tries p).2 + 5 ≤ bs.length; omega, h2⟩
theorem greedy_true (bs : List Nat) (hb : ∀ z ∈ bs, z < 256) (tries : Nat) : tru bs 0 (greedy bs tries) := greedyF_true bs hb tries _ 0
end Lz
