/-
  Plain facts on comparing texts: the first byte in which they differ decides. No Go in sight.
-/
import Derived.Test.YtlbfnchjbpioeaaWordsE
namespace Swar
/-- -1, 0 or 1: who comes ahead -/
def cmpL (a b : ByteArray) : Int :=
  if comL a b = a.size ∧ comL a b = b.size then 0
  else if comL a b = a.size then -1
  else if comL a b = b.size then 1
  else if bt a (comL a b) < bt b (comL a b) then -1 else 1
theorem com_spec (a b : ByteArray) : comL a b ≤ a.size ∧ comL a b ≤ b.size ∧ (∀ i, i < comL a b → bt a i = bt b i) ∧ (comL a b < a.size → comL a b < b.size → bt a (comL a b) ≠ bt b (comL a b)) := by
  have h := far_spec (fun p => bt a p == bt b p) (min a.size b.size) 0
  have hl := com_le a b
  refine ⟨hl.1, hl.2, fun i hi => ?_, fun h1 h2 => ?_⟩
  · simpa using h.2.2.1 i (by omega) hi
  · have := h.2.2.2 (show _ < 0 + min a.size b.size by unfold comL at h1 h2; omega)
    simpa [comL] using this
theorem com_of (a b : ByteArray) (n : Nat) (h1 : n ≤ a.size) (h2 : n ≤ b.size) (h3 : ∀ i, i < n → bt a i = bt b i) (h4 : n < a.size → n < b.size → bt a n ≠ bt b n) : comL a b = n := by
  have s := com_spec a b
  rcases Nat.lt_trichotomy (comL a b) n with h | h | h
  · exfalso; exact s.2.2.2 (by omega) (by omega) (h3 _ h)
  · exact h
  · exfalso; exact h4 (by omega) (by omega) (s.2.2.1 _ h)
theorem com_swap (a b : ByteArray) : comL b a = comL a b := by
  have s := com_spec a b
  exact com_of b a _ s.2.1 s.1 (fun i hi => (s.2.2.1 i hi).symm) (fun h1 h2 h => s.2.2.2 h2 h1 h.symm)
theorem cmp_swap (a b : ByteArray) : cmpL b a = - cmpL a b := by
  have s := com_spec a b
  unfold cmpL
  rw [com_swap a b]
  generalize comL a b = n at *
  by_cases h1 : n = a.size <;> by_cases h2 : n = b.size
  · rw [if_pos ⟨h2, h1⟩, if_pos ⟨h1, h2⟩]; rfl
  · rw [if_neg (fun h => h2 h.1), if_neg h2, if_pos h1, if_neg (fun h => h2 h.2), if_pos h1]; rfl
  · rw [if_neg (fun h => h1 h.2), if_pos h2, if_neg (fun h => h1 h.1), if_neg h1, if_pos h2]
  · have hne := s.2.2.2 (by omega) (by omega)
    simp only [h1, h2, false_and, if_false]
    by_cases h3 : bt a n < bt b n
    · have h4 : ¬ bt b n < bt a n := by omega
      simp [h3, h4]
    · have h4 : bt b n < bt a n := by omega
      simp [h3, h4]
theorem cmp_bounds (a b : ByteArray) : cmpL a b = -1 ∨ cmpL a b = 0 ∨ cmpL a b = 1 := by
  unfold cmpL
  split
  · exact .inr (.inl rfl)
  · split
    · exact .inl rfl
    · split
      · exact .inr (.inr rfl)
      · split
        · exact .inl rfl
        · exact .inr (.inr rfl)
theorem bt_app (s t : ByteArray) (i : Nat) : bt (s ++ t) i = if i < s.size then bt s i else bt t (i - s.size) := by
  split
  · rename_i h
    rw [bt_in (i := i) (by simp; omega), bt_in h, ByteArray.getElem_append_left h]
  · rename_i h
    by_cases h2 : i - s.size < t.size
    · rw [bt_in (i := i) (by simp; omega), bt_in h2, ByteArray.getElem_append_right (by omega)]
    · rw [bt_out (by simp; omega), bt_out (by omega)]
theorem com_app (c a b : ByteArray) : comL (c ++ a) (c ++ b) = c.size + comL a b := by
  have s := com_spec a b
  refine com_of _ _ _ (by simp; omega) (by simp; omega) (fun i hi => ?_) (fun h1 h2 => ?_)
  · rw [bt_app, bt_app]
    split
    · rfl
    · exact s.2.2.1 _ (by omega)
  · simp at h1 h2
    rw [bt_app, bt_app, if_neg (by omega), if_neg (by omega), Nat.add_sub_cancel_left]
    exact s.2.2.2 (by omega) (by omega)
theorem cmp_app (c a b : ByteArray) : cmpL (c ++ a) (c ++ b) = cmpL a b := by
  unfold cmpL
  rw [com_app]
  have e1 : (c ++ a).size = c.size + a.size := by simp
  have e2 : (c ++ b).size = c.size + b.size := by simp
  have e3 : bt (c ++ a) (c.size + comL a b) = bt a (comL a b) := by rw [bt_app, if_neg (by omega), Nat.add_sub_cancel_left]
  have e4 : bt (c ++ b) (c.size + comL a b) = bt b (comL a b) := by rw [bt_app, if_neg (by omega), Nat.add_sub_cancel_left]
  rw [e1, e2, e3, e4]
  simp only [Nat.add_left_cancel_iff]
theorem com_more (a t : ByteArray) : comL a (a ++ t) = a.size := by
  refine com_of _ _ _ (Nat.le_refl _) (by simp) (fun i hi => ?_) (fun h => by omega)
  rw [bt_app, if_pos hi]
theorem cmp_more (a t : ByteArray) (ht : 0 < t.size) : cmpL a (a ++ t) = -1 := by
  unfold cmpL
  rw [com_more]
  have e : (a ++ t).size = a.size + t.size := by simp
  rw [e, if_neg (by omega), if_pos rfl]
theorem ext_bt (a b : ByteArray) (h : a.size = b.size) (hb : ∀ i, i < a.size → bt a i = bt b i) : a = b := by
  apply ByteArray.ext
  apply Array.ext
  · simpa using h
  · intro i h1 h2
    have h1' : i < a.size := by simpa using h1
    have h2' : i < b.size := by simpa using h2
    have := hb i h1'
    rw [bt_in h1', bt_in h2'] at this
    exact UInt8.toNat_inj.1 this
theorem take_eq (a b : ByteArray) (n : Nat) (h1 : n ≤ a.size) (h2 : n ≤ b.size) (h : ∀ i, i < n → bt a i = bt b i) : a.extract 0 n = b.extract 0 n := by
  refine ext_bt _ _ (by simp; omega) (fun i hi => ?_)
  have hi' : i < n := by simp at hi; omega
  have e : ∀ (s : ByteArray), n ≤ s.size → bt (s.extract 0 n) i = bt s i := fun s hs => by
    have h1 : i < (s.extract 0 n).size := by simp; omega
    rw [bt_in h1, bt_in (show i < s.size by omega), ByteArray.getElem_extract]
    simp
  rw [e a h1, e b h2]
  exact h i hi'
end Swar
