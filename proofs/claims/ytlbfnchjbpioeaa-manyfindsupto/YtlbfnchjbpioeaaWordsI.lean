/-
  Plain facts on texts made small. No Go in sight.
-/
import Derived.Test.YtlbfnchjbpioeaaWordsF
namespace Swar
/-- The texts are one but for capitals. -/
abbrev SameP (a b : ByteArray) : Prop := a.size = b.size ∧ ∀ i, i < a.size → small (bt a i) = small (bt b i)
def sameL (a b : ByteArray) : Bool := decide (SameP a b)
theorem byt_ext : ∀ n x y : Nat, x < 256 ^ n → y < 256 ^ n → (∀ j, j < n → byt x j = byt y j) → x = y := by
  intro n
  induction n with
  | zero => intro x y hx hy _; simp at hx hy; omega
  | succ n ih =>
    intro x y hx hy h
    have h0 := h 0 (by omega)
    have e : x / 256 = y / 256 := by
      refine ih _ _ ?_ ?_ (fun j hj => ?_)
      · rw [Nat.pow_succ] at hx; omega
      · rw [Nat.pow_succ] at hy; omega
      · have := h (j + 1) (by omega)
        unfold byt at this ⊢
        rw [Nat.pow_succ, Nat.mul_comm, ← Nat.div_div_eq_div_mul, ← Nat.div_div_eq_div_mul] at this
        exact this
    unfold byt at h0
    simp at h0
    omega
theorem byt_at (s : ByteArray) (p i : Nat) (hi : i < 8) : byt (ldL s p) i = bt s (p + i) := by
  rw [byt_ldL s p i hi, show ((p : Int) + (i : Int)) = ((p + i : Nat) : Int) by omega, cell_nat]
/-- Words of eight bytes made small are one just if the bytes are. -/
theorem low_word (a b : ByteArray) (p : Nat) : lowerL (ldL a p) = lowerL (ldL b p) ↔ ∀ i, i < 8 → small (bt a (p + i)) = small (bt b (p + i)) := by
  constructor
  · intro h i hi
    have := congrArg (fun v => byt v i) h
    simp only [byt_lower _ i hi, byt_at _ p i hi] at this
    exact this
  · intro h
    refine byt_ext 8 _ _ (lowerL_lt _) (lowerL_lt _) (fun j hj => ?_)
    rw [byt_lower _ j hj, byt_lower _ j hj, byt_at _ p j hj, byt_at _ p j hj]
    exact h j hj
theorem same_size (a b : ByteArray) (h : a.size ≠ b.size) : sameL a b = false := by
  unfold sameL; exact decide_eq_false (fun hs => h hs.1)
/-- one round: the words differ -/
theorem same_off (a b : ByteArray) (p : Nat) (hn : a.size = b.size) (hw : lowerL (ldL a p) ≠ lowerL (ldL b p)) : sameL a b = false := by
  unfold sameL
  refine decide_eq_false (fun hs => hw ((low_word a b p).2 fun i _ => ?_))
  by_cases h : p + i < a.size
  · exact hs.2 _ h
  · rw [bt_out (by omega), bt_out (by omega)]
def SameTo (a b : ByteArray) (p : Nat) : Prop := ∀ i, i < p → small (bt a i) = small (bt b i)
theorem same_on (a b : ByteArray) (p : Nat) (h : SameTo a b p) (hw : lowerL (ldL a p) = lowerL (ldL b p)) : SameTo a b (p + 8) := by
  intro i hi
  by_cases h1 : i < p
  · exact h i h1
  · have := (low_word a b p).1 hw (i - p) (by omega)
    rwa [show p + (i - p) = i by omega] at this
theorem same_end (a b : ByteArray) (p : Nat) (hn : a.size = b.size) (h : SameTo a b p) (hp : a.size ≤ p) : sameL a b = true := by
  unfold sameL
  exact decide_eq_true ⟨hn, fun i hi => h i (by omega)⟩
/-- The text made small. -/
def foldL (s : ByteArray) : ByteArray := ⟨s.data.map fun b => UInt8.ofNat (small b.toNat)⟩
theorem fold_size (s : ByteArray) : (foldL s).size = s.size := by
  show (s.data.map _).size = s.data.size
  simp
theorem bt_fold (s : ByteArray) (i : Nat) : bt (foldL s) i = small (bt s i) := by
  by_cases h : i < s.size
  · have h' : i < (foldL s).size := by rw [fold_size]; exact h
    rw [bt_in h, bt_in h']
    have hlt := small_lt s[i].toNat (by have := s[i].toNat_lt; omega)
    have e : (foldL s)[i] = UInt8.ofNat (small s[i].toNat) := by
      have hd : i < (s.data.map fun b => UInt8.ofNat (small b.toNat)).size := by simpa using h
      show (s.data.map fun b => UInt8.ofNat (small b.toNat))[i]'hd = UInt8.ofNat (small (s.data[i]'(by simpa using h)).toNat)
      exact Array.getElem_map ..
    rw [e]
    exact UInt8.toNat_ofNat_of_lt hlt
  · rw [bt_out (by rw [fold_size]; omega), bt_out (by omega)]; rfl
theorem fold_same (a b : ByteArray) : foldL a = foldL b ↔ SameP a b := by
  constructor
  · intro h
    refine ⟨by rw [← fold_size a, h, fold_size], fun i _ => ?_⟩
    rw [← bt_fold, h, bt_fold]
  · intro h
    refine ext_bt _ _ (by rw [fold_size, fold_size, h.1]) (fun i hi => ?_)
    rw [bt_fold, bt_fold]
    exact h.2 i (by rwa [fold_size] at hi)
theorem same_eq (a b : ByteArray) : sameL a b = decide (foldL a = foldL b) := by
  unfold sameL; exact decide_eq_decide.2 (fold_same a b).symm
end Swar
