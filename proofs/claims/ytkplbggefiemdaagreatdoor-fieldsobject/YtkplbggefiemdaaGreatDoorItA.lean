/-
  Numbers' digits: strconv.Itoa of what is not below 0; the table that it reads. Conditions: as each says.
-/
import Derived.Test.YtkplbggefiemdaaGreatDoorFlM
namespace Go.Proofs.YtkplbggefiemdaaGreatDoor
open Go.RowKit
set_option linter.unusedVariables false
/-- a number's digits -/
def dec (n : Nat) : List Nat := (Lib.decDigits n).map UInt8.toNat
theorem below_grow (w : World) (k : Nat) (os : Array Obj) : Below w.heap.size w (Sort.grow (w.drewN k) os) := by
  refine ⟨rfl, rfl, rfl, ?_, fun i hi => ?_⟩
  · show w.heap.size ≤ (w.heap ++ os).size
    simp
  · show (w.heap ++ os)[i]? = w.heap[i]?
    exact Array.getElem?_append_left hi
def Pow (w : World) : Prop := Lib.TabIs Tryz.prog w "internal/strconv.uint64pow10" .u64 Lib.pow10Tab
theorem glPow : Tryz.prog.globalNamed "internal/strconv.uint64pow10" = some 5 := by kernel_rfl
theorem Pow.same {w w' : World} (h : Pow w) (hb : w'.heap[5]? = w.heap[5]?) : Pow w' := by
  unfold Pow Lib.TabIs World.var? at h ⊢
  rw [glPow] at h ⊢
  simp only [Option.bind_some] at h ⊢
  rw [hb]
  exact h
theorem Pow.below {B : Nat} {w w' : World} (h : Pow w) (hb : Below B w w') (hB : 5 < B) : Pow w' := h.same (hb.block 5 hB)
theorem Pow.size {w : World} (h : Pow w) : 5 < w.heap.size := by
  unfold Pow Lib.TabIs World.var? at h
  rw [glPow] at h
  simp only [Option.bind_some] at h
  rcases Nat.lt_or_ge 5 w.heap.size with h' | h'
  · exact h'
  · rw [Array.getElem?_eq_none h'] at h; cases h
theorem itoa_any (n : Nat) (w : World) (hn : n ≤ 9223372036854775807) (ht : Pow w) : Calls Tryz.prog 46 #[.int .i64 (n : Int)] w fun e w' => (∃ t, Sums.bl t = dec n ∧ e = .returned (.string t)) ∧ Below w.heap.size w w' := by
  have := Any.strconv_Itoa YtkplbggefiemdaaGreatDoor.lays171 (n : Int) (by omega) (by omega) w ht
  refine Calls.mono this ?_
  rintro e w' ⟨rfl, k, os, rfl⟩
  refine ⟨⟨_, ?_, rfl⟩, below_grow w k os⟩
  unfold dec Lib.itoa
  rw [if_neg (by omega), Int.toNat_natCast]
  rfl
theorem decD_short : ∀ (f u k : Nat), u < f → u < 10 ^ (k + 1) → (Lib.decDigits u).length ≤ k + 1
  | 0, u, k, h, _ => by omega
  | f + 1, u, k, h, h2 => by
    rw [Lib.decDigits]
    split
    · simp
    · cases k with
      | zero => simp at h2; omega
      | succ k =>
        have := decD_short f (u / 10) k (by omega) (by rw [Nat.pow_succ] at h2; omega)
        rw [List.length_append]
        simp only [List.length_cons, List.length_nil]
        omega
theorem dec_short (u : Nat) (h : u ≤ 999999999999999) : (dec u).length ≤ 15 := by
  unfold dec; rw [List.length_map]
  exact decD_short (u + 1) u 14 (Nat.lt_succ_self _) (by have : (10 : Nat) ^ 15 = 1000000000000000 := (by decide); omega)
theorem dec_byt (n : Nat) : ∀ z ∈ dec n, z < 256 := by
  intro z hz
  obtain ⟨x, _, rfl⟩ := List.mem_map.1 hz
  exact UInt8.toNat_lt x
theorem u8n (z : Nat) (h : z < 256) : (UInt8.ofNat z).toNat = z := UInt8.toNat_ofNat_of_lt h
theorem dec_small (u : Nat) (h : u < 10) : dec u = [48 + u] := by
  unfold dec
  rw [Lib.decDigits, dif_pos h, List.map_cons, List.map_nil, u8n _ (show 48 + u < 256 by omega)]
theorem dec_step (u : Nat) (h : ¬ u < 10) : dec u = dec (u / 10) ++ [48 + u % 10] := by
  unfold dec
  rw [Lib.decDigits, dif_neg h, List.map_append, List.map_cons, List.map_nil, u8n _ (show 48 + u % 10 < 256 by omega)]
theorem dec_dig : ∀ (f u : Nat), u < f → ∀ z ∈ dec u, 48 ≤ z ∧ z ≤ 57
  | 0, u, h => by omega
  | f + 1, u, h => by
    intro z hz
    by_cases c : u < 10
    · rw [dec_small u c] at hz
      have : z = 48 + u := by simpa using hz
      omega
    · rw [dec_step u c] at hz
      rcases List.mem_append.1 hz with k | k
      · exact dec_dig f (u / 10) (by omega) z k
      · have : z = 48 + u % 10 := by simpa using k
        omega
theorem dec_head : ∀ (f u : Nat), u < f → 1 ≤ u → ∃ x r, dec u = x :: r ∧ 49 ≤ x ∧ x ≤ 57
  | 0, u, h, _ => by omega
  | f + 1, u, h, h1 => by
    by_cases c : u < 10
    · exact ⟨48 + u, [], dec_small u c, by omega, by omega⟩
    · obtain ⟨x, r, h2, h3, h4⟩ := dec_head f (u / 10) (by omega) (by omega)
      exact ⟨x, r ++ [48 + u % 10], by rw [dec_step u c, h2]; rfl, h3, h4⟩
end Go.Proofs.YtkplbggefiemdaaGreatDoor
