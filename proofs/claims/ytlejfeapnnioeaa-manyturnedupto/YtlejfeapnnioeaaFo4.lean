/-
  Where a word stands alone; the laws' sameInts. Conditions: as each says.
-/
import Derived.Test.YtlejfeapnnioeaaFo2
namespace Mn
theorem sorted_one : ∀ (l m : List Nat), l.Pairwise (· < ·) → m.Pairwise (· < ·) → (∀ x, x ∈ l ↔ x ∈ m) → l = m
  | [], [], _, _, _ => rfl
  | [], b :: m, _, _, h => absurd ((h b).2 (by simp)) (by simp)
  | a :: l, [], _, _, h => absurd ((h a).1 (by simp)) (by simp)
  | a :: l, b :: m, hl, hm, h => by
    rw [List.pairwise_cons] at hl hm
    have hab : a = b := by
      have h1 := (h a).1 (by simp)
      have h2 := (h b).2 (by simp)
      rw [List.mem_cons] at h1 h2
      rcases h1 with h1 | h1
      · exact h1
      · rcases h2 with h2 | h2
        · exact h2.symm
        · have := hm.1 a h1
          have := hl.1 b h2
          omega
    subst hab
    rw [sorted_one l m hl.2 hm.2 fun x => ?_]
    constructor
    · intro hx
      have h1 := (h x).1 (by simp [hx])
      rw [List.mem_cons] at h1
      rcases h1 with rfl | h1
      · have := hl.1 x hx
        omega
      · exact h1
    · intro hx
      have h1 := (h x).2 (by simp [hx])
      rw [List.mem_cons] at h1
      rcases h1 with rfl | h1
      · have := hm.1 x hx
        omega
      · exact h1
/-- the places behind a word, looked for alone, as far as a place -/
def alL (x s : ByteArray) (k : Nat) : List Nat := ((List.range k).filter fun a => decide (s.extract a (a + x.size) = x)).map (· + x.size)
theorem alL_next (x s : ByteArray) (k : Nat) : alL x s (k + 1) = if s.extract k (k + x.size) = x then alL x s k ++ [k + x.size] else alL x s k := by
  unfold alL
  rw [List.range_succ, List.filter_append, List.map_append]
  by_cases h : s.extract k (k + x.size) = x
  · rw [if_pos h]
    simp [h]
  · rw [if_neg h]
    simp [h]
theorem alL_skip (x s : ByteArray) (k : Nat) : ∀ d, (∀ i, i < d → s.extract (k + i) (k + i + x.size) ≠ x) → alL x s (k + d) = alL x s k
  | 0, _ => rfl
  | d + 1, h => by
    rw [← Nat.add_assoc, alL_next, if_neg (h d (by omega)), alL_skip x s k d fun i hi => h i (by omega)]
theorem alL_len (x s : ByteArray) (k : Nat) : (alL x s k).length ≤ k := by
  unfold alL
  rw [List.length_map]
  have := List.length_filter_le (fun a => decide (s.extract a (a + x.size) = x)) (List.range k)
  rw [List.length_range] at this
  exact this
theorem ext_fits {x s : ByteArray} {a : Nat} (h1 : 1 ≤ x.size) (h : s.extract a (a + x.size) = x) : a + x.size ≤ s.size := by
  have := congrArg ByteArray.size h
  rw [ByteArray.size_extract] at this
  omega
theorem plc_alone (x s : ByteArray) (h1 : 1 ≤ x.size) : plcK (Sums.bl x) (Sums.bl s) s.size = alL x s s.size := by
  apply sorted_one
  · unfold plcK
    rw [List.pairwise_map]
    refine ((List.pairwise_lt_range).filter _).imp ?_
    intro a b h
    omega
  · unfold alL
    rw [List.pairwise_map]
    refine ((List.pairwise_lt_range).filter _).imp ?_
    intro a b h
    omega
  · intro p
    unfold plcK alL
    simp only [List.mem_map, List.mem_filter, List.mem_range, decide_eq_true_eq]
    constructor
    · rintro ⟨j, ⟨hj, t, ht⟩, rfl⟩
      have hl := congrArg List.length ht
      rw [List.length_append, List.length_take, Sums.bl_length, Sums.bl_length] at hl
      refine ⟨t.length, ⟨by omega, Sums.bl_inj ?_⟩, by omega⟩
      rw [Sums.bl_extract, show t.length + x.size = j + 1 by omega, ← ht, List.drop_left]
    · rintro ⟨a, ⟨ha, he⟩, rfl⟩
      have hf := ext_fits h1 he
      refine ⟨a + x.size - 1, ⟨by omega, ?_⟩, by omega⟩
      have hb := congrArg Sums.bl he
      rw [Sums.bl_extract] at hb
      rw [show a + x.size - 1 + 1 = a + x.size by omega, ← hb]
      exact List.drop_suffix _ _
end Mn
namespace Go.Proofs.Ytlejfeapnnioeaa
open Go.RowKit Go.Shelf
set_option linter.unusedVariables false
set_option maxHeartbeats 1000000 in
theorem same_emp (p1 p2 : Option Addr) (c1 c2 : Nat) (w : World) : Calls Try.prog 22 #[.slice p1 0 c1, .slice p2 0 c2] w fun e w' => e = .returned (.bool true) ∧ ∃ n, w' = w.drewN n := by
  go_enter Try.func22, Try.ntmps22
  go_wp2_with fail
  refine wp_loop_rounds 1 ?_
  rw [rounds_succ]
  go_wp2_with fail
  go_ret
  exact ⟨rfl, 0, rfl⟩
set_option maxHeartbeats 1000000 in
theorem same_cel (g1 g2 c1 c2 n : Nat) (f : Nat → Nat) (w : World) (hn : n ≤ 1125899906842624) (h1 : ∀ i, i < n → w.cell? ⟨g1, i, none⟩ = some (.int .i64 (f i : Int))) (h2 : ∀ i, i < n → w.cell? ⟨g2, i, none⟩ = some (.int .i64 (f i : Int))) :
    Calls Try.prog 22 #[.slice (some ⟨g1, 0, none⟩) n c1, .slice (some ⟨g2, 0, none⟩) n c2] w fun e w' => e = .returned (.bool true) ∧ ∃ n, w' = w.drewN n := by
  have H1 := Hid.mk' h1
  have H2 := Hid.mk' h2
  clear h1 h2
  have hne : ((n : Int) != (n : Int)) = false := by simp
  go_enter Try.func22, Try.ntmps22
  go_wp2_with fail
  go_loopw [5] (fun i wr => ∃ k : Nat, k ≤ n ∧ i = .int .i64 (k : Int) ∧ Hid (∃ n, wr = w.drewN n)) (fun i _ => n - (intOf i).toNat)
  case atStart => exact ⟨0, by omega, rfl, 0, rfl⟩
  case round =>
    obtain ⟨k, hk, rfl, HW⟩ := hrel
    by_cases hlt : k < n
    · have hlI : (k : Int) < (n : Int) := by omega
      have k1 : wr.cell? ⟨g1, k, none⟩ = some (.int .i64 (f k : Int)) := by obtain ⟨n, rfl⟩ := HW.out; exact H1.out k hlt
      have k2 : wr.cell? ⟨g2, k, none⟩ = some (.int .i64 (f k : Int)) := by obtain ⟨n, rfl⟩ := HW.out; exact H2.out k hlt
      generalize f k = x at *
      have hne2 : ((x : Int) != (x : Int)) = false := by simp
      go_wp2_with fail
      go_quiet (fail)
      have HW3 : Hid (∃ n, wr.drewN nq = w.drewN n) := by obtain ⟨n, rfl⟩ := HW.out; exact ⟨n + nq, World.drewN_drewN _ _ _⟩
      generalize wr.drewN nq = W3 at *
      go_wp2_with fail
      go_roundw
      case rel => exact ⟨k + 1, by omega, by simp, HW3.out⟩
      case measure => simp [intOf]; omega
    · have hlI : ¬ (k : Int) < (n : Int) := by omega
      go_wp2_with fail
      go_ret
      exact ⟨rfl, HW.out⟩
theorem own_ints {w : World} {b : Nat} {v : Value} {l : List Nat} (h : w.ownsRow b 3 1 v l.length (intL l)) : (v = .slice none 0 0 ∧ l = []) ∨ ∃ g c, v = .slice (some ⟨g, 0, none⟩) l.length c ∧ b ≤ g ∧ g < w.heap.size ∧ ∀ i, i < l.length → w.cell? ⟨g, i, none⟩ = some (.int .i64 (l.getD i 0 : Int)) := by
  rcases h.2 with ⟨rfl, h0⟩ | ⟨g, cap, cur, rfl, hb, hg, _⟩
  · exact .inl ⟨rfl, List.length_eq_zero_iff.1 h0⟩
  · refine .inr ⟨g, cap, rfl, hb, (Array.getElem?_eq_some_iff.1 hg).1, fun i hi => ?_⟩
    have c := h.cells (g := g) rfl i (.int .i64 (l.getD i 0 : Int)) (by
      unfold intL
      rw [List.getElem?_map, List.getElem?_eq_getElem hi, List.getD_eq_getElem?_getD, List.getElem?_eq_getElem hi]
      rfl)
    rw [Addr.add_lit, Nat.zero_add] at c
    exact c
/-- two rows of one list; a row that is nil is one only if the list is empty -/
theorem sameInts_any (b1 b2 : Nat) (v1 v2 : Value) (l : List Nat) (w : World) (hl : l.length ≤ 1125899906842624) (h1 : w.ownsRow b1 3 1 v1 l.length (intL l)) (h2 : w.ownsRow b2 3 1 v2 l.length (intL l)) :
    Calls Try.prog 22 #[v1, v2] w fun e w' => e = .returned (.bool true) ∧ ∃ n, w' = w.drewN n := by
  by_cases h0 : l = []
  · subst h0
    obtain ⟨p1, c1, rfl⟩ := mr_shape h1
    obtain ⟨p2, c2, rfl⟩ := mr_shape h2
    exact same_emp p1 p2 c1 c2 w
  · rcases own_ints h1 with ⟨_, e⟩ | ⟨g1, c1, rfl, _, _, k1⟩
    · exact absurd e h0
    · rcases own_ints h2 with ⟨_, e⟩ | ⟨g2, c2, rfl, _, _, k2⟩
      · exact absurd e h0
      · exact same_cel g1 g2 c1 c2 l.length (fun i => l.getD i 0) w hl k1 k2
end Go.Proofs.Ytlejfeapnnioeaa
