/-
  Plain facts on bytes as 64 characters, there and back: no Go in sight. No conditions but those that each fact names.
-/
import Derived.Test.YthmaaeibdcoemabCodeB
namespace Code
/-- the numbers of the characters of bytes -/
def armN : List Nat → List Nat
  | [] => []
  | [a] => [a / 4, a % 4 * 16]
  | [a, b] => [a / 4, a % 4 * 16 + b / 16, b % 16 * 4]
  | a :: b :: c :: l => a / 4 :: (a % 4 * 16 + b / 16) :: (b % 16 * 4 + c / 64) :: c % 64 :: armN l
theorem arm_eq : ∀ l, arm 0 0 l = (armN l).map ch
  | [] => rfl
  | [a] => rfl
  | [a, b] => rfl
  | a :: b :: c :: l => by
      have h := arm_eq l
      simp only [arm, armN, List.map_cons, h]
theorem armN_lt : ∀ l, (∀ z ∈ l, z < 256) → ∀ z ∈ armN l, z < 64
  | [], _, z, hz => by simp [armN] at hz
  | [a], h, z, hz => by
      have ha := h a (by simp)
      simp only [armN, List.mem_cons, List.not_mem_nil, or_false] at hz
      omega
  | [a, b], h, z, hz => by
      have ha := h a (by simp)
      have hb := h b (by simp)
      simp only [armN, List.mem_cons, List.not_mem_nil, or_false] at hz
      omega
  | a :: b :: c :: l, h, z, hz => by
      have ha := h a (by simp)
      have hb := h b (by simp)
      have hc := h c (by simp)
      simp only [armN, List.mem_cons] at hz
      rcases hz with hz | hz | hz | hz | hz
      · omega
      · omega
      · omega
      · omega
      · exact armN_lt l (fun z hz => h z (by simp [hz])) z hz
theorem armN_len : ∀ l, (armN l).length = l.length / 3 * 4 + l.length % 3 + (l.length % 3 + 1) / 2
  | [] => by simp [armN]
  | [a] => by simp [armN]
  | [a, b] => by simp [armN]
  | a :: b :: c :: l => by
      have h := armN_len l
      simp only [armN, List.length_cons, h]
      omega
theorem pln_arm : ∀ l, (∀ z ∈ l, z < 256) → pln 0 0 (armN l) = (l, 0)
  | [], _ => rfl
  | [a], h => by
      have ha := h a (by simp)
      simp only [armN, pln, Prod.mk.injEq, List.cons.injEq, and_true]
      omega
  | [a, b], h => by
      have ha := h a (by simp)
      have hb := h b (by simp)
      simp only [armN, pln, Prod.mk.injEq, List.cons.injEq, and_true]
      omega
  | a :: b :: c :: l, h => by
      have ha := h a (by simp)
      have hb := h b (by simp)
      have hc := h c (by simp)
      have ih := pln_arm l (fun z hz => h z (by simp [hz]))
      simp only [armN, pln, ih, Prod.mk.injEq, List.cons.injEq, and_true]
      omega
theorem arm_pln : ∀ L, (∀ z ∈ L, z < 64) → L.length % 4 ≠ 1 → (pln 0 0 L).2 = 0 → armN (pln 0 0 L).1 = L
  | [], _, _, _ => rfl
  | [x], _, h, _ => absurd rfl h
  | [x, y], h, _, h0 => by
      have hx := h x (by simp)
      have hy := h y (by simp)
      simp only [pln] at h0
      simp only [pln, armN, List.cons.injEq, and_true]
      omega
  | [x, y, z], h, _, h0 => by
      have hx := h x (by simp)
      have hy := h y (by simp)
      have hz := h z (by simp)
      simp only [pln] at h0
      simp only [pln, armN, List.cons.injEq, and_true]
      omega
  | x :: y :: z :: u :: L, h, hl, h0 => by
      have hx := h x (by simp)
      have hy := h y (by simp)
      have hz := h z (by simp)
      have hu := h u (by simp)
      simp only [pln] at h0
      have ih := arm_pln L (fun z hz => h z (by simp [hz])) (by simp only [List.length_cons] at hl; omega) h0
      simp only [pln, armN, ih, List.cons.injEq, and_true]
      omega
theorem pln_byt : ∀ L, (∀ z ∈ L, z < 64) → ∀ z ∈ (pln 0 0 L).1, z < 256
  | [], _, z, hz => by simp [pln] at hz
  | [x], _, z, hz => by simp [pln] at hz
  | [x, y], h, z, hz => by
      have hx := h x (by simp)
      have hy := h y (by simp)
      simp only [pln, List.mem_cons, List.not_mem_nil, or_false] at hz
      omega
  | [x, y, w], h, z, hz => by
      have hx := h x (by simp)
      have hy := h y (by simp)
      have hw := h w (by simp)
      simp only [pln, List.mem_cons, List.not_mem_nil, or_false] at hz
      omega
  | x :: y :: w :: u :: L, h, z, hz => by
      have hx := h x (by simp)
      have hy := h y (by simp)
      have hw := h w (by simp)
      have hu := h u (by simp)
      simp only [pln, List.mem_cons] at hz
      rcases hz with hz | hz | hz | hz
      · omega
      · omega
      · omega
      · exact pln_byt L (fun z hz => h z (by simp [hz])) z hz
theorem pln_len : ∀ L, (pln 0 0 L).1.length ≤ L.length
  | [] => by simp [pln]
  | [x] => by simp [pln]
  | [x, y] => by simp [pln]
  | [x, y, w] => by simp [pln]
  | x :: y :: w :: u :: L => by
      have ih := pln_len L
      simp only [pln, List.length_cons]
      omega
theorem plain_len (l : List Nat) : (plain l).1.length ≤ l.length := by
  unfold plain
  split
  · exact Nat.zero_le _
  · split
    · exact Nat.zero_le _
    · split
      · exact Nat.zero_le _
      · have := pln_len (l.map num)
        rw [List.length_map] at this
        exact this
theorem map_num_ch : ∀ L : List Nat, (∀ z ∈ L, z < 64) → (L.map ch).map num = L
  | [], _ => rfl
  | x :: L, h => by
      rw [List.map_cons, List.map_cons, num_ch x (h x (by simp)), map_num_ch L (fun z hz => h z (by simp [hz]))]
theorem map_ch_num : ∀ l : List Nat, (∀ z ∈ l, z < 256) → (∀ z ∈ l, num z < 64) → (l.map num).map ch = l
  | [], _, _ => rfl
  | x :: l, h, h2 => by
      rw [List.map_cons, List.map_cons, ch_num x (h x (by simp)) (h2 x (by simp)), map_ch_num l (fun z hz => h z (by simp [hz])) (fun z hz => h2 z (by simp [hz]))]
theorem plain_arm (l : List Nat) (h : ∀ z ∈ l, z < 256) : plain (arm 0 0 l) = (l, 0, 0) := by
  have h1 := armN_lt l h
  have e : (arm 0 0 l).map num = armN l := by rw [arm_eq, map_num_ch _ h1]
  have hb : ¬ ((arm 0 0 l).findIdx fun c => decide (64 ≤ num c)) < (arm 0 0 l).length := by
    intro hlt
    have hp := List.findIdx_getElem (w := hlt)
    have hm := List.getElem_mem hlt
    obtain ⟨n, hn, hz⟩ := arm_byt l 0 0 (by decide) h _ hm
    rw [hz, num_ch n hn] at hp
    have := of_decide_eq_true hp
    omega
  have hl : ¬ (arm 0 0 l).length % 4 = 1 := by
    rw [arm_eq, List.length_map, armN_len]
    omega
  unfold plain
  rw [if_neg hb, if_neg hl, e, pln_arm l h, if_neg (by omega)]
theorem plain_ok_arm (l : List Nat) (h : ∀ z ∈ l, z < 256) (h0 : (plain l).2.1 = 0) : arm 0 0 (plain l).1 = l ∧ (plain l).2.2 = 0 ∧ ∀ z ∈ (plain l).1, z < 256 := by
  unfold plain at h0 ⊢
  by_cases hb : (l.findIdx fun c => decide (64 ≤ num c)) < l.length
  · rw [if_pos hb] at h0; simp at h0
  rw [if_neg hb] at h0 ⊢
  by_cases hl : l.length % 4 = 1
  · rw [if_pos hl] at h0; simp at h0
  rw [if_neg hl] at h0 ⊢
  by_cases hr : 0 < (pln 0 0 (l.map num)).2
  · rw [if_pos hr] at h0; simp at h0
  rw [if_neg hr]
  have h2 : ∀ z ∈ l, num z < 64 := by
    intro z hz
    obtain ⟨i, hi, rfl⟩ := List.getElem_of_mem hz
    have := List.not_of_lt_findIdx (show i < l.findIdx (fun c => decide (64 ≤ num c)) by omega)
    have := of_decide_eq_false this
    omega
  have h3 : ∀ z ∈ l.map num, z < 64 := by
    intro z hz
    obtain ⟨y, hy, rfl⟩ := List.mem_map.1 hz
    exact h2 y hy
  refine ⟨?_, rfl, pln_byt _ h3⟩
  show arm 0 0 (pln 0 0 (l.map num)).1 = l
  rw [arm_eq, arm_pln _ h3 (by rw [List.length_map]; exact hl) (by omega), map_ch_num l h h2]
theorem plain_err (l : List Nat) (h0 : (plain l).2.1 ≠ 0) : (plain l).1 = [] ∧ (plain l).2.2 ≤ l.length := by
  unfold plain at h0 ⊢
  split
  · rename_i hb
    exact ⟨rfl, Nat.le_of_lt hb⟩
  · split
    · exact ⟨rfl, Nat.le_refl _⟩
    · split
      · exact ⟨rfl, Nat.sub_le _ _⟩
      · rename_i h1 h2 h3
        rw [if_neg h1, if_neg h2, if_neg h3] at h0
        exact absurd rfl h0
end Code
