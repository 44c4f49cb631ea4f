/-
  Texts that differ within four bytes side by side have unlike CRCs: no Go in sight. No conditions but those that each fact names.
-/
import Derived.Test.YtnbcmobdenjjfabDoorSumC
namespace Sums
theorem crcF_num (l : List Nat) {c d : Nat} (hc : c < 4294967296) (hd : d < 4294967296) (h : crcF c l = crcF d l) : c = d := by
  rw [crcF_from l c, crcF_from l d] at h
  exact stepN_inj _ _ _ hc hd (xor_cancel h)
theorem w4_one {l r : List Nat} (hl : l.length = 4) (hr : r.length = 4) (bl : Byt l) (br : Byt r) (h : w4 l = w4 r) : l = r := by
  obtain ⟨a0, a1, a2, a3, rfl⟩ := list4 hl
  obtain ⟨b0, b1, b2, b3, rfl⟩ := list4 hr
  have A0 := bl a0 (by simp); have A1 := bl a1 (by simp); have A2 := bl a2 (by simp); have A3 := bl a3 (by simp)
  have B0 := br b0 (by simp); have B1 := br b1 (by simp); have B2 := br b2 (by simp); have B3 := br b3 (by simp)
  have h2 : a0 + 256 * a1 + 65536 * a2 + 16777216 * a3 = b0 + 256 * b1 + 65536 * b2 + 16777216 * b3 := h
  obtain rfl : a0 = b0 := by omega
  obtain rfl : a1 = b1 := by omega
  obtain rfl : a2 = b2 := by omega
  obtain rfl : a3 = b3 := by omega
  rfl
theorem crc_mid (c : Nat) {B B' : List Nat} (hc : c < 4294967296) (hl : B.length = B'.length) (h4 : B.length ≤ 4) (hb : Byt B) (hb' : Byt B') (h : crcF c B = crcF c B') : B = B' := by
  have hz : Byt (List.replicate (4 - B.length) 0) := fun b hb => by rw [(List.mem_replicate.1 hb).2]; decide
  have byt : ∀ X : List Nat, Byt X → Byt (X ++ List.replicate (4 - B.length) 0) := fun X hX b hb => by
    rcases List.mem_append.1 hb with h | h
    · exact hX b h
    · exact hz b h
  have e : crcF c (B ++ List.replicate (4 - B.length) 0) = crcF c (B' ++ List.replicate (4 - B.length) 0) := by rw [crcF_append, crcF_append, h]
  have l1 : (B ++ List.replicate (4 - B.length) 0).length = 4 := by rw [List.length_append, List.length_replicate]; omega
  have l2 : (B' ++ List.replicate (4 - B.length) 0).length = 4 := by rw [List.length_append, List.length_replicate]; omega
  have w := crc_four c hc l1 l2 (byt B hb) (byt B' hb') e
  have := w4_one l1 l2 (byt B hb) (byt B' hb') w
  exact List.append_inj_left' this rfl
theorem crc_told (l M : List Nat) (k : Nat) (hlen : M.length = l.length) (bl : Byt l) (bm : Byt M) (ag : ∀ j, j < k ∨ k + 4 ≤ j → M[j]? = l[j]?) (h : crcL l = crcL M) : l = M := by
  have h1 : crcF 4294967295 l = crcF 4294967295 M := xor_cancel h
  have split : ∀ X : List Nat, X = X.take k ++ ((X.drop k).take 4 ++ X.drop (k + 4)) := by
    intro X
    rw [show X.drop (k + 4) = (X.drop k).drop 4 by rw [List.drop_drop], List.take_append_drop, List.take_append_drop]
  have eA : M.take k = l.take k := by
    apply List.ext_getElem?
    intro j
    by_cases hj : j < k
    · rw [List.getElem?_take_of_lt hj, List.getElem?_take_of_lt hj, ag j (Or.inl hj)]
    · rw [List.getElem?_eq_none (by rw [List.length_take]; omega), List.getElem?_eq_none (by rw [List.length_take]; omega)]
  have eC : M.drop (k + 4) = l.drop (k + 4) := by
    apply List.ext_getElem?
    intro j
    rw [List.getElem?_drop, List.getElem?_drop, ag _ (Or.inr (by omega))]
  rw [split l, split M, eA, eC, crcF_append, crcF_append, crcF_append, crcF_append] at h1
  have bt : ∀ X : List Nat, Byt X → ∀ n, Byt (X.take n) := fun X hX n b hb => hX b (List.mem_of_mem_take hb)
  have bd : ∀ X : List Nat, Byt X → ∀ n, Byt (X.drop n) := fun X hX n b hb => hX b (List.mem_of_mem_drop hb)
  have x0 := crcF_lt (l.take k) 4294967295 (bt l bl k) (by decide)
  have h2 := crcF_num _ (crcF_lt _ _ (bt _ (bd l bl k) 4) x0) (crcF_lt _ _ (bt _ (bd M bm k) 4) x0) h1
  have h3 := crc_mid _ x0 (by rw [List.length_take, List.length_take, List.length_drop, List.length_drop, hlen]) (by rw [List.length_take]; omega) (bt _ (bd l bl k) 4) (bt _ (bd M bm k) 4) h2
  rw [split l, split M, eA, eC, h3]
/-- the bytes of l from k on, turned by those of L, i of them -/
def xr (l : List Nat) (k : Nat) (L : List Nat) : Nat → List Nat
  | 0 => l
  | i + 1 => (xr l k L i).set (k + i) ((xr l k L i).getD (k + i) 0 ^^^ L.getD i 0)
theorem xr_len (l : List Nat) (k : Nat) (L : List Nat) : ∀ i, (xr l k L i).length = l.length
  | 0 => rfl
  | i + 1 => by rw [xr, List.length_set, xr_len l k L i]
theorem xr_out (l : List Nat) (k : Nat) (L : List Nat) : ∀ i j, j < k ∨ k + i ≤ j → (xr l k L i)[j]? = l[j]?
  | 0, _, _ => rfl
  | i + 1, j, h => by
      rw [xr, List.getElem?_set, if_neg (by omega)]
      exact xr_out l k L i j (by omega)
theorem xr_byt (l : List Nat) (k : Nat) (L : List Nat) (hl : Byt l) (hL : Byt L) : ∀ i, Byt (xr l k L i)
  | 0 => hl
  | i + 1 => by
      intro b hb
      rw [xr] at hb
      rcases List.mem_or_eq_of_mem_set hb with h | h
      · exact xr_byt l k L hl hL i b h
      · rw [h]
        exact Nat.xor_lt_two_pow (n := 8) (getD_lt _ (xr_byt l k L hl hL i) _) (getD_lt _ hL _)
end Sums
