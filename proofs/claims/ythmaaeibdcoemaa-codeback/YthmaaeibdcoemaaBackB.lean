/-
  A thing's bytes, read again: plain facts on what was walked. Conditions: as they say.
-/
import Derived.Test.YthmaaeibdcoemaaBackA
namespace Go.Proofs.Ythmaaeibdcoemaa
open Go.RowKit
set_option linter.unusedVariables false
theorem fixW_is (d : Int) : 1 ≤ fixW d ∧ fixW d ≤ 8 := by unfold fixW pickN; omega
theorem leV_fixL : ∀ k n : Nat, leV (fixL k n) = n % 256 ^ k
  | 0, n => by simp [fixL, leV, Nat.mod_one]
  | k + 1, n => by
      rw [fixL_step, leV_append, leV_fixL k n, fixL_len, Nat.pow_succ, Nat.mod_mul, Nat.pow_mul, Nat.mul_comm (256 ^ k)]
/-- a thing's bytes -/
def thg (k : Int) (n : Nat) (i : Int) (s : ByteArray) (d : Int) : ByteArray :=
  if pickN k 4 = 0 then nums (Code.uint n) else if pickN k 4 = 1 then nums (Code.uint (Code.zig i)) else if pickN k 4 = 2 then nums (Code.uint (cutT s).size) ++ cutT s else nums (fixL (fixW d) (fixN n d))
theorem thg_size (k : Int) (n : Nat) (i : Int) (s : ByteArray) (d : Int) (hn : n < 18446744073709551616) (h0 : -9223372036854775808 ≤ i) (h1 : i ≤ 9223372036854775807) : 1 ≤ (thg k n i s d).size ∧ (thg k n i s d).size ≤ 4106 := by
  have hc := cutT_size s
  unfold thg
  split
  · rw [nums_size]; have := Code.uint_pos n; have := Code.uint_len n hn; omega
  · split
    · rw [nums_size]; have := Code.uint_pos (Code.zig i); have := Code.uint_len _ (Code.zig_lt i h0 h1); omega
    · split
      · rw [ByteArray.size_append, nums_size]; have := Code.uint_pos (cutT s).size; have := Code.uint_len (cutT s).size (by omega); omega
      · rw [nums_size, fixL_len]; have := fixW_is d; omega
theorem drop_at {S : List Nat} {A T Q : List Nat} {a : Nat} (h : S = A ++ (T ++ Q)) (ha : A.length = a) : S.drop a = T ++ Q := by
  rw [h, ← ha, List.drop_left]
/-- where a number's bytes stand, it is read -/
theorem rdAt_at {S : ByteArray} {A Q : List Nat} {a n : Nat} (h : Sums.bl S = A ++ (Code.uint n ++ Q)) (ha : A.length = a) (hn : n < 18446744073709551616) : rdAt S a = (n, 0, (Code.uint n).length) := by
  unfold rdAt
  rw [drop_at h ha, Code.rd_uint n Q hn]
theorem textR_at {S t : ByteArray} {A Q : List Nat} {a : Nat} (h : Sums.bl S = A ++ (Code.uint t.size ++ Sums.bl t ++ Q)) (ha : A.length = a) (ht : t.size ≤ 4096) : textR S a = (t, 0, (Code.uint t.size).length + t.size) := by
  have h1 : Sums.bl S = A ++ (Code.uint t.size ++ (Sums.bl t ++ Q)) := by rw [h, List.append_assoc]
  have hr := rdAt_at h1 ha (by omega)
  have hz : S.size = a + ((Code.uint t.size).length + (t.size + Q.length)) := by
    rw [← Sums.bl_length, h1, List.length_append, List.length_append, List.length_append, ha, Sums.bl_length]
  unfold textR
  rw [hr]
  show (if (0 : Nat) ≠ 0 then _ else if S.size - (a + (Code.uint t.size).length) < t.size then _ else _) = _
  rw [if_neg (by omega), if_neg (by omega)]
  congr 1
  apply Sums.bl_inj
  rw [Sums.bl_extract, List.drop_take, show a + (Code.uint t.size).length + t.size - (a + (Code.uint t.size).length) = t.size by omega, ← List.drop_drop, drop_at h1 ha, List.drop_left, ← Sums.bl_length, List.take_left]
theorem rfixR_at {S : ByteArray} {A Q : List Nat} {a k n : Nat} (h : Sums.bl S = A ++ (fixL k n ++ Q)) (ha : A.length = a) (h1 : 1 ≤ k) (h8 : k ≤ 8) (hn : n < 256 ^ k) : rfixR S a (k : Int) = (n, 0, k) := by
  have hz : S.size = a + (k + Q.length) := by rw [← Sums.bl_length, h, List.length_append, List.length_append, ha, fixL_len]
  have hd := drop_at h ha
  unfold rfixR
  rw [if_neg (by omega), Int.toNat_natCast, if_pos (by omega)]
  have e : leAt S a k = n := by
    unfold leAt
    rw [hd, List.take_left' (fixL_len k n), leV_fixL, Nat.mod_eq_of_lt hn]
  rw [e]
theorem fixN_lt (n : Nat) (d : Int) : fixN n d < 256 ^ fixW d := Nat.mod_lt _ (Nat.pow_pos (by decide))
theorem fixN_lt2 (n : Nat) (d : Int) (h : n < 18446744073709551616) : fixN n d < 18446744073709551616 := Nat.lt_of_le_of_lt (Nat.mod_le _ _) h
theorem fixR_fix (n : Nat) (d : Int) : fixR (fixN n d) (fixW d : Int) = .returned (.tuple #[.string (nums (fixL (fixW d) (fixN n d))), .int .i64 0]) := by
  have h := fixW_is d
  unfold fixR
  rw [if_neg (by omega), Int.toNat_natCast, if_neg (by rw [Nat.div_eq_of_lt (fixN_lt n d)]; omega)]
set_option maxRecDepth 100000 in
set_option maxHeartbeats 1000000 in
theorem written_any (k : Int) (n : Nat) (i : Int) (s : ByteArray) (d : Int) (w : World) (hk0 : -9223372036854775808 ≤ k) (hk1 : k ≤ 9223372036854775807) (hn : n < 18446744073709551616) (h0 : -9223372036854775808 ≤ i) (h1 : i ≤ 9223372036854775807) (hs : s.size ≤ 1125899906842624) (hd0 : -9223372036854775808 ≤ d) (hd1 : d ≤ 9223372036854775807) :
    Calls Try.prog 28 #[.agg (thv k n i s d)] w fun e w' => e = .returned (.tuple #[.string (thg k n i s d), .bool true]) ∧ Below w.heap.size w w' := by
  have hp : pickN k 4 = 0 ∨ pickN k 4 = 1 ∨ pickN k 4 = 2 ∨ pickN k 4 = 3 := by unfold pickN; omega
  obtain ⟨W, hW⟩ : ∃ W, W = w.alloc (.cells (thv k n i s d) 52) := ⟨_, rfl⟩
  have HB : Hid (Below w.heap.size w W) := by unfold Hid; rw [hW]; exact (Below.refl _ _).alloc (Nat.le_refl _) _
  have d0 : W.cell? ⟨w.heap.size, 0, none⟩ = some (.int .i64 k) := by rw [hW]; simp [go_sem, thv]
  have d1 : W.cell? ⟨w.heap.size, 1, none⟩ = some (.int .u64 (n : Int)) := by rw [hW]; simp [go_sem, thv]
  have d2 : W.cell? ⟨w.heap.size, 2, none⟩ = some (.int .i64 i) := by rw [hW]; simp [go_sem, thv]
  have d3 : W.cell? ⟨w.heap.size, 3, none⟩ = some (.string s) := by rw [hW]; simp [go_sem, thv]
  have d4 : W.cell? ⟨w.heap.size, 4, none⟩ = some (.int .i64 d) := by rw [hW]; simp [go_sem, thv]
  have HW := Hid.mk' hW
  have HN := Hid.mk' hn
  have HS := Hid.mk' hs
  clear hW hn hs
  unfold thv at HW ⊢
  rcases hp with hp | hp | hp | hp
  · have HT : Hid (thg k n i s d = nums (Code.uint n)) := if_pos hp
    go_enter Try.func28, Try.ntmps28
    go_wp2_with fail
    rw [← HW.out]
    refine (pick4 k _ hk0 hk1).mono ?_
    rintro e w' ⟨rfl, hw'⟩
    subst hw'
    rw [hp]
    simp only [Int.cast_ofNat_Int]
    go_wp2_with fail
    refine (uint_any n _ HN.out).mono ?_
    rintro e w2 ⟨rfl, hb2⟩
    go_wp2_with fail
    go_ret2
    exact ⟨by rw [HT.out]; rfl, HB.out.trans (hb2.mono HB.out.size)⟩
  · have HT : Hid (thg k n i s d = nums (Code.uint (Code.zig i))) := by unfold Hid thg; rw [if_neg (by omega), if_pos hp]
    go_enter Try.func28, Try.ntmps28
    go_wp2_with fail
    rw [← HW.out]
    refine (pick4 k _ hk0 hk1).mono ?_
    rintro e w' ⟨rfl, hw'⟩
    subst hw'
    rw [hp]
    simp only [Int.cast_ofNat_Int]
    go_wp2_with fail
    refine (int_any i _ h0 h1).mono ?_
    rintro e w2 ⟨rfl, hb2⟩
    go_wp2_with fail
    go_ret2
    exact ⟨by rw [HT.out]; rfl, HB.out.trans (hb2.mono HB.out.size)⟩
  · have HT : Hid (thg k n i s d = nums (Code.uint (cutT s).size) ++ cutT s) := by unfold Hid thg; rw [if_neg (by omega), if_neg (by omega), if_pos hp]
    have HCS := Hid.mk' (cutT_size s)
    go_enter Try.func28, Try.ntmps28
    go_wp2_with fail
    rw [← HW.out]
    refine (pick4 k _ hk0 hk1).mono ?_
    rintro e w' ⟨rfl, hw'⟩
    subst hw'
    rw [hp]
    simp only [Int.cast_ofNat_Int]
    go_wp2_with fail
    refine (lawText_any k n i s d _ HS.out).mono ?_
    rintro e w2 ⟨rfl, hb2⟩
    generalize cutT s = t at *
    go_wp2_with fail
    refine (text_any t _ (by have := HCS.out; omega)).mono ?_
    rintro e w3 ⟨rfl, hb3⟩
    go_wp2_with fail
    go_ret2
    exact ⟨by rw [HT.out]; rfl, HB.out.trans ((hb2.trans (hb3.mono hb2.size)).mono HB.out.size)⟩
  · have HT : Hid (thg k n i s d = nums (fixL (fixW d) (fixN n d))) := by unfold Hid thg; rw [if_neg (by omega), if_neg (by omega), if_neg (by omega)]
    have HX := Hid.mk' (fixR_fix n d)
    have hw8 := fixW_is d
    have HFN := Hid.mk' (fixN_lt2 n d HN.out)
    have hsz : (nums (fixL (fixW d) (fixN n d))).size = fixW d := by rw [nums_size, fixL_len]
    go_enter Try.func28, Try.ntmps28
    go_wp2_with fail
    rw [← HW.out]
    refine (pick4 k _ hk0 hk1).mono ?_
    rintro e w' ⟨rfl, hw'⟩
    subst hw'
    rw [hp]
    simp only [Int.cast_ofNat_Int]
    go_wp2_with fail
    refine (lawFixed_any k n i s d _ HN.out hd0 hd1).mono ?_
    rintro e w2 ⟨rfl, hb2⟩
    generalize fixN n d = m at *
    generalize fixW d = q at *
    go_wp2_with fail
    refine (fixed_any m q _ HFN.out).mono ?_
    rintro e w3 ⟨he, hb3⟩
    rw [HX.out] at he
    subst he
    generalize nums (fixL q m) = t at *
    go_wp2_with fail
    go_ret2
    exact ⟨by rw [HT.out]; rfl, HB.out.trans ((hb2.trans (hb3.mono hb2.size)).mono HB.out.size)⟩
end Go.Proofs.Ythmaaeibdcoemaa
