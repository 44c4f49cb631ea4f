/-
  What the document's Join does. Conditions: the numbers are of 32 bits, the length an int.
-/
import Derived.Test.YtnbcmobdenjjfaaDoorRefJoin
namespace Go.Proofs.YtnbcmobdenjjfaaDoor
open Go.RowKit
set_option linter.unusedVariables false
theorem heap_lt {w : World} {g : Nat} {o : Obj} (h : w.heap[g]? = some o) : g < w.heap.size := (Array.getElem?_eq_some_iff.1 h).1
theorem twice_at (m k : Nat) (w : World) (h : m + m = k) :
    Calls Tryd.prog 27 #[.agg (rowL m).toArray] w fun e w' => e = .returned (.agg (rowL k).toArray) ∧ Below w.heap.size w w' := by
  subst h
  exact twice_any m w
theorem row_same (m k : Nat) : (rowL m).toArray.size = (rowL k).toArray.size := by rw [List.size_toArray, List.size_toArray, rowL_len, rowL_len]
theorem pow_cast (j : Nat) (h : 2 ^ j < 4294967296) : (2 : Int) ^ j % 4294967296 = ((2 ^ j : Nat) : Int) := by
  have e : (2 : Int) ^ j = ((2 ^ j : Nat) : Int) := by simp
  rw [e]
  generalize 2 ^ j = X at *
  omega
theorem refStep_i (x : Int) (c : Nat) (w : World) (e : x = (c : Int)) (hc : c < 4294967296) :
    Calls Tryd.prog 25 #[.int .u32 x] w fun e w' => e = .returned (.int .u32 (Sums.step c : Nat)) ∧ w' = w := by
  subst e
  exact refStep_any c w hc
set_option maxHeartbeats 400000 in
theorem refJoin_less (a b : Nat) (n : Int) (w : World) (hn : n < 0) :
    Calls Tryd.prog 13 #[.int .u32 (a : Int), .int .u32 (b : Int), .int .i64 n] w fun e w' => e = .returned (.tuple #[.int .u32 0, .int .i64 1]) ∧ w' = w := by
  go_enter Tryd.func13, Tryd.ntmps13
  go_wp2_with fail
  go_ret2
  exact ⟨rfl, rfl⟩
set_option maxHeartbeats 1000000 in
theorem refJoin_any (a b n : Nat) (w : World) (ha : a < 4294967296) (hb : b < 4294967296) (hn : n < 9223372036854775808) :
    Calls Tryd.prog 13 #[.int .u32 (a : Int), .int .u32 (b : Int), .int .i64 (n : Int)] w fun e w' => e = .returned (.tuple #[.int .u32 ((Sums.stepN (8 * n) a ^^^ b : Nat) : Int), .int .i64 0]) ∧ Below w.heap.size w w' := by
  have hn0 : (0 : Int) ≤ (n : Int) := by omega
  have hn1 : ¬ (n : Int) < 0 := by omega
  go_enter Tryd.func13, Tryd.ntmps13
  go_wp2_with fail
  rw [← outL_0 1]
  have HM0 : Hid ((w.alloc (.cells (outL 1 0).toArray 54 (0, 0))).heap[w.heap.size]? = some (.cells (outL 1 0).toArray 54 (0, 0))) := heap_new1 _ _
  have HB0 : Hid (Below w.heap.size w (w.alloc (.cells (outL 1 0).toArray 54 (0, 0)))) := (Below.refl _ _).alloc (Nat.le_refl _) _
  go_loopw [9] (fun z wr => ∃ j : Nat, j ≤ 32 ∧ z = .int .i64 (j : Int) ∧ Hid (wr.heap[w.heap.size]? = some (.cells (outL 1 j).toArray 54 (0, 0))) ∧ Hid (Below w.heap.size w wr)) (fun z _ => 32 - (intOf z).toNat)
  case atStart => exact ⟨0, by omega, rfl, HM0, HB0⟩
  case round =>
    clear HM0 HB0
    obtain ⟨j, hj, rfl, HM, HB⟩ := hrel
    by_cases hlt : j < 32
    · have hj3 : (j : Int) < 32 := by omega
      have hp : 2 ^ j < 4294967296 := by have := Nat.pow_lt_pow_right (a := 2) (by omega) hlt; simpa using this
      have d1 := heap_cell HM.out (outL_get 1 j j hlt)
      have d2 := heap_frozen (k := j) HM.out
      have HM2 := Hid.mk' (heap_set (k := j) HM.out (.int .u32 ((Sums.step (2 ^ j) : Nat) : Int)))
      have e1 : Sums.step (2 ^ j) = Sums.stepN 1 (2 ^ j) := rfl
      rw [e1, outL_set 1 j hlt, ← e1] at HM2
      clear e1
      have HB2 : Hid (Below w.heap.size w (wr.setCell ⟨w.heap.size, j, none⟩ (.int .u32 ((Sums.step (2 ^ j) : Nat) : Int)))) := HB.out.setCell (Nat.le_refl _) _
      go_wp2_with fail
      refine (refStep_i _ (2 ^ j) _ (pow_cast j hp) hp).mono ?_
      rintro e w1 ⟨rfl, rfl⟩
      go_wp2_with fail
      clear d1 d2 HM HB
      go_roundw
      case rel => exact ⟨j + 1, by omega, by go_num, HM2, HB2⟩
      case measure => simp [intOf]; omega
    · have HJ : Hid (j = 32) := by show _ = _; omega
      have hj3 : ¬ (j : Int) < 32 := by omega
      rw [HJ.out, outL_32] at HM
      go_wp2_with (first | (refine wpList_load_row rfl 54 _ rfl w.heap.size rfl 54 _ _ _ HM.out Tryd.underlying54 rfl (size54 _ (rowL_len _)) ?_) | fail)
      refine (twice_at 1 2 _ (by omega)).mono ?_
      rintro e wa1 ⟨rfl, B1x⟩
      have HM1x : Hid (wa1.heap[w.heap.size]? = some (.cells (rowL 1).toArray 54 (0, 0))) := (B1x.block _ (heap_lt HM.out)).trans HM.out
      have HB1x : Hid (Below w.heap.size w wa1) := HB.out.trans (B1x.mono HB.out.size)
      clear B1x HM HB
      go_wp2_with (first | (refine wpList_store_row rfl 54 _ _ rfl w.heap.size (rowL 2).toArray rfl rfl 54 _ HM1x.out (size54 _ (rowL_len _)) (row_same _ _) (one_row _) ?_; have HMa : Hid ((wa1.setRow w.heap.size (rowL 2).toArray).heap[w.heap.size]? = some (.cells (rowL 2).toArray 54 (0, 0))) := setRow_heap _ _ _ _ 54 _ HM1x.out; have HBa : Hid (Below w.heap.size w (wa1.setRow w.heap.size (rowL 2).toArray)) := HB1x.out.trans (((Put.refl HM1x.out).setRow (ds := rowL 2)).below (Nat.le_refl _)); clear HM1x HB1x; generalize wa1.setRow w.heap.size (rowL 2).toArray = wb1 at *) | (refine wpList_load_row rfl 54 _ rfl w.heap.size rfl 54 _ _ _ HMa.out Tryd.underlying54 rfl (size54 _ (rowL_len _)) ?_) | fail)
      refine (twice_at 2 4 _ (by omega)).mono ?_
      rintro e wa2 ⟨rfl, B2x⟩
      have HM2x : Hid (wa2.heap[w.heap.size]? = some (.cells (rowL 2).toArray 54 (0, 0))) := (B2x.block _ (heap_lt HMa.out)).trans HMa.out
      have HB2x : Hid (Below w.heap.size w wa2) := HBa.out.trans (B2x.mono HBa.out.size)
      clear B2x HMa HBa
      go_wp2_with (first | (refine wpList_store_row rfl 54 _ _ rfl w.heap.size (rowL 4).toArray rfl rfl 54 _ HM2x.out (size54 _ (rowL_len _)) (row_same _ _) (one_row _) ?_; have HMb : Hid ((wa2.setRow w.heap.size (rowL 4).toArray).heap[w.heap.size]? = some (.cells (rowL 4).toArray 54 (0, 0))) := setRow_heap _ _ _ _ 54 _ HM2x.out; have HBb : Hid (Below w.heap.size w (wa2.setRow w.heap.size (rowL 4).toArray)) := HB2x.out.trans (((Put.refl HM2x.out).setRow (ds := rowL 4)).below (Nat.le_refl _)); clear HM2x HB2x; generalize wa2.setRow w.heap.size (rowL 4).toArray = wb2 at *) | (refine wpList_load_row rfl 54 _ rfl w.heap.size rfl 54 _ _ _ HMb.out Tryd.underlying54 rfl (size54 _ (rowL_len _)) ?_) | fail)
      refine (twice_at 4 8 _ (by omega)).mono ?_
      rintro e wa3 ⟨rfl, B3x⟩
      have HM3x : Hid (wa3.heap[w.heap.size]? = some (.cells (rowL 4).toArray 54 (0, 0))) := (B3x.block _ (heap_lt HMb.out)).trans HMb.out
      have HB3x : Hid (Below w.heap.size w wa3) := HBb.out.trans (B3x.mono HBb.out.size)
      clear B3x HMb HBb
      go_wp2_with (first | (refine wpList_store_row rfl 54 _ _ rfl w.heap.size (rowL 8).toArray rfl rfl 54 _ HM3x.out (size54 _ (rowL_len _)) (row_same _ _) (one_row _) ?_; have HMc : Hid ((wa3.setRow w.heap.size (rowL 8).toArray).heap[w.heap.size]? = some (.cells (rowL 8).toArray 54 (0, 0))) := setRow_heap _ _ _ _ 54 _ HM3x.out; have HBc : Hid (Below w.heap.size w (wa3.setRow w.heap.size (rowL 8).toArray)) := HB3x.out.trans (((Put.refl HM3x.out).setRow (ds := rowL 8)).below (Nat.le_refl _)); clear HM3x HB3x; generalize wa3.setRow w.heap.size (rowL 8).toArray = wb3 at *) | fail)
      have HM8 : Hid (wb3.heap[w.heap.size]? = some (.cells (rowL (8 * 1)).toArray 54 (0, 0))) := HMc
      clear HMc
      simp only [Act.put]
      go_loopw [0, 2] (fun x y wr => ∃ m N A : Nat, N ≤ n ∧ A < 4294967296 ∧ x = .int .u32 (A : Int) ∧ y = .int .i64 (N : Int) ∧ Hid (wr.heap[w.heap.size]? = some (.cells (rowL (8 * m)).toArray 54 (0, 0))) ∧ Hid (Sums.stepN (8 * (m * N)) A = Sums.stepN (8 * n) a) ∧ Hid (Below w.heap.size w wr)) (fun _ y _ => (intOf y).toNat)
      case atStart => exact ⟨1, n, a, by omega, ha, rfl, rfl, HM8, by show _ = _; rw [Nat.one_mul], HBc⟩
      case round =>
        clear HM8 HBc
        obtain ⟨m, N, A, hN, hA, rfl, rfl, HM, HI, HB⟩ := hrel
        by_cases h0 : N = 0
        · subst h0
          have HE : Hid (bits .xor .u32 (A : Int) (b : Int) = ((Sums.stepN (8 * n) a ^^^ b : Nat) : Int)) := by
            show _ = _
            rw [u32_xor_nat A b hA hb, ← HI.out, Nat.mul_zero, Nat.mul_zero]
            rfl
          clear HI HM
          go_wp2_with fail
          go_ret2
          rw [HE.out]
          exact ⟨rfl, HB.out⟩
        · have g0 : (0 : Int) < (N : Int) := by omega
          have e2 : 8 * m + 8 * m = 8 * (2 * m) := by omega
          have HE2 := Hid.mk' e2
          clear e2
          by_cases h1 : N % 2 = 1
          · have g1 : ((N : Int).tmod 2 == 1) = true := by rw [Int.tmod_eq_emod_of_nonneg (by omega)]; simp; omega
            have g2 : ((N : Int) % 2 == 1) = true := by simp; omega
            have HI2 : Hid (Sums.stepN (8 * (2 * m * (N / 2))) (Sums.stepN (8 * m) A) = Sums.stepN (8 * n) a) := by
              show _ = _
              rw [← joined_odd, show 2 * (N / 2) + 1 = N by omega]
              exact HI.out
            have hM := Sums.stepN_lt (8 * m) A hA
            clear HI h1
            go_wp2_with (first | (refine wpList_load_row rfl 54 _ rfl w.heap.size rfl 54 _ _ _ HM.out Tryd.underlying54 rfl (size54 _ (rowL_len _)) ?_) | fail)
            refine (of_any (8 * m) A _ hA).mono ?_
            rintro e w5 ⟨rfl, B5⟩
            have HMq : Hid (w5.heap[w.heap.size]? = some (.cells (rowL (8 * m)).toArray 54 (0, 0))) := (B5.block _ (heap_lt HM.out)).trans HM.out
            have HBq : Hid (Below w.heap.size w w5) := HB.out.trans (B5.mono HB.out.size)
            clear B5 HM HB
            go_wp2_with (first | (refine wpList_load_row rfl 54 _ rfl w.heap.size rfl 54 _ _ _ HMq.out Tryd.underlying54 rfl (size54 _ (rowL_len _)) ?_) | fail)
            refine (twice_at (8 * m) (8 * (2 * m)) _ (by omega)).mono ?_
            rintro e wa4 ⟨rfl, B4x⟩
            have HM4x : Hid (wa4.heap[w.heap.size]? = some (.cells (rowL (8 * m)).toArray 54 (0, 0))) := (B4x.block _ (heap_lt HMq.out)).trans HMq.out
            have HB4x : Hid (Below w.heap.size w wa4) := HBq.out.trans (B4x.mono HBq.out.size)
            clear B4x HMq HBq
            go_wp2_with (first | (refine wpList_store_row rfl 54 _ _ rfl w.heap.size (rowL (8 * (2 * m))).toArray rfl rfl 54 _ HM4x.out (size54 _ (rowL_len _)) (row_same _ _) (one_row _) ?_; have HMd : Hid ((wa4.setRow w.heap.size (rowL (8 * (2 * m))).toArray).heap[w.heap.size]? = some (.cells (rowL (8 * (2 * m))).toArray 54 (0, 0))) := setRow_heap _ _ _ _ 54 _ HM4x.out; have HBd : Hid (Below w.heap.size w (wa4.setRow w.heap.size (rowL (8 * (2 * m))).toArray)) := HB4x.out.trans (((Put.refl HM4x.out).setRow (ds := rowL (8 * (2 * m)))).below (Nat.le_refl _)); clear HM4x HB4x; generalize wa4.setRow w.heap.size (rowL (8 * (2 * m))).toArray = wb4 at *) | fail)
            go_roundw
            case rel => exact ⟨2 * m, N / 2, _, by omega, hM, rfl, by go_num, HMd, HI2, HBd⟩
            case measure => simp [intOf]; omega
          · have g1 : ((N : Int).tmod 2 == 1) = false := by rw [Int.tmod_eq_emod_of_nonneg (by omega)]; simp; omega
            have g2 : ((N : Int) % 2 == 1) = false := by simp; omega
            have HI2 : Hid (Sums.stepN (8 * (2 * m * (N / 2))) A = Sums.stepN (8 * n) a) := by
              show _ = _
              rw [← joined_even, show 2 * (N / 2) = N by omega]
              exact HI.out
            clear HI h1
            go_wp2_with (first | (refine wpList_load_row rfl 54 _ rfl w.heap.size rfl 54 _ _ _ HM.out Tryd.underlying54 rfl (size54 _ (rowL_len _)) ?_) | fail)
            refine (twice_at (8 * m) (8 * (2 * m)) _ (by omega)).mono ?_
            rintro e wa5 ⟨rfl, B5x⟩
            have HM5x : Hid (wa5.heap[w.heap.size]? = some (.cells (rowL (8 * m)).toArray 54 (0, 0))) := (B5x.block _ (heap_lt HM.out)).trans HM.out
            have HB5x : Hid (Below w.heap.size w wa5) := HB.out.trans (B5x.mono HB.out.size)
            clear B5x HM HB
            go_wp2_with (first | (refine wpList_store_row rfl 54 _ _ rfl w.heap.size (rowL (8 * (2 * m))).toArray rfl rfl 54 _ HM5x.out (size54 _ (rowL_len _)) (row_same _ _) (one_row _) ?_; have HMd : Hid ((wa5.setRow w.heap.size (rowL (8 * (2 * m))).toArray).heap[w.heap.size]? = some (.cells (rowL (8 * (2 * m))).toArray 54 (0, 0))) := setRow_heap _ _ _ _ 54 _ HM5x.out; have HBd : Hid (Below w.heap.size w (wa5.setRow w.heap.size (rowL (8 * (2 * m))).toArray)) := HB5x.out.trans (((Put.refl HM5x.out).setRow (ds := rowL (8 * (2 * m)))).below (Nat.le_refl _)); clear HM5x HB5x; generalize wa5.setRow w.heap.size (rowL (8 * (2 * m))).toArray = wb5 at *) | fail)
            go_roundw
            case rel => exact ⟨2 * m, N / 2, _, by omega, hA, rfl, by go_num, HMd, HI2, HBd⟩
            case measure => simp [intOf]; omega
end Go.Proofs.YtnbcmobdenjjfaaDoor
