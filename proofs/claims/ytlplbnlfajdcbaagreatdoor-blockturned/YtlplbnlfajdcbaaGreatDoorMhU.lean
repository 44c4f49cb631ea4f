/-
  block: sums that do not fit, one byte turned. Conditions: as each says.
-/
import Derived.Test.YtlplbnlfajdcbaaGreatDoorBkM
namespace Go.Proofs.YtlplbnlfajdcbaaGreatDoor
open Go.RowKit
set_option linter.unusedVariables false
set_option linter.unusedSimpArgs false
theorem list_ne {a b : ByteArray} (h : a ≠ b) : (a.toList == b.toList) = false := by
  rw [beq_eq_false_iff_ne]
  intro e
  rw [ByteArray.toList_eq, ByteArray.toList_eq] at e
  exact h (ByteArray.ext (Array.toList_inj.1 e))
set_option maxHeartbeats 2000000 in
set_option maxRecDepth 100000 in
theorem unsummed_bad (s : ByteArray) (n : Nat) (w : World) (hs : s.size = n + 4) (hl : n ≤ 1048576) (hne : s.extract n (n + 4) ≠ nums (smL (Sums.bl (s.extract 0 n)))) (ht : Tab w) :
    Calls Tryz.prog 36 #[.string s] w fun r w' => ∃ p, r = .returned (.tuple #[.string ⟨#[]⟩, .iface 61 (.pointer (some ⟨p, 0, none⟩))]) ∧ w'.heap[p]? = some (.cells #[.int .i64 (n : Int), .int .i64 54] 63 (0, 0)) ∧ w.heap.size ≤ p ∧ Below w.heap.size w w' := by
  obtain ⟨m, hm⟩ : ∃ m, n + 4 = m := ⟨_, rfl⟩
  rw [hm] at hs hne
  obtain ⟨X, hX⟩ : ∃ X, s.extract 0 n = X := ⟨_, rfl⟩
  have hXs : X.size ≤ 140737488355328 := by rw [← hX, ByteArray.size_extract]; omega
  rw [hX] at hne
  have HS : Hid (∀ k : Nat, Calls Tryz.prog 53 #[.string X] (w.drewN k) fun e w' => e = .returned (.string (nums (smL (Sums.bl X)))) ∧ Below w.heap.size w w') := fun k => by
    have := sumOf_any X (w.drewN k) hXs ht
    exact this.mono fun e w' h => ⟨h.1, ⟨h.2.os, h.2.tape, h.2.output, h.2.size, h.2.block⟩⟩
  obtain ⟨T, hT⟩ : ∃ T, nums (smL (Sums.bl X)) = T := ⟨_, rfl⟩
  obtain ⟨Q, hQ⟩ : ∃ Q, s.extract n m = Q := ⟨_, rfl⟩
  rw [hT] at hne HS
  rw [hQ] at hne
  have hnq := list_ne hne
  have hmi : (m : Int) - 4 = (n : Int) := by omega
  have hn0 : (0 : Int) ≤ (n : Int) := by omega
  have hnm : (n : Int) ≤ (m : Int) := by omega
  have hnm2 : n ≤ m := by omega
  have hmb : m ≤ 1048580 := by omega
  clear ht hm hl hT hne hXs
  go_enter Tryz.func36, Tryz.ntmps36
  go_wp2_with fail
  go_cut [8, 9, 10, 11, 12, 13, 14, 15] (fun _ _ _ _ _ _ _ s15 wx => s15 = .bool true ∧ Hid (Below w.heap.size w wx))
  case first =>
    go_region_with (go_at_call 53; refine (HS.out 1).mono ?_; rintro e w' ⟨rfl, hb⟩; have HB := Hid.mk' hb; clear hb)
    all_goals (go_wp2_with fail; go_meet)
    all_goals exact ⟨rfl, HB.out⟩
  case rest =>
    obtain ⟨rfl, HX⟩ := hcut
    rename World => wx
    go_wp2_with fail
    go_ret2
    exact ⟨wx.heap.size, rfl, heap_alloc_new _ _, HX.out.size, HX.out.alloc HX.out.size _⟩
set_option maxHeartbeats 2000000 in
set_option maxRecDepth 100000 in
theorem look_short (s : ByteArray) (n : Nat) (w : World) (hs : s.size = n) (hn : n < 73) :
    Calls Tryz.prog 16 #[.string s] w fun r w' => ∃ p, r = .returned (.tuple #[hdV 0 0 0 0 0 0 0 0 0, .iface 61 (.pointer (some ⟨p, 0, none⟩))]) ∧ w'.heap[p]? = some (.cells #[.int .i64 (n : Int), .int .i64 30] 63 (0, 0)) ∧ w.heap.size ≤ p ∧ Below w.heap.size w w' := by
  obtain ⟨B, hB⟩ : ∃ B, w.heap.size = B := ⟨_, rfl⟩
  obtain ⟨w0, hw0⟩ : ∃ w0, w.alloc (.cells #[.int .i64 0, .int .i64 0, .int .i64 0, .int .i64 0, .int .i64 0, .int .i64 0, .int .i64 0, .int .i64 0, .int .i64 0] 23) = w0 := ⟨_, rfl⟩
  have HK0 : Hid (w0.heap[B]? = some (.cells #[.int .i64 0, .int .i64 0, .int .i64 0, .int .i64 0, .int .i64 0, .int .i64 0, .int .i64 0, .int .i64 0, .int .i64 0] 23 (0, 0)) ∧ Below B w w0 ∧ w0.heap.size = B + 1) := by
    unfold Hid
    rw [← hw0, ← hB]
    exact ⟨heap_alloc_new _ _, (Below.refl _ _).alloc (Nat.le_refl _) _, World.size_alloc ..⟩
  have hnI : (n : Int) < 73 := by omega
  go_enter Tryz.func16, Tryz.ntmps16
  go_upto_region 1 with fail
  clear hw0
  obtain ⟨w1, hw1⟩ : ∃ w1, w0.alloc (.cells #[.int .i64 (n : Int), .int .i64 30] 63) = w1 := ⟨_, rfl⟩
  have HK1 : Hid (w1.heap[B]? = some (.cells #[.int .i64 0, .int .i64 0, .int .i64 0, .int .i64 0, .int .i64 0, .int .i64 0, .int .i64 0, .int .i64 0, .int .i64 0] 23 (0, 0)) ∧ Below B w w1 ∧ w1.heap[B + 1]? = some (.cells #[.int .i64 (n : Int), .int .i64 30] 63 (0, 0))) := by
    obtain ⟨k1, k2, k3⟩ := HK0.out
    unfold Hid
    rw [← hw1, ← k3]
    exact ⟨(Below.heap_alloc _ _ _ (by omega)).trans k1, k2.alloc (by omega) _, heap_alloc_new _ _⟩
  have hsz := HK0.out.2.2
  have r0 := cell_at (k := 0) HK1.out.1 rfl
  have g0 := frozen_at (k := 0) HK1.out.1
  have r1 := cell_at (k := 1) HK1.out.1 rfl
  have g1 := frozen_at (k := 1) HK1.out.1
  have r2 := cell_at (k := 2) HK1.out.1 rfl
  have g2 := frozen_at (k := 2) HK1.out.1
  have r3 := cell_at (k := 3) HK1.out.1 rfl
  have g3 := frozen_at (k := 3) HK1.out.1
  have r4 := cell_at (k := 4) HK1.out.1 rfl
  have g4 := frozen_at (k := 4) HK1.out.1
  have r5 := cell_at (k := 5) HK1.out.1 rfl
  have g5 := frozen_at (k := 5) HK1.out.1
  have r6 := cell_at (k := 6) HK1.out.1 rfl
  have g6 := frozen_at (k := 6) HK1.out.1
  have r7 := cell_at (k := 7) HK1.out.1 rfl
  have g7 := frozen_at (k := 7) HK1.out.1
  have r8 := cell_at (k := 8) HK1.out.1 rfl
  have g8 := frozen_at (k := 8) HK1.out.1
  have hBn : ¬ B = w0.heap.size := by omega
  have hBn2 : ¬ w0.heap.size = B := by omega
  clear hsz
  go_wp2_with fail
  have hsz := HK0.out.2.2
  have hp := HK1.out.2.2
  obtain ⟨Y, hY⟩ : ∃ Y, (((((((((w1.setCell ⟨B, 0, none⟩ (.int .i64 0)).setCell ⟨B, 1, none⟩ (.int .i64 0)).setCell ⟨B, 2, none⟩ (.int .i64 0)).setCell ⟨B, 3, none⟩ (.int .i64 0)).setCell ⟨B, 4, none⟩ (.int .i64 0)).setCell ⟨B, 5, none⟩ (.int .i64 0)).setCell ⟨B, 6, none⟩ (.int .i64 0)).setCell ⟨B, 7, none⟩ (.int .i64 0)).setCell ⟨B, 8, none⟩ (.int .i64 0)) = Y := ⟨_, rfl⟩
  have hb9 : Below B w Y := by rw [← hY]; exact nine_below _ _ _ _ _ _ _ _ _ (HK1.out.2.1) (Nat.le_refl _)
  have hc9 : Y.heap[B]? = some (.cells #[.int .i64 0, .int .i64 0, .int .i64 0, .int .i64 0, .int .i64 0, .int .i64 0, .int .i64 0, .int .i64 0, .int .i64 0] 23 (0, 0)) := by rw [← hY]; exact nine_put _ _ _ _ _ _ _ _ _ (HK1.out.1)
  have hp9 : Y.heap[B + 1]? = some (.cells #[.int .i64 (n : Int), .int .i64 30] 63 (0, 0)) := by rw [← hY]; exact (nine_other _ _ _ _ _ _ _ _ _ (by omega)).trans hp
  rw [hY]
  have y0 := cell_at (k := 0) hc9 rfl
  have y1 := cell_at (k := 1) hc9 rfl
  have y2 := cell_at (k := 2) hc9 rfl
  have y3 := cell_at (k := 3) hc9 rfl
  have y4 := cell_at (k := 4) hc9 rfl
  have y5 := cell_at (k := 5) hc9 rfl
  have y6 := cell_at (k := 6) hc9 rfl
  have y7 := cell_at (k := 7) hc9 rfl
  have y8 := cell_at (k := 8) hc9 rfl
  exact bodyPost_ret (v := .tuple #[.agg #[.int .i64 0, .int .i64 0, .int .i64 0, .int .i64 0, .int .i64 0, .int .i64 0, .int .i64 0, .int .i64 0, .int .i64 0], .iface 61 (.pointer (some ⟨B + 1, 0, none⟩))]) (by simp [results, Tryz.results16, go_sem, y0, y1, y2, y3, y4, y5, y6, y7, y8]) rfl ⟨B + 1, rfl, hp9, by omega, by first | exact hb9 | (rw [hB]; exact hb9)⟩
set_option maxHeartbeats 2000000 in
set_option maxRecDepth 100000 in
theorem look_magic (s : ByteArray) (n : Nat) (w : World) (hs : s.size = n) (hn : 73 ≤ n) (hne : s.extract 0 4 ≠ ⟨#[68, 82, 71, 49]⟩) :
    Calls Tryz.prog 16 #[.string s] w fun r w' => ∃ p, r = .returned (.tuple #[hdV 0 0 0 0 0 0 0 0 0, .iface 61 (.pointer (some ⟨p, 0, none⟩))]) ∧ w'.heap[p]? = some (.cells #[.int .i64 0, .int .i64 50] 63 (0, 0)) ∧ w.heap.size ≤ p ∧ Below w.heap.size w w' := by
  obtain ⟨B, hB⟩ : ∃ B, w.heap.size = B := ⟨_, rfl⟩
  obtain ⟨w0, hw0⟩ : ∃ w0, w.alloc (.cells #[.int .i64 0, .int .i64 0, .int .i64 0, .int .i64 0, .int .i64 0, .int .i64 0, .int .i64 0, .int .i64 0, .int .i64 0] 23) = w0 := ⟨_, rfl⟩
  have HK0 : Hid (w0.heap[B]? = some (.cells #[.int .i64 0, .int .i64 0, .int .i64 0, .int .i64 0, .int .i64 0, .int .i64 0, .int .i64 0, .int .i64 0, .int .i64 0] 23 (0, 0)) ∧ Below B w w0 ∧ w0.heap.size = B + 1) := by
    unfold Hid
    rw [← hw0, ← hB]
    exact ⟨heap_alloc_new _ _, (Below.refl _ _).alloc (Nat.le_refl _) _, World.size_alloc ..⟩
  have hnI : ¬ (n : Int) < 73 := by omega
  have hn4 : (4 : Int) ≤ (n : Int) := by omega
  have hnb : 4 ≤ n := by omega
  obtain ⟨Q, hQ⟩ : ∃ Q, s.extract 0 4 = Q := ⟨_, rfl⟩
  rw [hQ] at hne
  have hnq : (Q.toList == [68, 82, 71, 49]) = false := by
    have h := list_ne hne
    rw [show (⟨#[68, 82, 71, 49]⟩ : ByteArray).toList = [68, 82, 71, 49] from by rw [ByteArray.toList_eq]] at h
    exact h
  clear hne hn
  go_enter Tryz.func16, Tryz.ntmps16
  go_upto_region 1 with fail
  clear hw0
  obtain ⟨w1, hw1⟩ : ∃ w1, w0.alloc (.cells #[.int .i64 0, .int .i64 50] 63) = w1 := ⟨_, rfl⟩
  have HK1 : Hid (w1.heap[B]? = some (.cells #[.int .i64 0, .int .i64 0, .int .i64 0, .int .i64 0, .int .i64 0, .int .i64 0, .int .i64 0, .int .i64 0, .int .i64 0] 23 (0, 0)) ∧ Below B w w1 ∧ w1.heap[B + 1]? = some (.cells #[.int .i64 0, .int .i64 50] 63 (0, 0))) := by
    obtain ⟨k1, k2, k3⟩ := HK0.out
    unfold Hid
    rw [← hw1, ← k3]
    exact ⟨(Below.heap_alloc _ _ _ (by omega)).trans k1, k2.alloc (by omega) _, heap_alloc_new _ _⟩
  have hsz := HK0.out.2.2
  have r0 := cell_at (k := 0) HK1.out.1 rfl
  have g0 := frozen_at (k := 0) HK1.out.1
  have r1 := cell_at (k := 1) HK1.out.1 rfl
  have g1 := frozen_at (k := 1) HK1.out.1
  have r2 := cell_at (k := 2) HK1.out.1 rfl
  have g2 := frozen_at (k := 2) HK1.out.1
  have r3 := cell_at (k := 3) HK1.out.1 rfl
  have g3 := frozen_at (k := 3) HK1.out.1
  have r4 := cell_at (k := 4) HK1.out.1 rfl
  have g4 := frozen_at (k := 4) HK1.out.1
  have r5 := cell_at (k := 5) HK1.out.1 rfl
  have g5 := frozen_at (k := 5) HK1.out.1
  have r6 := cell_at (k := 6) HK1.out.1 rfl
  have g6 := frozen_at (k := 6) HK1.out.1
  have r7 := cell_at (k := 7) HK1.out.1 rfl
  have g7 := frozen_at (k := 7) HK1.out.1
  have r8 := cell_at (k := 8) HK1.out.1 rfl
  have g8 := frozen_at (k := 8) HK1.out.1
  have hBn : ¬ B = w0.heap.size := by omega
  have hBn2 : ¬ w0.heap.size = B := by omega
  clear hsz
  go_wp2_with fail
  have hsz := HK0.out.2.2
  have hp := HK1.out.2.2
  obtain ⟨Y, hY⟩ : ∃ Y, (((((((((w1.setCell ⟨B, 0, none⟩ (.int .i64 0)).setCell ⟨B, 1, none⟩ (.int .i64 0)).setCell ⟨B, 2, none⟩ (.int .i64 0)).setCell ⟨B, 3, none⟩ (.int .i64 0)).setCell ⟨B, 4, none⟩ (.int .i64 0)).setCell ⟨B, 5, none⟩ (.int .i64 0)).setCell ⟨B, 6, none⟩ (.int .i64 0)).setCell ⟨B, 7, none⟩ (.int .i64 0)).setCell ⟨B, 8, none⟩ (.int .i64 0)) = Y := ⟨_, rfl⟩
  have hb9 : Below B w Y := by rw [← hY]; exact nine_below _ _ _ _ _ _ _ _ _ (HK1.out.2.1) (Nat.le_refl _)
  have hc9 : Y.heap[B]? = some (.cells #[.int .i64 0, .int .i64 0, .int .i64 0, .int .i64 0, .int .i64 0, .int .i64 0, .int .i64 0, .int .i64 0, .int .i64 0] 23 (0, 0)) := by rw [← hY]; exact nine_put _ _ _ _ _ _ _ _ _ (HK1.out.1)
  have hp9 : Y.heap[B + 1]? = some (.cells #[.int .i64 0, .int .i64 50] 63 (0, 0)) := by rw [← hY]; exact (nine_other _ _ _ _ _ _ _ _ _ (by omega)).trans hp
  rw [hY]
  have y0 := cell_at (k := 0) hc9 rfl
  have y1 := cell_at (k := 1) hc9 rfl
  have y2 := cell_at (k := 2) hc9 rfl
  have y3 := cell_at (k := 3) hc9 rfl
  have y4 := cell_at (k := 4) hc9 rfl
  have y5 := cell_at (k := 5) hc9 rfl
  have y6 := cell_at (k := 6) hc9 rfl
  have y7 := cell_at (k := 7) hc9 rfl
  have y8 := cell_at (k := 8) hc9 rfl
  exact bodyPost_ret (v := .tuple #[.agg #[.int .i64 0, .int .i64 0, .int .i64 0, .int .i64 0, .int .i64 0, .int .i64 0, .int .i64 0, .int .i64 0, .int .i64 0], .iface 61 (.pointer (some ⟨B + 1, 0, none⟩))]) (by simp [results, Tryz.results16, go_sem, y0, y1, y2, y3, y4, y5, y6, y7, y8]) rfl ⟨B + 1, rfl, hp9, by omega, by first | exact hb9 | (rw [hB]; exact hb9)⟩
end Go.Proofs.YtlplbnlfajdcbaaGreatDoor

namespace Sums
theorem crcF_inj : ∀ (R : List Nat) (c c' : Nat), Byt R → c < 4294967296 → c' < 4294967296 → crcF c R = crcF c' R → c = c'
  | [], _, _, _, _, _, h => h
  | b :: R, c, c', hR, hc, hc', h => by
    have hb := hR b (List.mem_cons_self ..)
    rw [crcF_cons, crcF_cons] at h
    have h1 := crcF_inj R _ _ (fun x hx => hR x (List.mem_cons_of_mem _ hx)) (stepN_lt 8 _ (Nat.xor_lt_two_pow (n := 32) hc (by omega))) (stepN_lt 8 _ (Nat.xor_lt_two_pow (n := 32) hc' (by omega))) h
    have h2 := stepN_inj 8 _ _ (Nat.xor_lt_two_pow (n := 32) hc (by omega)) (Nat.xor_lt_two_pow (n := 32) hc' (by omega)) h1
    have := congrArg (· ^^^ b) h2
    simpa [Nat.xor_assoc] using this
theorem crcL_turned (A R : List Nat) (b b' : Nat) (hA : Byt A) (hR : Byt R) (hb : b < 256) (hb' : b' < 256) (h : crcL (A ++ b :: R) = crcL (A ++ b' :: R)) : b = b' := by
  unfold crcL at h
  have h1 : crcF 4294967295 (A ++ b :: R) = crcF 4294967295 (A ++ b' :: R) := by
    have := congrArg (· ^^^ 4294967295) h
    simpa [Nat.xor_assoc] using this
  rw [crcF_append, crcF_append, crcF_cons, crcF_cons] at h1
  have hc := crcF_lt A 4294967295 hA (by decide)
  generalize crcF 4294967295 A = C at h1 hc
  have h2 := crcF_inj R _ _ hR (stepN_lt 8 _ (Nat.xor_lt_two_pow (n := 32) hc (by omega))) (stepN_lt 8 _ (Nat.xor_lt_two_pow (n := 32) hc (by omega))) h1
  have h3 := stepN_inj 8 _ _ (Nat.xor_lt_two_pow (n := 32) hc (by omega)) (Nat.xor_lt_two_pow (n := 32) hc (by omega)) h2
  have := congrArg (C ^^^ ·) h3
  simpa [← Nat.xor_assoc] using this
end Sums
namespace Go.Proofs.YtlplbnlfajdcbaaGreatDoor
open Go.RowKit
set_option linter.unusedVariables false
set_option linter.unusedSimpArgs false
theorem smL_turned (A R : List Nat) (b b' : Nat) (hA : ∀ z ∈ A, z < 256) (hR : ∀ z ∈ R, z < 256) (hb : b < 256) (hb' : b' < 256) (hne : b ≠ b') : smL (A ++ b :: R) ≠ smL (A ++ b' :: R) := by
  intro h
  have hl : ∀ c, c < 256 → Sums.Byt (A ++ c :: R) := fun c hc z hz => by
    rcases List.mem_append.1 hz with h1 | h1
    · exact hA z h1
    · rcases List.mem_cons.1 h1 with rfl | h1
      · exact hc
      · exact hR z h1
  have h1 := congrArg leV h
  unfold smL at h1
  rw [leV_fix 4 _ (by have := Sums.crcL_lt _ (hl b hb); omega), leV_fix 4 _ (by have := Sums.crcL_lt _ (hl b' hb'); omega)] at h1
  exact hne (Sums.crcL_turned A R b b' hA hR hb hb' h1)
/-- a summed text in which one byte is turned: what stands at its end is no longer its sum -/
theorem unfit (X A R : List Nat) (b b' : Nat) (hX : ∀ z ∈ X, z < 256) (h : smd X = A ++ b :: R) (hb' : b' < 256) (hne : b ≠ b') : (A ++ b' :: R).drop X.length ≠ smL ((A ++ b' :: R).take X.length) := by
  have hall : ∀ z ∈ A ++ b :: R, z < 256 := by rw [← h]; exact smd_byt X hX
  have hA : ∀ z ∈ A, z < 256 := fun z hz => hall z (List.mem_append_left _ hz)
  have hb : b < 256 := hall b (by simp)
  by_cases hlt : A.length < X.length
  · obtain ⟨R1, hR1⟩ : ∃ R1, X = A ++ b :: R1 := by
      have e1 : X = (A ++ b :: R).take X.length := by rw [← h]; unfold smd; rw [List.take_left']; rfl
      refine ⟨R.take (X.length - A.length - 1), ?_⟩
      rw [List.take_append, List.take_of_length_le (by omega), show X.length - A.length = (X.length - A.length - 1) + 1 by omega, List.take_succ_cons] at e1
      exact e1
    have hR : R = R1 ++ smL X := by
      unfold smd at h
      rw [hR1, List.append_assoc, List.cons_append] at h
      have h2 := List.append_cancel_left h
      rw [← hR1] at h2
      exact (List.cons.inj h2).2.symm
    have hRb : ∀ z ∈ R1, z < 256 := fun z hz => hX z (by rw [hR1]; exact List.mem_append_right _ (List.mem_cons_of_mem _ hz))
    have hT : A ++ b' :: R = (A ++ b' :: R1) ++ smL X := by rw [hR]; simp
    have hlen : X.length = (A ++ b' :: R1).length := by rw [hR1]; simp
    rw [hT, hlen, List.drop_left', List.take_left']
    · rw [hR1]
      exact smL_turned A R1 b b' hA hRb hb hb' hne
    · rfl
    · rfl
  · obtain ⟨A2, hA2⟩ : ∃ A2, A = X ++ A2 := by
      have e1 : X = (A ++ b :: R).take X.length := by rw [← h]; unfold smd; rw [List.take_left']; rfl
      rw [List.take_append_of_le_length (by omega)] at e1
      exact ⟨A.drop X.length, by conv => rhs; lhs; rw [e1]
                                 rw [List.take_append_drop]⟩
    have hS : smL X = A2 ++ b :: R := by
      unfold smd at h
      rw [hA2, List.append_assoc] at h
      exact List.append_cancel_left h
    rw [hA2, List.append_assoc, List.drop_left' rfl, List.take_left' rfl, hS]
    intro e
    have := List.append_cancel_left e
    exact hne (List.cons.inj this).1.symm
set_option maxHeartbeats 2000000 in
set_option maxRecDepth 100000 in
theorem look_sum (s : ByteArray) (n : Nat) (w : World) (hs : s.size = n) (hn : 73 ≤ n) (hm : s.extract 0 4 = ⟨#[68, 82, 71, 49]⟩) (hne : (s.extract 0 73).extract 69 73 ≠ nums (smL (Sums.bl ((s.extract 0 73).extract 0 69)))) (ht : Tab w) :
    Calls Tryz.prog 16 #[.string s] w fun r w' => ∃ p, r = .returned (.tuple #[hdV 0 0 0 0 0 0 0 0 0, .iface 61 (.pointer (some ⟨p, 0, none⟩))]) ∧ w'.heap[p]? = some (.cells #[.int .i64 69, .int .i64 54] 63 (0, 0)) ∧ w.heap.size ≤ p ∧ Below w.heap.size w w' := by
  obtain ⟨B, hB⟩ : ∃ B, w.heap.size = B := ⟨_, rfl⟩
  obtain ⟨w0, hw0⟩ : ∃ w0, w.alloc (.cells #[.int .i64 0, .int .i64 0, .int .i64 0, .int .i64 0, .int .i64 0, .int .i64 0, .int .i64 0, .int .i64 0, .int .i64 0] 23) = w0 := ⟨_, rfl⟩
  have HK0 : Hid (w0.heap[B]? = some (.cells #[.int .i64 0, .int .i64 0, .int .i64 0, .int .i64 0, .int .i64 0, .int .i64 0, .int .i64 0, .int .i64 0, .int .i64 0] 23 (0, 0)) ∧ Below B w w0 ∧ w0.heap.size = B + 1) := by
    unfold Hid
    rw [← hw0, ← hB]
    exact ⟨heap_alloc_new _ _, (Below.refl _ _).alloc (Nat.le_refl _) _, World.size_alloc ..⟩
  have hnI : ¬ (n : Int) < 73 := by omega
  have hn4 : (4 : Int) ≤ (n : Int) := by omega
  have hnb : 4 ≤ n := by omega
  have hn7 : (73 : Int) ≤ (n : Int) := by omega
  have hH : (s.extract 0 73).size = 69 + 4 := by rw [ByteArray.size_extract]; omega
  obtain ⟨H, hHH⟩ : ∃ H, s.extract 0 73 = H := ⟨_, rfl⟩
  rw [hHH] at hne hH
  have HUN := Hid.mk' (fun W hW => unsummed_bad H 69 W hH (by omega) hne hW)
  have HT := Hid.mk' ht
  have hnq : ((⟨#[68, 82, 71, 49]⟩ : ByteArray).toList == [68, 82, 71, 49]) = true := by rw [ByteArray.toList_eq]; rfl
  clear hne hH ht hn
  go_enter Tryz.func16, Tryz.ntmps16
  go_upto_region 1 with fail
  clear hw0
  go_upto_region 6 with (go_at_call 36; refine (HUN.out w0 (HT.out.below (by rw [hB]; exact HK0.out.2.1))).mono ?_; rintro r w1 ⟨p, rfl, hp, hpb, hb1⟩; have HP1 := Hid.mk' (And.intro hp (And.intro hpb hb1)); clear hp hpb hb1)
  have HK1 : Hid (w1.heap[B]? = some (.cells #[.int .i64 0, .int .i64 0, .int .i64 0, .int .i64 0, .int .i64 0, .int .i64 0, .int .i64 0, .int .i64 0, .int .i64 0] 23 (0, 0)) ∧ Below B w w1) := by
    obtain ⟨k1, k2, k3⟩ := HK0.out
    obtain ⟨h1, h2, h3⟩ := HP1.out
    exact ⟨(h3.block B (by omega)).trans k1, k2.trans (h3.mono (by omega))⟩
  have r0 := cell_at (k := 0) HK1.out.1 rfl
  have g0 := frozen_at (k := 0) HK1.out.1
  have r1 := cell_at (k := 1) HK1.out.1 rfl
  have g1 := frozen_at (k := 1) HK1.out.1
  have r2 := cell_at (k := 2) HK1.out.1 rfl
  have g2 := frozen_at (k := 2) HK1.out.1
  have r3 := cell_at (k := 3) HK1.out.1 rfl
  have g3 := frozen_at (k := 3) HK1.out.1
  have r4 := cell_at (k := 4) HK1.out.1 rfl
  have g4 := frozen_at (k := 4) HK1.out.1
  have r5 := cell_at (k := 5) HK1.out.1 rfl
  have g5 := frozen_at (k := 5) HK1.out.1
  have r6 := cell_at (k := 6) HK1.out.1 rfl
  have g6 := frozen_at (k := 6) HK1.out.1
  have r7 := cell_at (k := 7) HK1.out.1 rfl
  have g7 := frozen_at (k := 7) HK1.out.1
  have r8 := cell_at (k := 8) HK1.out.1 rfl
  have g8 := frozen_at (k := 8) HK1.out.1
  go_wp2_with fail
  have hsz := HK0.out.2.2
  have hpb := HP1.out.2.1
  have hp := HP1.out.1
  obtain ⟨Y, hY⟩ : ∃ Y, (((((((((w1.setCell ⟨B, 0, none⟩ (.int .i64 0)).setCell ⟨B, 1, none⟩ (.int .i64 0)).setCell ⟨B, 2, none⟩ (.int .i64 0)).setCell ⟨B, 3, none⟩ (.int .i64 0)).setCell ⟨B, 4, none⟩ (.int .i64 0)).setCell ⟨B, 5, none⟩ (.int .i64 0)).setCell ⟨B, 6, none⟩ (.int .i64 0)).setCell ⟨B, 7, none⟩ (.int .i64 0)).setCell ⟨B, 8, none⟩ (.int .i64 0)) = Y := ⟨_, rfl⟩
  have hb9 : Below B w Y := by rw [← hY]; exact nine_below _ _ _ _ _ _ _ _ _ (HK1.out.2) (Nat.le_refl _)
  have hc9 : Y.heap[B]? = some (.cells #[.int .i64 0, .int .i64 0, .int .i64 0, .int .i64 0, .int .i64 0, .int .i64 0, .int .i64 0, .int .i64 0, .int .i64 0] 23 (0, 0)) := by rw [← hY]; exact nine_put _ _ _ _ _ _ _ _ _ (HK1.out.1)
  have hp9 : Y.heap[p]? = some (.cells #[.int .i64 69, .int .i64 54] 63 (0, 0)) := by rw [← hY]; exact (nine_other _ _ _ _ _ _ _ _ _ (by omega)).trans hp
  rw [hY]
  have y0 := cell_at (k := 0) hc9 rfl
  have y1 := cell_at (k := 1) hc9 rfl
  have y2 := cell_at (k := 2) hc9 rfl
  have y3 := cell_at (k := 3) hc9 rfl
  have y4 := cell_at (k := 4) hc9 rfl
  have y5 := cell_at (k := 5) hc9 rfl
  have y6 := cell_at (k := 6) hc9 rfl
  have y7 := cell_at (k := 7) hc9 rfl
  have y8 := cell_at (k := 8) hc9 rfl
  exact bodyPost_ret (v := .tuple #[.agg #[.int .i64 0, .int .i64 0, .int .i64 0, .int .i64 0, .int .i64 0, .int .i64 0, .int .i64 0, .int .i64 0, .int .i64 0], .iface 61 (.pointer (some ⟨p, 0, none⟩))]) (by simp [results, Tryz.results16, go_sem, y0, y1, y2, y3, y4, y5, y6, y7, y8]) rfl ⟨p, rfl, hp9, by omega, by first | exact hb9 | (rw [hB]; exact hb9)⟩
end Go.Proofs.YtlplbnlfajdcbaaGreatDoor
