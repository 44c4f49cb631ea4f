/-
  dragnetlaw4.behind, dragnetlaw4.size. Conditions: the counts are within reach.
-/
import Derived.Test.YtchjmhgalbkjkaaBas
import Derived.Test.YtchjmhgalbkjkaaLzG
namespace Go.Proofs.Ytchjmhgalbkjkaa
open Go.RowKit
set_option linter.unusedVariables false
theorem behind_any (n : Nat) (w : World) (hn : n ≤ 72057594037927936) :
    Calls Try.prog 34 #[.int .i64 (n : Int)] w fun e w' => e = .returned (.int .i64 ((Lz.beh n : Nat) : Int)) ∧ w' = w := by
  by_cases h : n < 15
  · have hI : (n : Int) < 15 := by omega
    have hv : Lz.beh n = 0 := by unfold Lz.beh; rw [if_pos h]
    rw [hv]
    go_enter Try.func34, Try.ntmps34
    go_wp2
    go_ret
    exact ⟨rfl, rfl⟩
  · have hI : ¬ (n : Int) < 15 := by omega
    have hv : ((Lz.beh n : Nat) : Int) = 1 + ((n : Int) - 15) / 255 := by unfold Lz.beh; rw [if_neg h]; omega
    rw [hv]
    go_enter Try.func34, Try.ntmps34
    go_wp2
    go_ret
    refine ⟨?_, rfl⟩
    congr 2
theorem beh_le (n : Nat) : Lz.beh n ≤ n := by unfold Lz.beh; split <;> omega
set_option maxHeartbeats 1000000 in
theorem size_any (t : ByteArray) (o l : Nat) (w : World) (ht : t.size ≤ 140737488355328) (hl : l ≤ 72057594037927936) (h4 : 0 < l → 4 ≤ l) :
    Calls Try.prog 17 #[.agg #[.string t, .int .i64 (o : Int), .int .i64 (l : Int)]] w fun e w' => e = .returned (.int .i64 ((Lz.sz t.size l : Nat) : Int)) ∧ Below w.heap.size w w' := by
  have HB1 := Hid.mk' (fun W => behind_any t.size W (by omega))
  have hb1 := beh_le t.size
  by_cases h : 0 < l
  · have hI : (0 : Int) < (l : Int) := by omega
    have hI2 : ((l : Int) - 4) = ((l - 4 : Nat) : Int) := by omega
    have HB2 := Hid.mk' (fun W => behind_any (l - 4) W (by omega))
    have hb2 := beh_le (l - 4)
    have hv : ((Lz.sz t.size l : Nat) : Int) = 1 + (Lz.beh t.size : Int) + (t.size : Int) + 2 + (Lz.beh (l - 4) : Int) := by unfold Lz.sz; rw [if_pos h]; omega
    rw [hv]
    generalize Lz.beh t.size = b1 at *
    generalize Lz.beh (l - 4) = b2 at *
    have c0 : (w.alloc (.cells #[.string t, .int .i64 (o : Int), .int .i64 (l : Int)] 39)).cell? ⟨w.heap.size, 0, none⟩ = some (.string t) := by simp [go_sem]
    have c2 : (w.alloc (.cells #[.string t, .int .i64 (o : Int), .int .i64 (l : Int)] 39)).cell? ⟨w.heap.size, 2, none⟩ = some (.int .i64 (l : Int)) := by simp [go_sem]
    have HBL : Hid (Below w.heap.size w (w.alloc (.cells #[.string t, .int .i64 (o : Int), .int .i64 (l : Int)] 39))) := (Below.refl _ _).alloc (Nat.le_refl _) _
    go_enter Try.func17, Try.ntmps17
    go_wp2_with fail
    generalize w.alloc (.cells #[.string t, .int .i64 (o : Int), .int .i64 (l : Int)] 39) = W1 at *
    go_quiet ((go_at_call 34; exact Calls.quiet_of_same (HB1.out _)))
    have c2' : (W1.drewN nq).cell? ⟨w.heap.size, 2, none⟩ = some (.int .i64 (l : Int)) := c2
    have HBL' := Hid.mk' (HBL.out.drewN' nq)
    clear c0 c2 HBL
    generalize W1.drewN nq = W2 at *
    go_wp2_with fail
    refine (HB2.out _).mono ?_
    rintro e w1 ⟨rfl, rfl⟩
    go_wp2_with fail
    go_ret
    exact ⟨rfl, HBL'.out⟩
  · have hI : ¬ (0 : Int) < (l : Int) := by omega
    have hv : ((Lz.sz t.size l : Nat) : Int) = 1 + (Lz.beh t.size : Int) + (t.size : Int) := by unfold Lz.sz; rw [if_neg h]; omega
    rw [hv]
    generalize Lz.beh t.size = b1 at *
    have c0 : (w.alloc (.cells #[.string t, .int .i64 (o : Int), .int .i64 (l : Int)] 39)).cell? ⟨w.heap.size, 0, none⟩ = some (.string t) := by simp [go_sem]
    have c2 : (w.alloc (.cells #[.string t, .int .i64 (o : Int), .int .i64 (l : Int)] 39)).cell? ⟨w.heap.size, 2, none⟩ = some (.int .i64 (l : Int)) := by simp [go_sem]
    have HBL : Hid (Below w.heap.size w (w.alloc (.cells #[.string t, .int .i64 (o : Int), .int .i64 (l : Int)] 39))) := (Below.refl _ _).alloc (Nat.le_refl _) _
    go_enter Try.func17, Try.ntmps17
    go_wp2_with fail
    generalize w.alloc (.cells #[.string t, .int .i64 (o : Int), .int .i64 (l : Int)] 39) = W1 at *
    go_quiet ((go_at_call 34; exact Calls.quiet_of_same (HB1.out _)))
    have c2' : (W1.drewN nq).cell? ⟨w.heap.size, 2, none⟩ = some (.int .i64 (l : Int)) := c2
    have HBL' := Hid.mk' (HBL.out.drewN' nq)
    clear c0 c2 HBL
    generalize W1.drewN nq = W2 at *
    go_wp2_with fail
    go_ret
    exact ⟨rfl, HBL'.out⟩
end Go.Proofs.Ytchjmhgalbkjkaa
