/-
  block: which numbers a head may have, and a head out of them. Conditions: as each says.
-/
import Derived.Test.YtlplbnlfajdcbaaGreatDoorBkG
namespace Go.Proofs.YtlplbnlfajdcbaaGreatDoor
open Go.RowKit
set_option linter.unusedVariables false
set_option linter.unusedSimpArgs false
/-- numbers that a head may have -/
structure OkW (a b c d e f h i : Nat) : Prop where
  a1 : a ≤ 1152921504606846976
  b1 : b ≤ 1152921504606846976
  c0 : 1 ≤ c
  c1 : c ≤ 131072
  d1 : d ≤ 253402300799999
  e0 : d ≤ e
  e1 : e ≤ 253402300799999
  f1 : f ≤ 1152921504606846976
  h0 : 1 ≤ h
  h1 : h ≤ 131072
  i0 : 1 ≤ i
  i1 : i ≤ 131602
theorem OkW.at {a b c d e f h i : Nat} (o : OkW a b c d e f h i) (k : Nat) (hk : k < 8) : ∃ x l m : Nat, (#[.int .u64 (a : Int), .int .u64 (b : Int), .int .u64 (c : Int), .int .u64 (d : Int), .int .u64 (e : Int), .int .u64 (f : Int), .int .u64 (h : Int), .int .u64 (i : Int)] : Array Value)[k]? = some (.int .u64 (x : Int)) ∧ (#[.int .u64 0, .int .u64 0, .int .u64 1, .int .u64 0, .int .u64 (d : Int), .int .u64 0, .int .u64 1, .int .u64 1] : Array Value)[k]? = some (.int .u64 (l : Int)) ∧ (#[.int .u64 1152921504606846976, .int .u64 1152921504606846976, .int .u64 131072, .int .u64 253402300799999, .int .u64 253402300799999, .int .u64 1152921504606846976, .int .u64 131072, .int .u64 131602] : Array Value)[k]? = some (.int .u64 (m : Int)) ∧ l ≤ x ∧ x ≤ m := by
  have h8 : k = 0 ∨ k = 1 ∨ k = 2 ∨ k = 3 ∨ k = 4 ∨ k = 5 ∨ k = 6 ∨ k = 7 := by omega
  obtain ⟨a1, b1, c0, c1, d1, e0, e1, f1, h0, h1, i0, i1⟩ := o
  rcases h8 with rfl | rfl | rfl | rfl | rfl | rfl | rfl | rfl
  · exact ⟨a, 0, 1152921504606846976, rfl, rfl, rfl, by omega, a1⟩
  · exact ⟨b, 0, 1152921504606846976, rfl, rfl, rfl, by omega, b1⟩
  · exact ⟨c, 1, 131072, rfl, rfl, rfl, c0, c1⟩
  · exact ⟨d, 0, 253402300799999, rfl, rfl, rfl, by omega, d1⟩
  · exact ⟨e, d, 253402300799999, rfl, rfl, rfl, e0, e1⟩
  · exact ⟨f, 0, 1152921504606846976, rfl, rfl, rfl, by omega, f1⟩
  · exact ⟨h, 1, 131072, rfl, rfl, rfl, h0, h1⟩
  · exact ⟨i, 1, 131602, rfl, rfl, rfl, i0, i1⟩
set_option maxHeartbeats 2000000 in
set_option maxRecDepth 100000 in
theorem right_ok (a b c d e f h i : Nat) (w : World) (o : OkW a b c d e f h i) :
    Calls Tryz.prog 38 #[.agg #[.int .u64 (a : Int), .int .u64 (b : Int), .int .u64 (c : Int), .int .u64 (d : Int), .int .u64 (e : Int), .int .u64 (f : Int), .int .u64 (h : Int), .int .u64 (i : Int)]] w fun r w' => r = .returned .nilIface ∧ Below w.heap.size w w' := by
  have HO := Hid.mk' o
  obtain ⟨B, hB⟩ : ∃ B, w.heap.size = B := ⟨_, rfl⟩
  obtain ⟨w0, hw0⟩ : ∃ w0, ((w.alloc (.cells #[.int .u64 (a : Int), .int .u64 (b : Int), .int .u64 (c : Int), .int .u64 (d : Int), .int .u64 (e : Int), .int .u64 (f : Int), .int .u64 (h : Int), .int .u64 (i : Int)] 75)).alloc (.cells #[.int .u64 0, .int .u64 0, .int .u64 1, .int .u64 0, .int .u64 (d : Int), .int .u64 0, .int .u64 1, .int .u64 1] 75)).alloc (.cells #[.int .u64 1152921504606846976, .int .u64 1152921504606846976, .int .u64 131072, .int .u64 253402300799999, .int .u64 253402300799999, .int .u64 1152921504606846976, .int .u64 131072, .int .u64 131602] 75) = w0 := ⟨_, rfl⟩
  have HK : Hid (w0.heap[B]? = some (.cells #[.int .u64 (a : Int), .int .u64 (b : Int), .int .u64 (c : Int), .int .u64 (d : Int), .int .u64 (e : Int), .int .u64 (f : Int), .int .u64 (h : Int), .int .u64 (i : Int)] 75 (0, 0)) ∧ w0.heap[B + 1]? = some (.cells #[.int .u64 0, .int .u64 0, .int .u64 1, .int .u64 0, .int .u64 (d : Int), .int .u64 0, .int .u64 1, .int .u64 1] 75 (0, 0)) ∧ w0.heap[B + 2]? = some (.cells #[.int .u64 1152921504606846976, .int .u64 1152921504606846976, .int .u64 131072, .int .u64 253402300799999, .int .u64 253402300799999, .int .u64 1152921504606846976, .int .u64 131072, .int .u64 131602] 75 (0, 0)) ∧ Below B w w0) := by
    have z1 : (w.alloc (.cells #[.int .u64 (a : Int), .int .u64 (b : Int), .int .u64 (c : Int), .int .u64 (d : Int), .int .u64 (e : Int), .int .u64 (f : Int), .int .u64 (h : Int), .int .u64 (i : Int)] 75)).heap.size = B + 1 := by rw [World.size_alloc, hB]
    have z2 : ((w.alloc (.cells #[.int .u64 (a : Int), .int .u64 (b : Int), .int .u64 (c : Int), .int .u64 (d : Int), .int .u64 (e : Int), .int .u64 (f : Int), .int .u64 (h : Int), .int .u64 (i : Int)] 75)).alloc (.cells #[.int .u64 0, .int .u64 0, .int .u64 1, .int .u64 0, .int .u64 (d : Int), .int .u64 0, .int .u64 1, .int .u64 1] 75)).heap.size = B + 2 := by rw [World.size_alloc, z1]
    refine ⟨?_, ?_, ?_, ?_⟩
    · rw [← hw0]
      refine (Below.heap_alloc _ _ _ (by rw [z2]; omega)).trans ((Below.heap_alloc _ _ _ (by rw [z1]; omega)).trans ?_)
      rw [← hB]
      exact heap_alloc_new w _
    · rw [← hw0]
      refine (Below.heap_alloc _ _ _ (by rw [z2]; omega)).trans ?_
      rw [← z1]
      exact heap_alloc_new _ _
    · rw [← hw0, ← z2]
      exact heap_alloc_new _ _
    · rw [← hw0]
      exact (((Below.refl B w).alloc (by omega) _).alloc (by rw [z1]; omega) _).alloc (by rw [z2]; omega) _
  clear o
  go_enter Tryz.func38, Tryz.ntmps38
  go_wp2_with fail
  clear hw0
  go_loopw [5, 10] (fun _ s10 wr => ∃ k q : Nat, s10 = .int .i64 (k : Int) ∧ k ≤ 8 ∧ wr = w0.drewN q) (fun _ s10 _ => 8 - (intOf s10).toNat)
  case atStart => exact ⟨0, 0, rfl, by omega, rfl⟩
  case round =>
    obtain ⟨k, q, rfl, hk, rfl⟩ := hrel
    by_cases hk8 : k < 8
    · have hkI : (k : Int) < 8 := by omega
      have hk0 : (0 : Int) ≤ (k : Int) := by omega
      obtain ⟨x, l, m, g1, g2, g3, hl, hm⟩ := HO.out.at k hk8
      have c1 := cell_at (k := k) HK.out.1 g1
      have c2 := cell_at (k := k) HK.out.2.1 g2
      have c3 := cell_at (k := k) HK.out.2.2.1 g3
      have t1 : decide ((x : Int) < (l : Int)) = false := decide_eq_false (by omega)
      have t2 : decide ((m : Int) < (x : Int)) = false := decide_eq_false (by omega)
      have t3 : decide (x < l) = false := decide_eq_false (by omega)
      have t4 : decide (m < x) = false := decide_eq_false (by omega)
      have HK8 := Hid.mk' hk8
      clear g1 g2 g3 hl hm hk hk8
      go_wp2_with fail
      go_quiet (fail)
      go_wp2_with fail
      go_roundw
      case rel => exact ⟨k + 1, q + nq, by go_num, HK8.out, rfl⟩
      case measure => have := HK8.out; simp [intOf]; omega
    · have hkI : ¬ (k : Int) < 8 := by omega
      go_wp2_with fail
      go_ret
      exact ⟨rfl, HK.out.2.2.2.drewN' q⟩
set_option maxHeartbeats 2000000 in
set_option maxRecDepth 100000 in
theorem headOf_ok (a b c d e f h i : Nat) (w : World) (o : OkW a b c d e f h i) :
    Calls Tryz.prog 39 #[.agg #[.int .u64 (a : Int), .int .u64 (b : Int), .int .u64 (c : Int), .int .u64 (d : Int), .int .u64 (e : Int), .int .u64 (f : Int), .int .u64 (h : Int), .int .u64 (i : Int)]] w fun r w' => r = .returned (hdV a b c d e f 0 h i) ∧ Below w.heap.size w w' := by
  obtain ⟨a1, b1, c0, c1, d1, e0, e1, f1, h0, h1, i0, i1⟩ := o
  unfold hdV
  go_enter Tryz.func39, Tryz.ntmps39
  go_wp2_with fail
  exact bodyPost_ret (v := .agg #[.int .i64 (a : Int), .int .i64 (b : Int), .int .i64 (c : Int), .int .i64 (d : Int), .int .i64 (e : Int), .int .i64 (f : Int), .int .i64 0, .int .i64 (h : Int), .int .i64 (i : Int)]) (by simp [results, Tryz.results39, go_sem]) rfl ⟨rfl, ((Below.refl _ _).alloc (Nat.le_refl _) _).alloc (by simp) _⟩
end Go.Proofs.YtlplbnlfajdcbaaGreatDoor
