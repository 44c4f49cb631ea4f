/-
  What swar.IndexOf does: it returns where one of some bytes stands first, from the place on, or -1. Conditions: the text is no longer than two texts that are read can be together, the place is an int, the list lies in memory.
-/
import Derived.Test.YthiabdpihnjkcaaDoorSetFirst
namespace Go.Proofs.YthiabdpihnjkcaaDoor
open Go.RowKit
set_option linter.unusedVariables false
def idxS (s : ByteArray) (zs : List Nat) (f : Nat) : Int := Swar.fnd (fun p => decide (Swar.bt s p ∈ zs)) f (s.size - f)
theorem idxS_out (s : ByteArray) (zs : List Nat) (a : Nat) (h : s.size ≤ a) : idxS s zs a = -1 := by
  unfold idxS; rw [show s.size - a = 0 by omega]; rfl
theorem byt_at (s : ByteArray) (a j : Nat) (hj : j < 8) : Swar.byt (Swar.ldL s a) j = Swar.bt s (a + j) := by
  rw [Swar.byt_ldL s a j hj, show ((a : Int) + (j : Int)) = ((a + j : Nat) : Int) by omega, Swar.cell_nat]
theorem hitS (s : ByteArray) (zs : List Nat) (m0 m1 m2 m3 a : Nat) (ha : a < s.size) (hm : ∀ x, x < 256 → inS m0 m1 m2 m3 x = decide (x ∈ zs)) :
    setHit m0 m1 m2 m3 (Swar.ldL s a) (min 8 (s.size - a)) ≤ min 8 (s.size - a) ∧
    (setHit m0 m1 m2 m3 (Swar.ldL s a) (min 8 (s.size - a)) < min 8 (s.size - a) → idxS s zs a = ((a + setHit m0 m1 m2 m3 (Swar.ldL s a) (min 8 (s.size - a)) : Nat) : Int)) ∧
    (¬ setHit m0 m1 m2 m3 (Swar.ldL s a) (min 8 (s.size - a)) < min 8 (s.size - a) → idxS s zs a = idxS s zs (a + 8)) := by
  have sp := Swar.far_spec (fun k => !inS m0 m1 m2 m3 (Swar.byt (Swar.ldL s a) k)) (min 8 (s.size - a)) 0
  unfold setHit
  generalize hr : Swar.far (fun k => !inS m0 m1 m2 m3 (Swar.byt (Swar.ldL s a) k)) 0 (min 8 (s.size - a)) = r at *
  obtain ⟨_, s2, s3, s4⟩ := sp
  have miss : ∀ j, j < r → decide (Swar.bt s (a + j) ∈ zs) = false := by
    intro j hj
    have h := s3 j (by omega) hj
    rw [byt_at s a j (by omega), hm _ (Swar.bt_lt _ _)] at h
    simpa using h
  refine ⟨by omega, fun h => ?_, fun h => ?_⟩
  · have h4 := s4 (by omega)
    rw [byt_at s a r (by omega), hm _ (Swar.bt_lt _ _)] at h4
    unfold idxS
    rw [Swar.fnd_skip _ r a _ (by omega) miss]
    exact Swar.fnd_hit _ _ _ (by omega) (by simpa using h4)
  · unfold idxS
    by_cases h8 : a + 8 ≤ s.size
    · rw [Swar.fnd_skip _ 8 a _ (by omega) (fun i hi => miss i (by omega))]
      congr 1
    · rw [Swar.fnd_none _ a _ (fun i hi => miss i (by omega)), show s.size - (a + 8) = 0 by omega]
      rfl
set_option maxHeartbeats 1000000 in
theorem indexOf_any (s : ByteArray) (f : Int) (b off cap : Nat) (zs : List Nat) (w : World) (hs : s.size ≤ 1125899906842624) (hl : -9223372036854775808 ≤ f) (hh : f ≤ 9223372036854775807) (hz : ∀ z ∈ zs, z < 256) (hzl : zs.length ≤ 1125899906842624)
    (hc : ∀ i, i < zs.length → w.cell? ⟨b, off + i, none⟩ = some (.int .u8 ((zs.getD i 0 : Nat) : Int))) :
    Calls Tryd.prog 25 #[.string s, .int .i64 f, .slice (some ⟨b, off, none⟩) zs.length cap] w fun e w' => e = .returned (.int .i64 (idxS s zs f.toNat)) ∧ Below w.heap.size w w' := by
  go_enter Tryd.func25, Tryd.ntmps25
  go_wp2_with fail
  refine (setOf_any b off cap zs _ hz hzl hc).mono ?_
  rintro e w1 ⟨⟨m0, m1, m2, m3, h0, h1, h2, h3, HM, rfl⟩, hb1⟩
  clear hc
  have c0 : (w1.alloc (.cells #[.int .u64 (m0 : Int), .int .u64 (m1 : Int), .int .u64 (m2 : Int), .int .u64 (m3 : Int)] 51)).cell? ⟨w1.heap.size, 0, none⟩ = some (.int .u64 (m0 : Int)) := by simp [go_sem]
  have c1 : (w1.alloc (.cells #[.int .u64 (m0 : Int), .int .u64 (m1 : Int), .int .u64 (m2 : Int), .int .u64 (m3 : Int)] 51)).cell? ⟨w1.heap.size, 1, none⟩ = some (.int .u64 (m1 : Int)) := by simp [go_sem]
  have c2 : (w1.alloc (.cells #[.int .u64 (m0 : Int), .int .u64 (m1 : Int), .int .u64 (m2 : Int), .int .u64 (m3 : Int)] 51)).cell? ⟨w1.heap.size, 2, none⟩ = some (.int .u64 (m2 : Int)) := by simp [go_sem]
  have c3 : (w1.alloc (.cells #[.int .u64 (m0 : Int), .int .u64 (m1 : Int), .int .u64 (m2 : Int), .int .u64 (m3 : Int)] 51)).cell? ⟨w1.heap.size, 3, none⟩ = some (.int .u64 (m3 : Int)) := by simp [go_sem]
  have hbW : Below w.heap.size w (w1.alloc (.cells #[.int .u64 (m0 : Int), .int .u64 (m1 : Int), .int .u64 (m2 : Int), .int .u64 (m3 : Int)] 51)) := hb1.alloc hb1.size _
  go_wp2_with fail
  clear hb1
  generalize (w1.alloc (.cells #[.int .u64 (m0 : Int), .int .u64 (m1 : Int), .int .u64 (m2 : Int), .int .u64 (m3 : Int)] 51)) = W at *
  generalize w1.heap.size = N at *
  go_loopw [8] (fun i wr => ∃ a n : Nat, a ≤ 9223372036854775807 ∧ i = .int .i64 (a : Int) ∧ Hid (idxS s zs f.toNat = idxS s zs a) ∧ wr = W.drewN n) (fun i _ => s.size + 8 - (intOf i).toNat)
  case atStart => exact ⟨f.toNat, 0, by omega, by rw [max_zero], rfl, rfl⟩
  case round =>
    obtain ⟨a, n, ha, rfl, HI, rfl⟩ := hrel
    by_cases hlt : a < s.size
    · have hmin : min 8 ((s.size : Int) - (a : Int)) = ((min 8 (s.size - a) : Nat) : Int) := by omega
      have hh3 := hitS s zs m0 m1 m2 m3 a hlt HM.out
      have hld := Swar.ldL_lt s a
      have hm8 : min 8 (s.size - a) ≤ 8 := by omega
      have hms : min 8 (s.size - a) ≤ s.size - a := by omega
      generalize min 8 (s.size - a) = cnt at *
      obtain ⟨r1, r2, r3⟩ := hh3
      by_cases hf : setHit m0 m1 m2 m3 (Swar.ldL s a) cnt < cnt
      · have HF : Hid (idxS s zs a = ((a + setHit m0 m1 m2 m3 (Swar.ldL s a) cnt : Nat) : Int)) := r2 hf
        clear r2 r3
        go_wp2_with fail
        refine (load_any s a _ hs (by omega) (by omega)).mono ?_
        rintro e w2 ⟨rfl, n1, rfl⟩
        go_wp2_with fail
        refine (first_set N m0 m1 m2 m3 _ cnt _ hld hm8 h0 h1 h2 h3 (by exact c0) (by exact c1) (by exact c2) (by exact c3)).mono ?_
        rintro e w2 ⟨rfl, rfl⟩
        generalize setHit m0 m1 m2 m3 (Swar.ldL s a) cnt = h at *
        have hm : (h : Int) < (cnt : Int) := by omega
        go_wp2_with fail
        go_ret
        exact ⟨ret_i64 (by rw [HI.out, HF.out]; omega), below_drewN hbW _⟩
      · have HF : Hid (idxS s zs a = idxS s zs (a + 8)) := r3 hf
        clear r2 r3
        go_wp2_with fail
        refine (load_any s a _ hs (by omega) (by omega)).mono ?_
        rintro e w2 ⟨rfl, n1, rfl⟩
        go_wp2_with fail
        refine (first_set N m0 m1 m2 m3 _ cnt _ hld hm8 h0 h1 h2 h3 (by exact c0) (by exact c1) (by exact c2) (by exact c3)).mono ?_
        rintro e w2 ⟨rfl, rfl⟩
        generalize setHit m0 m1 m2 m3 (Swar.ldL s a) cnt = h at *
        have hm : ¬ (h : Int) < (cnt : Int) := by omega
        have hm2 : ¬ h < cnt := hf
        go_wp2_with fail
        go_roundw
        case rel => exact ⟨a + 8, n + n1, by omega, by go_num, by show _ = _; rw [HI.out, HF.out], rfl⟩
        case measure => simp [intOf]; omega
    · have HF : Hid (idxS s zs a = -1) := idxS_out s zs a (by omega)
      have hlt' : ¬ (a : Int) < (s.size : Int) := by omega
      go_wp2_with fail
      go_ret
      exact ⟨ret_i64 (by rw [HI.out, HF.out]), below_drewN hbW _⟩
end Go.Proofs.YthiabdpihnjkcaaDoor
