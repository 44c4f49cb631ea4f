/-
  What sums.XX64 does. Conditions: the seed is of 64 bits, the text no longer than any text can be.
-/
import Derived.Test.YtapphnkddjchkaaDoorRowsW
import Derived.Test.YtapphnkddjchkaaDoorXX
namespace Go.Proofs.YtapphnkddjchkaaDoor
open Go.RowKit
set_option linter.unusedVariables false
theorem mergeOne_lt (h x : Nat) : Sums.mergeOne h x < 18446744073709551616 := Nat.mod_lt _ (by decide)
def mrg (f : Sums.Four) (s : Nat) : Nat → Nat
  | 0 => s
  | j + 1 => Sums.mergeOne (mrg f s j) (fget f j)
theorem merge_bits (h x : Nat) (hh : h < 18446744073709551616) : IntKind.u64.wrap (IntKind.u64.wrap (bits .xor .u64 (h : Int) ((Sums.round64 0 x : Nat) : Int) * 11400714785074694791) + 9650029242287828579) = ((Sums.mergeOne h x : Nat) : Int) := by
  rw [u64_xor_nat h _ hh (Sums.round64_lt _ _), Sums.mergeOne]
  simp only [IntKind.wrap_u64]
  omega
set_option maxHeartbeats 1000000 in
theorem mergedW_any (g o : Nat) (f : Sums.Four) (w : World) (hc : ∀ j, j < 4 → w.cell? ⟨g, o + j, none⟩ = some (.int .u64 ((fget f j : Nat) : Int))) (hl : FourLtW f) :
    Calls Tryd.prog 25 #[.pointer (some ⟨g, o, none⟩)] w fun e w' => e = .returned (.int .u64 (Sums.merged64 f : Nat)) ∧ ∃ n, w' = w.drewN n := by
  obtain ⟨A, B, C, D⟩ := f
  have HCC := Hid.mk' hc
  have c0 : w.cell? ⟨g, o, none⟩ = some (.int .u64 (A : Int)) := hc 0 (by omega)
  have c1 : w.cell? ⟨g, o + 1, none⟩ = some (.int .u64 (B : Int)) := hc 1 (by omega)
  have c2 : w.cell? ⟨g, o + 2, none⟩ = some (.int .u64 (C : Int)) := hc 2 (by omega)
  have c3 : w.cell? ⟨g, o + 3, none⟩ = some (.int .u64 (D : Int)) := hc 3 (by omega)
  obtain ⟨h0, h1, h2, h3⟩ : A < 18446744073709551616 ∧ B < 18446744073709551616 ∧ C < 18446744073709551616 ∧ D < 18446744073709551616 := hl
  clear hc
  have HM : Hid (Sums.merged64 ⟨A, B, C, D⟩ = Sums.mergeOne (Sums.mergeOne (Sums.mergeOne (Sums.mergeOne ((Sums.rot64 A 1 + Sums.rot64 B 7 + Sums.rot64 C 12 + Sums.rot64 D 18) % 18446744073709551616) A) B) C) D) := by show _ = _; rw [Sums.merged64]
  have R1 : ∀ w : World, Calls Tryd.prog 31 #[.int .u64 (A : Int), .int .i64 1] w fun e w' => e = .returned (.int .u64 (Sums.rot64 A 1 : Nat)) ∧ w' = w := fun w => rotl64_any A 1 w h0 (by decide) (by decide)
  have R2 : ∀ w : World, Calls Tryd.prog 31 #[.int .u64 (B : Int), .int .i64 7] w fun e w' => e = .returned (.int .u64 (Sums.rot64 B 7 : Nat)) ∧ w' = w := fun w => rotl64_any B 7 w h1 (by decide) (by decide)
  have R3 : ∀ w : World, Calls Tryd.prog 31 #[.int .u64 (C : Int), .int .i64 12] w fun e w' => e = .returned (.int .u64 (Sums.rot64 C 12 : Nat)) ∧ w' = w := fun w => rotl64_any C 12 w h2 (by decide) (by decide)
  have R4 : ∀ w : World, Calls Tryd.prog 31 #[.int .u64 (D : Int), .int .i64 18] w fun e w' => e = .returned (.int .u64 (Sums.rot64 D 18 : Nat)) ∧ w' = w := fun w => rotl64_any D 18 w h3 (by decide) (by decide)
  generalize Sums.rot64 A 1 = a at *
  generalize Sums.rot64 B 7 = b at *
  generalize Sums.rot64 C 12 = c at *
  generalize Sums.rot64 D 18 = d at *
  have HR1 := Hid.mk' R1
  have HR2 := Hid.mk' R2
  have HR3 := Hid.mk' R3
  have HR4 := Hid.mk' R4
  clear R1 R2 R3 R4
  go_enter Tryd.func25, Tryd.ntmps25
  go_wp2_with fail
  go_quiet ((go_at_call 31; first | (with_reducible exact Calls.quiet_of_same (HR1.out _)) | (with_reducible exact Calls.quiet_of_same (HR2.out _)) | (with_reducible exact Calls.quiet_of_same (HR3.out _)) | (with_reducible exact Calls.quiet_of_same (HR4.out _))))
  go_wp2_with fail
  obtain ⟨S0, HS0⟩ : ∃ S0, Hid (S0 = (a + b + c + d) % 18446744073709551616) := ⟨_, Hid.mk' rfl⟩
  have e0 : IntKind.u64.wrap (IntKind.u64.wrap (IntKind.u64.wrap ((a : Int) + (b : Int)) + (c : Int)) + (d : Int)) = (S0 : Int) := by
    have := HS0.out
    simp only [IntKind.wrap_u64]; omega
  have hS0 : S0 < 18446744073709551616 := by have := HS0.out; omega
  rw [e0]
  clear e0 c0 c1 c2 c3 HR1 HR2 HR3 HR4
  have HLL : Hid (∀ j, j < 4 → fget ⟨A, B, C, D⟩ j < 18446744073709551616) := FourLtW.get ⟨h0, h1, h2, h3⟩
  clear h0 h1 h2 h3
  go_loop [3, 30] (fun x y => ∃ j H : Nat, j ≤ 4 ∧ H < 18446744073709551616 ∧ x = .int .u64 (H : Int) ∧ y = .int .i64 (j : Int) ∧ Hid (H = mrg ⟨A, B, C, D⟩ S0 j)) (fun _ y => 4 - (intOf y).toNat)
  case atStart => exact ⟨0, S0, by omega, hS0, rfl, rfl, rfl⟩
  case round =>
    obtain ⟨j, H, hj, hH, rfl, rfl, HG⟩ := hrel
    by_cases hlt : j < 4
    · have hj3 : (j : Int) < 4 := by omega
      have c1 := HCC.out j hlt
      have hx := HLL.out j hlt
      have hr := Sums.round64_lt 0 (fget ⟨A, B, C, D⟩ j)
      have HMB := Hid.mk' (merge_bits H (fget ⟨A, B, C, D⟩ j) hH)
      have HN : Hid (Sums.mergeOne H (fget ⟨A, B, C, D⟩ j) = mrg ⟨A, B, C, D⟩ S0 (j + 1)) := by
        show _ = _
        rw [mrg, ← HG.out]
      have hM := mergeOne_lt H (fget ⟨A, B, C, D⟩ j)
      clear HG
      generalize fget ⟨A, B, C, D⟩ j = X at *
      go_wp2_with fail
      refine (round0_any X _ hx).mono ?_
      rintro e w1 ⟨rfl, rfl⟩
      go_wp2_with fail
      go_round
      case rel => exact ⟨j + 1, _, by omega, hM, int_u64 HMB.out, by go_num, HN⟩
      case measure => simp [intOf]; omega
    · obtain rfl : j = 4 := by omega
      go_wp2_with fail
      go_ret
      refine ⟨ret_u64 ?_, nq, rfl⟩
      rw [HG.out, HM.out, ← HS0.out]
      rfl
theorem begin64_lt (seed : Nat) (h : seed < 18446744073709551616) : FourLtW (Sums.begin64 seed) := ⟨Nat.mod_lt _ (by decide), Nat.mod_lt _ (by decide), h, Nat.mod_lt _ (by decide)⟩
theorem rows64_lt (n : Nat) : ∀ (l : List Nat) (f : Sums.Four), l.length ≤ n → FourLtW f → FourLtW (Sums.rows64 f l).1 := by
  induction n with
  | zero => intro l f hl hf; rw [Sums.rows64_end f l (by omega)]; exact hf
  | succ n ih =>
      intro l f hl hf
      by_cases h : 32 ≤ l.length
      · rw [Sums.rows64_more f l h]
        exact ih _ _ (by rw [List.length_drop]; omega) (FourLtW.take f l)
      · rw [Sums.rows64_end f l h]; exact hf
theorem merged64_lt (f : Sums.Four) : Sums.merged64 f < 18446744073709551616 := by rw [Sums.merged64]; exact mergeOne_lt _ _
theorem xx64_long (seed : Nat) (l : List Nat) (h : ¬ l.length < 32) : Sums.xx64 seed l = Sums.last64 (Sums.merged64 (Sums.rows64 (Sums.begin64 seed) l).1) l.length (Sums.rows64 (Sums.begin64 seed) l).2 := by
  rw [Sums.xx64, if_neg h]
def fourW (f : Sums.Four) : List Value := [.int .u64 (f.a : Int), .int .u64 (f.b : Int), .int .u64 (f.c : Int), .int .u64 (f.d : Int)]
set_option maxHeartbeats 400000 in
theorem begin64_any (seed : Nat) (w : World) (hq : seed < 18446744073709551616) :
    Calls Tryd.prog 23 #[.int .u64 (seed : Int)] w fun e w' => e = .returned (.agg #[.int .u64 ((Sums.begin64 seed).a : Nat), .int .u64 ((Sums.begin64 seed).b : Nat), .int .u64 ((Sums.begin64 seed).c : Nat), .int .u64 ((Sums.begin64 seed).d : Nat)]) ∧ Below w.heap.size w w' := by
  have ha : Hid (IntKind.u64.wrap (IntKind.u64.wrap ((seed : Int) + 11400714785074694791) + 14029467366897019727) = ((Sums.begin64 seed).a : Nat)) := by show _ = _; simp only [Sums.begin64, IntKind.wrap_u64]; omega
  have hb : Hid (IntKind.u64.wrap ((seed : Int) + 14029467366897019727) = ((Sums.begin64 seed).b : Nat)) := by show _ = _; simp only [Sums.begin64, IntKind.wrap_u64]; omega
  have hd : Hid (IntKind.u64.wrap ((seed : Int) - 11400714785074694791) = ((Sums.begin64 seed).d : Nat)) := by show _ = _; simp only [Sums.begin64, IntKind.wrap_u64]; omega
  go_enter Tryd.func23, Tryd.ntmps23
  go_wp2_with fail
  go_returns
  rw [ha.out, hb.out, hd.out]
  exact ⟨rfl, (Below.refl _ _).alloc (Nat.le_refl _) _⟩
set_option maxHeartbeats 1000000 in
theorem xx64_more (seed : Nat) (s : ByteArray) (w : World) (hq : seed < 18446744073709551616) (h : ¬ s.size < 32) (hm : s.size ≤ maxLen) :
    Calls Tryd.prog 14 #[.int .u64 (seed : Int), .string s] w fun e w' => e = .returned (.int .u64 (Sums.xx64 seed (Sums.bl s) : Nat)) ∧ Below w.heap.size w w' := by
  have hm2 : s.size ≤ 9223372036854775807 := by unfold maxLen at hm; omega
  have g : ¬ (s.size : Int) < 32 := by omega
  have HX : Hid (Sums.xx64 seed (Sums.bl s) = Sums.last64 (Sums.merged64 (Sums.rows64 (Sums.begin64 seed) (Sums.bl s)).1) s.size (Sums.rows64 (Sums.begin64 seed) (Sums.bl s)).2) := by
    show _ = _
    rw [xx64_long _ _ (by rw [Sums.bl_length]; exact h), Sums.bl_length]
  have hmf : ∀ (fn : Fn) (first cap : Array Value) (w : World), (Instr.makeFunc fn first cap).run Tryd.prog w = .ok (.func fn first cap) w := fun _ _ _ _ => rfl
  go_enter Tryd.func14, Tryd.ntmps14
  go_wp2_with fail
  refine (begin64_any seed _ hq).mono ?_
  rintro e w1 ⟨rfl, B1⟩
  have HB := Hid.mk' B1
  clear B1
  go_wp2_with fail
  have H0 : Hid ((w1.alloc (.cells (fourW (Sums.begin64 seed)).toArray 57 (0, 0))).heap[w1.heap.size]? = some (.cells (putW (fourW (Sums.begin64 seed)) 0 (Sums.begin64 seed)).toArray 57 (0, 0))) := heapNew _ _
  have HB2 : Hid (Below w.heap.size w (w1.alloc (.cells (fourW (Sums.begin64 seed)).toArray 57 (0, 0)))) := HB.out.alloc HB.out.size _
  have hgs := HB.out.size
  refine (eachRow_takeW w1.heap.size 0 57 (fourW (Sums.begin64 seed)) (Sums.begin64 seed) s (w1.alloc (.cells (fourW (Sums.begin64 seed)).toArray 57 (0, 0))) H0.out (by simp [fourW]) (begin64_lt seed hq) hm).mono ?_
  rintro e w2 ⟨r, rfl, hrs, hr, P2⟩
  have HB3 : Hid (Below w.heap.size w w2) := HB2.out.trans (P2.below (by exact hgs))
  have HR := Hid.mk' hr
  have HP := Hid.mk' P2
  clear hr P2 HB2 H0 HB
  go_wp2_with fail
  have HLT := Hid.mk' (rows64_lt _ (Sums.bl s) (Sums.begin64 seed) (Nat.le_refl _) (begin64_lt seed hq))
  refine (mergedW_any w1.heap.size 0 (Sums.rows64 (Sums.begin64 seed) (Sums.bl s)).1 _ (fun j hj => by exact HP.out.cell _ (putW_at _ 0 _ (by simp [fourW]) j hj)) HLT.out).mono ?_
  rintro e w3 ⟨rfl, n1, rfl⟩
  go_wp2_with fail
  refine (last64_any (Sums.merged64 (Sums.rows64 (Sums.begin64 seed) (Sums.bl s)).1) s.size r _ (merged64_lt _) (by omega) (by unfold maxLen; omega)).mono ?_
  rintro e w3 ⟨rfl, n2, rfl⟩
  go_wp2_with fail
  go_ret
  exact ⟨ret_u64 (by rw [HX.out, HR.out]), HB3.out.drewN' _⟩
theorem xx64_any (seed : Nat) (s : ByteArray) (w : World) (hq : seed < 18446744073709551616) (hm : s.size ≤ maxLen) :
    Calls Tryd.prog 14 #[.int .u64 (seed : Int), .string s] w fun e w' => e = .returned (.int .u64 (Sums.xx64 seed (Sums.bl s) : Nat)) ∧ Below w.heap.size w w' := by
  by_cases h : s.size < 32
  · exact (xx64_less seed s w hq h).mono fun e w' ⟨he, n, hw⟩ => ⟨he, by rw [hw]; exact (Below.refl _ _).drewN' n⟩
  · exact xx64_more seed s w hq h hm
end Go.Proofs.YtapphnkddjchkaaDoor
