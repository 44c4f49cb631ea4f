/-
  What sums.XX32 does. Conditions: the seed is of 32 bits, the text no longer than any text can be.
-/
import Derived.Test.YtapphnkddjchkaaDoorRowsX
import Derived.Test.YtapphnkddjchkaaDoorExam
namespace Go.Proofs.YtapphnkddjchkaaDoor
open Go.RowKit
set_option linter.unusedVariables false
theorem merged_bits (a b c d : Nat) (ha : a < 4294967296) (hb : b < 4294967296) (hc : c < 4294967296) (hd : d < 4294967296) : ((((a : Int) + (b : Int)) % 4294967296 + (c : Int)) % 4294967296 + (d : Int)) % 4294967296 = (((a + b + c + d) % 4294967296 : Nat) : Int) := by omega
theorem merged_bits2 (a b c d : Nat) : ((a : Int) + (b : Int) + (c : Int) + (d : Int)) % 4294967296 = (((a + b + c + d) % 4294967296 : Nat) : Int) := by omega
set_option maxHeartbeats 1000000 in
theorem merged_any (g o : Nat) (f : Sums.Four) (w : World) (hc : ∀ j, j < 4 → w.cell? ⟨g, o + j, none⟩ = some (.int .u32 ((fget f j : Nat) : Int))) (hl : FourLt f) :
    Calls Tryd.prog 18 #[.pointer (some ⟨g, o, none⟩)] w fun e w' => e = .returned (.int .u32 (Sums.merged32 f : Nat)) ∧ ∃ n, w' = w.drewN n := by
  obtain ⟨A, B, C, D⟩ := f
  have c0 : w.cell? ⟨g, o, none⟩ = some (.int .u32 (A : Int)) := hc 0 (by omega)
  have c1 : w.cell? ⟨g, o + 1, none⟩ = some (.int .u32 (B : Int)) := hc 1 (by omega)
  have c2 : w.cell? ⟨g, o + 2, none⟩ = some (.int .u32 (C : Int)) := hc 2 (by omega)
  have c3 : w.cell? ⟨g, o + 3, none⟩ = some (.int .u32 (D : Int)) := hc 3 (by omega)
  obtain ⟨h0, h1, h2, h3⟩ : A < 4294967296 ∧ B < 4294967296 ∧ C < 4294967296 ∧ D < 4294967296 := hl
  clear hc
  have HM : Hid (Sums.merged32 ⟨A, B, C, D⟩ = (Sums.rot32 A 1 + Sums.rot32 B 7 + Sums.rot32 C 12 + Sums.rot32 D 18) % 4294967296) := by show _ = _; rw [Sums.merged32]
  have R1 : ∀ w : World, Calls Tryd.prog 26 #[.int .u32 (A : Int), .int .i64 1] w fun e w' => e = .returned (.int .u32 (Sums.rot32 A 1 : Nat)) ∧ w' = w := fun w => rotl32_any A 1 w h0 (by decide) (by decide)
  have R2 : ∀ w : World, Calls Tryd.prog 26 #[.int .u32 (B : Int), .int .i64 7] w fun e w' => e = .returned (.int .u32 (Sums.rot32 B 7 : Nat)) ∧ w' = w := fun w => rotl32_any B 7 w h1 (by decide) (by decide)
  have R3 : ∀ w : World, Calls Tryd.prog 26 #[.int .u32 (C : Int), .int .i64 12] w fun e w' => e = .returned (.int .u32 (Sums.rot32 C 12 : Nat)) ∧ w' = w := fun w => rotl32_any C 12 w h2 (by decide) (by decide)
  have R4 : ∀ w : World, Calls Tryd.prog 26 #[.int .u32 (D : Int), .int .i64 18] w fun e w' => e = .returned (.int .u32 (Sums.rot32 D 18 : Nat)) ∧ w' = w := fun w => rotl32_any D 18 w h3 (by decide) (by decide)
  generalize Sums.rot32 A 1 = a at *
  generalize Sums.rot32 B 7 = b at *
  generalize Sums.rot32 C 12 = c at *
  generalize Sums.rot32 D 18 = d at *
  have HR1 := Hid.mk' R1
  have HR2 := Hid.mk' R2
  have HR3 := Hid.mk' R3
  have HR4 := Hid.mk' R4
  clear R1 R2 R3 R4 h0 h1 h2 h3
  go_enter Tryd.func18, Tryd.ntmps18
  go_wp2_with fail
  go_quiet ((go_at_call 26; first | (with_reducible exact Calls.quiet_of_same (HR1.out _)) | (with_reducible exact Calls.quiet_of_same (HR2.out _)) | (with_reducible exact Calls.quiet_of_same (HR3.out _)) | (with_reducible exact Calls.quiet_of_same (HR4.out _))))
  go_wp2_with fail
  go_ret
  refine ⟨ret_u32 ?_, nq, rfl⟩
  rw [HM.out]
  omega
theorem begin_lt (seed : Nat) (h : seed < 4294967296) : FourLt (Sums.begin32 seed) := ⟨Nat.mod_lt _ (by decide), Nat.mod_lt _ (by decide), h, Nat.mod_lt _ (by decide)⟩
theorem rows_lt (n : Nat) : ∀ (l : List Nat) (f : Sums.Four), l.length ≤ n → FourLt f → FourLt (Sums.rows32 f l).1 := by
  induction n with
  | zero => intro l f hl hf; rw [Sums.rows32_end f l (by omega)]; exact hf
  | succ n ih =>
      intro l f hl hf
      by_cases h : 16 ≤ l.length
      · rw [Sums.rows32_more f l h]
        exact ih _ _ (by rw [List.length_drop]; omega) (FourLt.take f l)
      · rw [Sums.rows32_end f l h]; exact hf
theorem merged_lt (f : Sums.Four) : Sums.merged32 f < 4294967296 := Nat.mod_lt _ (by decide)
theorem xx32_long (seed : Nat) (l : List Nat) (h : ¬ l.length < 16) : Sums.xx32 seed l = Sums.last32 (Sums.merged32 (Sums.rows32 (Sums.begin32 seed) l).1) l.length (Sums.rows32 (Sums.begin32 seed) l).2 := by
  rw [Sums.xx32, if_neg h]
def fourC (f : Sums.Four) : List Value := [.int .u32 (f.a : Int), .int .u32 (f.b : Int), .int .u32 (f.c : Int), .int .u32 (f.d : Int)]
theorem putF_four (f h : Sums.Four) : putF (fourC f) 0 h = fourC h := rfl
theorem heapNew (w : World) (o : Obj) : (w.alloc o).heap[w.heap.size]? = some o := by
  show (w.heap.push o)[w.heap.size]? = _
  rw [Array.getElem?_push, if_pos rfl]
set_option maxHeartbeats 1000000 in
theorem xx32_more (seed : Nat) (s : ByteArray) (w : World) (hq : seed < 4294967296) (h : ¬ s.size < 16) (hm : s.size ≤ maxLen) :
    Calls Tryd.prog 13 #[.int .u32 (seed : Int), .string s] w fun e w' => e = .returned (.int .u32 (Sums.xx32 seed (Sums.bl s) : Nat)) ∧ Below w.heap.size w w' := by
  have hm2 : s.size ≤ 9223372036854775807 := by unfold maxLen at hm; omega
  have g : ¬ (s.size : Int) < 16 := by omega
  have HX : Hid (Sums.xx32 seed (Sums.bl s) = Sums.last32 (Sums.merged32 (Sums.rows32 (Sums.begin32 seed) (Sums.bl s)).1) s.size (Sums.rows32 (Sums.begin32 seed) (Sums.bl s)).2) := by
    show _ = _
    rw [xx32_long _ _ (by rw [Sums.bl_length]; exact h), Sums.bl_length]
  have hmf : ∀ (fn : Fn) (first cap : Array Value) (w : World), (Instr.makeFunc fn first cap).run Tryd.prog w = .ok (.func fn first cap) w := fun _ _ _ _ => rfl
  go_enter Tryd.func13, Tryd.ntmps13
  go_wp2_with fail
  refine (begin32_any seed _ hq).mono ?_
  rintro e w1 ⟨rfl, B1⟩
  have HB := Hid.mk' B1
  clear B1
  go_wp2_with fail
  have H0 : Hid ((w1.alloc (.cells (fourC (Sums.begin32 seed)).toArray 44 (0, 0))).heap[w1.heap.size]? = some (.cells (putF (fourC (Sums.begin32 seed)) 0 (Sums.begin32 seed)).toArray 44 (0, 0))) := heapNew _ _
  have HB2 : Hid (Below w.heap.size w (w1.alloc (.cells (fourC (Sums.begin32 seed)).toArray 44 (0, 0)))) := HB.out.alloc HB.out.size _
  have hgs := HB.out.size
  refine (eachRow_take w1.heap.size 0 44 (fourC (Sums.begin32 seed)) (Sums.begin32 seed) s (w1.alloc (.cells (fourC (Sums.begin32 seed)).toArray 44 (0, 0))) H0.out (by simp [fourC]) (begin_lt seed hq) hm).mono ?_
  rintro e w2 ⟨r, rfl, hrs, hr, P2⟩
  have HB3 : Hid (Below w.heap.size w w2) := HB2.out.trans (P2.below (by exact hgs))
  have HR := Hid.mk' hr
  have HP := Hid.mk' P2
  clear hr P2 HB2 H0 HB
  go_wp2_with fail
  have HLT := Hid.mk' (rows_lt _ (Sums.bl s) (Sums.begin32 seed) (Nat.le_refl _) (begin_lt seed hq))
  refine (merged_any w1.heap.size 0 (Sums.rows32 (Sums.begin32 seed) (Sums.bl s)).1 _ (fun j hj => by exact HP.out.cell _ (putF_at _ 0 _ (by simp [fourC]) j hj)) HLT.out).mono ?_
  rintro e w3 ⟨rfl, n1, rfl⟩
  go_wp2_with fail
  refine (last32_any (Sums.merged32 (Sums.rows32 (Sums.begin32 seed) (Sums.bl s)).1) s.size r _ (merged_lt _) (by omega) (by unfold maxLen; omega)).mono ?_
  rintro e w3 ⟨rfl, n2, rfl⟩
  go_wp2_with fail
  go_ret
  exact ⟨ret_u32 (by rw [HX.out, HR.out]), HB3.out.drewN' _⟩
theorem xx32_any (seed : Nat) (s : ByteArray) (w : World) (hq : seed < 4294967296) (hm : s.size ≤ maxLen) :
    Calls Tryd.prog 13 #[.int .u32 (seed : Int), .string s] w fun e w' => e = .returned (.int .u32 (Sums.xx32 seed (Sums.bl s) : Nat)) ∧ Below w.heap.size w w' := by
  by_cases h : s.size < 16
  · exact (xx32_less seed s w hq h).mono fun e w' ⟨he, n, hw⟩ => ⟨he, by rw [hw]; exact (Below.refl _ _).drewN' n⟩
  · exact xx32_more seed s w hq h hm
end Go.Proofs.YtapphnkddjchkaaDoor
