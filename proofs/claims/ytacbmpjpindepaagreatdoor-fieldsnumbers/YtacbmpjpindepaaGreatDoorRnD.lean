/-
  The document's own decimal and Show: any number. Conditions: as each says.
-/
import Derived.Test.YtacbmpjpindepaaGreatDoorRnA
import Derived.Test.YtacbmpjpindepaaGreatDoorShwA
namespace Go.Proofs.YtacbmpjpindepaaGreatDoor
open Go.RowKit
set_option linter.unusedVariables false
set_option linter.unusedSimpArgs false
theorem conv_byte (w : World) (d : Nat) (hd : d < 256) : (convert 85 9 (.slice (some ⟨w.heap.size, 0, none⟩) 1 1)).run Tryz.prog (w.alloc (.cells #[.int .u8 (d : Int)] 5)) = .ok (.string (nums [d])) (w.alloc (.cells #[.int .u8 (d : Int)] 5)) := by
  have hn := heap_alloc_new w (.cells #[.int .u8 (d : Int)] 5)
  refine run_convert_bytes_arg (w.alloc (.cells #[.int .u8 (d : Int)] 5)) 85 5 Tryz.underlying85 Tryz.underlying5 w.heap.size 0 1 1 [(d : Int)] (by simp) (fun i hi => ?_) 9 Tryz.underlying9
  obtain rfl : i = 0 := by omega
  simp only [World.cell?, hn]
  rfl
set_option maxRecDepth 100000 in
set_option maxHeartbeats 4000000 in
theorem rDecimal_any : ∀ (f n : Nat), n < f → n ≤ 999999999999 → ∀ w : World, Calls Tryz.prog 40 #[.int .i64 (n : Int)] w fun e w' => e = .returned (.string (nums (dec n))) ∧ Below w.heap.size w w'
  | 0, n, h, _ => by omega
  | f + 1, n, h, hb => by
    intro w
    obtain ⟨d, hd⟩ : ∃ d, n % 10 = d := ⟨_, rfl⟩
    have hd10 : d < 10 := by omega
    have hdI : (n : Int) % 10 = (d : Int) := by omega
    obtain ⟨y, hy⟩ : ∃ y, 48 + d = y := ⟨_, rfl⟩
    have hyI : (48 : Int) + (d : Int) = (y : Int) := by omega
    have hyb : y ≤ 57 := by omega
    have hyI2 : (y : Int) ≤ 57 := by omega
    have hw1 : IntKind.i64.wrap (y : Int) = (y : Int) := by rw [IntKind.wrap_i64]; omega
    have hw8 : IntKind.u8.wrap (y : Int) = (y : Int) := by rw [IntKind.wrap_u8]; omega
    have hm1 : (n : Int).tmod 10 = (n : Int) % 10 := Int.tmod_eq_emod_of_nonneg (by omega)
    have hm2 : (n : Int).tdiv 10 = (n : Int) / 10 := Int.tdiv_eq_ediv_of_nonneg (by omega)
    have hcv := conv_byte w y (by omega)
    have HAL : Hid (Below w.heap.size w (w.alloc (.cells #[.int .u8 (y : Int)] 5))) := Hid.mk' ((Below.refl _ w).alloc (Nat.le_refl _) _)
    have hns : (nums [y]).size = 1 := by rw [nums_size]; rfl
    by_cases h9 : 9 < n
    · obtain ⟨q, hq⟩ : ∃ q, n / 10 = q := ⟨_, rfl⟩
      have hqI : (n : Int) / 10 = (q : Int) := by omega
      have hwq : IntKind.i64.wrap (q : Int) = (q : Int) := by rw [IntKind.wrap_i64]; omega
      have HQ := Hid.mk' (rDecimal_any f q (by omega) (by omega))
      have HE : Hid (nums (dec n) = nums (dec q) ++ nums [y]) := Hid.mk' (by
        apply Sums.bl_inj
        have hy2 : ∀ z ∈ [y], z < 256 := fun z hz => by simp at hz; omega
        rw [bl_nums _ (dec_byt n), Sums.bl_append, bl_nums _ (dec_byt q), bl_nums _ hy2, dec_step n (by omega), hq, hd, hy])
      have hqs : (nums (dec q)).size ≤ 15 := by rw [nums_size]; exact dec_short q (by omega)
      have t1 : decide (9 < (n : Int)) = true := decide_eq_true (by omega)
      have t2 : decide (9 < n) = true := decide_eq_true h9
      rw [HE.out]
      generalize nums [y] = Y at hcv hns HE ⊢
      generalize nums (dec q) = QD at HQ HE hqs ⊢
      clear hd hy hq h9
      go_enter Tryz.func40, Tryz.ntmps40
      go_wp2_with fail
      refine (HQ.out _).mono ?_
      rintro e w3 ⟨rfl, hb3⟩
      have HB := Hid.mk' (bel_up HAL.out hb3)
      clear hb3
      go_wp2_with fail
      go_ret
      exact ⟨rfl, HB.out⟩
    · have HE : Hid (nums (dec n) = nums [y]) := Hid.mk' (by rw [dec_small n (by omega), ← hy, ← hd]; congr 2; omega)
      have t1 : decide (9 < (n : Int)) = false := decide_eq_false (by omega)
      have t2 : decide (9 < n) = false := decide_eq_false h9
      rw [HE.out]
      generalize nums [y] = Y at hcv hns HE ⊢
      clear hd hy h9
      go_enter Tryz.func40, Tryz.ntmps40
      go_wp2_with fail
      go_ret
      exact ⟨rfl, HAL.out⟩
end Go.Proofs.YtacbmpjpindepaaGreatDoor
