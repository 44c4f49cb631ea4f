/-
  lengthed: a count's half byte and its length bytes. Conditions: as it says.
-/
import Derived.Test.YtchjmhgalbkjkabMadA
import Derived.Test.YtchjmhgalbkjkabHp
namespace Go.Proofs.Ytchjmhgalbkjkab
open Go.RowKit
set_option linter.unusedVariables false
theorem conv_one {W : World} {g : Nat} {c : Nat} {t : TypeId} {fz : Nat × Nat} (h : W.heap[g]? = some (.cells #[.int .u8 (c : Int)] t fz)) : (convert 49 9 (.slice (some ⟨g, 0, none⟩) 1 1)).run Try.prog W = .ok (.string (nums [c])) W := by
  refine run_convert_bytes_arg _ 49 5 Try.underlying49 Try.underlying5 g 0 1 1 _ (by simp) (fun i hi => ?_) 9 Try.underlying9
  obtain rfl : i = 0 := by omega
  simp only [World.cell?]
  rw [Nat.add_zero, h]
  simp
theorem conv_two {W : World} {g : Nat} {c d : Nat} {t : TypeId} {fz : Nat × Nat} (h : W.heap[g]? = some (.cells #[.int .u8 (c : Int), .int .u8 (d : Int)] t fz)) : (convert 49 9 (.slice (some ⟨g, 0, none⟩) 2 2)).run Try.prog W = .ok (.string (nums [c, d])) W := by
  refine run_convert_bytes_arg _ 49 5 Try.underlying49 Try.underlying5 g 0 2 2 _ (by simp) (fun i hi => ?_) 9 Try.underlying9
  simp only [World.cell?]
  rw [Nat.zero_add, h]
  rcases (show i = 0 ∨ i = 1 by omega) with rfl | rfl <;> simp
theorem nums_one (k : Nat) : nums (List.replicate k 255) ++ ⟨#[255]⟩ = nums (List.replicate (k + 1) 255) := by
  have h : (⟨#[255]⟩ : ByteArray) = nums [255] := rfl
  rw [h, nums_append _ _ (by intro z hz; have := (List.mem_replicate.1 hz).2; omega) (by simp)]
  congr 1
  rw [List.replicate_succ']
set_option maxHeartbeats 1000000 in
theorem lengthed_any (n : Nat) (w : World) (hn : n ≤ 1000000) :
    Calls Try.prog 16 #[.int .i64 (n : Int)] w fun e w' => e = .returned (.tuple #[.int .i64 ((min n 15 : Nat) : Int), .string (nums (Lz.lenb n))]) ∧ Below w.heap.size w w' := by
  by_cases hc : n < 15
  · have hcI : (n : Int) < 15 := by omega
    have h1 : Lz.lenb n = [] := by unfold Lz.lenb; rw [if_pos hc]
    rw [h1, Nat.min_eq_left (by omega)]
    go_enter Try.func16, Try.ntmps16
    go_wp2
    go_ret2
    exact ⟨rfl, Below.refl _ _⟩
  · have hcI : ¬ (n : Int) < 15 := by omega
    have h1 : Lz.lenb n = List.replicate ((n - 15) / 255) 255 ++ [(n - 15) % 255] := by unfold Lz.lenb; rw [if_neg hc]
    rw [h1, Nat.min_eq_right (by omega)]
    obtain ⟨m, rfl⟩ : ∃ m, n = m + 15 := ⟨n - 15, by omega⟩
    rw [Nat.add_sub_cancel]
    have hmI : ((m + 15 : Nat) : Int) - 15 = (m : Int) := by omega
    clear h1
    go_enter Try.func16, Try.ntmps16
    go_wp2
    go_loopw [0, 4] (fun nv sv wr => ∃ k j : Nat, nv = .int .i64 (j : Int) ∧ j + 255 * k = m ∧ sv = .string (nums (List.replicate k 255)) ∧ wr = w) (fun nv _ _ => (intOf nv).toNat)
    case atStart => exact ⟨0, m, by simp, by omega, rfl, rfl⟩
    case round =>
      obtain ⟨k, j, rfl, hj, rfl, rfl⟩ := hrel
      by_cases hd : j < 255
      · have hdI : decide ((255 : Int) ≤ (j : Int)) = false := by simp; omega
        have hdI2 : ¬ (255 : Int) ≤ (j : Int) := by omega
        have e1 : m / 255 = k := by omega
        have e2 : m % 255 = j := by omega
        have HE12 := Hid.mk' (And.intro e1 e2)
        clear e1 e2
        have hcv := conv_one (W := (wr.alloc (.cells #[.int .u8 (j : Int)] 5)).drew) (g := wr.heap.size) (heap_alloc_new wr _)
        have hju : IntKind.u8.wrap (j : Int) = (j : Int) := by rw [IntKind.wrap_u8]; omega
        have hs1 := nums_size (List.replicate k 255)
        rw [List.length_replicate] at hs1
        have hs2 := nums_size [j]
        rw [List.length_singleton] at hs2
        have hk : k ≤ 4000 := by omega
        go_wp2
        go_region
        go_wp2
        go_ret2
        refine ⟨?_, ?_⟩
        · rw [HE12.out.1, HE12.out.2, ← nums_append _ _ (by intro z hz; have := (List.mem_replicate.1 hz).2; omega) (by simp; omega)]
          rfl
        · exact ((Below.refl _ _).alloc (Nat.le_refl _) _).drewN' 1
      · have hdI : decide ((255 : Int) ≤ (j : Int)) = true := by simp; omega
        have hdI2 : (255 : Int) ≤ (j : Int) := by omega
        have hns := nums_one k
        have hsz := nums_size (List.replicate k 255)
        rw [List.length_replicate] at hsz
        go_wp2
        go_roundw
        case rel => exact ⟨k + 1, j - 255, by congr 1; omega, by omega, by rw [← hns], trivial⟩
        case measure => simp [intOf]; omega
end Go.Proofs.Ytchjmhgalbkjkab
