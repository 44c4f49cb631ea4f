/-
  The laws' still: what was lent is as it was. Conditions: as it says.
-/
import Derived.Test.YtlbfnchjbpioeaaMnT
namespace Go.Proofs.Ytlbfnchjbpioeaa
open Go.RowKit Go.Shelf
set_option linter.unusedVariables false
theorem cell_row {w w' : World} {b k j : Nat} {t : TypeId} {F : Nat → Value} (h : w.heap[b]? = some (.cells (rowV F k).toArray t (0, 0))) (hj : j < k) (e : ∃ n, w' = w.drewN n) : w'.cell? ⟨b, j, none⟩ = some (F j) := by
  obtain ⟨n, rfl⟩ := e
  show w.cell? ⟨b, j, none⟩ = _
  simp only [World.cell?, h]
  rw [List.getElem?_toArray, rowV_get _ _ _ hj]
  rfl
set_option maxRecDepth 100000 in
set_option maxHeartbeats 2000000 in
theorem still_any (b : Nat) (p : Option Addr) (cap : Nat) (R : List ByteArray) (w : World) (h : StrAt w p R) (hr : w.heap[b]? = some (.cells (rowV (fun j => .string (lentF R j)) (R.length + 8)).toArray 9 (0, 0))) (hl : R.length ≤ 8796093022208) :
    Calls Try.prog 11 #[.slice (some ⟨b, 0, none⟩) R.length (R.length + 8), .slice p R.length cap] w fun e w' => e = .returned (.bool true) ∧ ∃ n, w' = w.drewN n := by
  obtain ⟨n, hn⟩ : ∃ n, R.length = n := ⟨_, rfl⟩
  rw [hn] at hl hr ⊢
  have HN := Hid.mk' hn
  have HS := Hid.mk' h
  obtain ⟨k, hk⟩ : ∃ k, n + 8 = k := ⟨_, rfl⟩
  have hkI : (n : Int) + 8 = (k : Int) := by omega
  have hwr : IntKind.i64.wrap (k : Int) = (k : Int) := by rw [IntKind.wrap_i64]; omega
  rw [hk] at hr ⊢
  have HR := Hid.mk' hr
  clear hn h hr
  go_enter Try.func11, Try.ntmps11
  go_wp2
  go_loopw [6] (fun iv wr => ∃ i : Nat, iv = .int .i64 (i : Int) ∧ i ≤ k ∧ Hid (∃ j, wr = w.drewN j)) (fun iv _ => k - (intOf iv).toNat)
  case atStart => exact ⟨0, rfl, Nat.zero_le _, 0, rfl⟩
  case round =>
    obtain ⟨i, rfl, hi, hdr⟩ := hrel
    rename World => wr
    by_cases hik : i < k
    · have hikI : (i : Int) < (k : Int) := by omega
      have c1 := cell_row HR.out hik hdr.out
      by_cases hin : i < n
      · have hinI : (i : Int) < (n : Int) := by omega
        have hinN : ¬ (n : Int) ≤ (i : Int) := by omega
        have hinM : ¬ n ≤ i := by omega
        obtain ⟨x, hx⟩ : ∃ x, R.getD i ByteArray.empty = x := ⟨_, rfl⟩
        have hlx : lentF R i = x := by
          unfold lentF
          rw [if_pos (by have := HN.out; omega), hx]
        rw [hlx] at c1
        obtain ⟨g, off, rfl, hc⟩ := HS.out i (by have := HN.out; omega)
        have c2 : wr.cell? ⟨g, off + i, none⟩ = some (.string x) := by
          obtain ⟨j, rfl⟩ := hdr.out
          rw [← hx]
          exact hc
        clear hc hlx hx
        go_wp2_with fail
        go_quiet (fail)
        go_wp2
        go_roundw
        case rel => exact ⟨i + 1, by simp, by omega, by obtain ⟨j, rfl⟩ := hdr.out; exact ⟨j + nq, by rw [World.drewN_drewN]⟩⟩
        case measure =>
          simp [intOf]
          omega
      · have hinI : ¬ (i : Int) < (n : Int) := by omega
        have hinN : (n : Int) ≤ (i : Int) := by omega
        have hinM : n ≤ i := by omega
        have hlx : lentF R i = mark := by
          unfold lentF
          rw [if_neg (by have := HN.out; omega)]
        rw [hlx] at c1
        unfold mark at c1
        clear hlx
        go_wp2_with fail
        go_quiet (fail)
        go_wp2
        go_roundw
        case rel => exact ⟨i + 1, by simp, by omega, by obtain ⟨j, rfl⟩ := hdr.out; exact ⟨j + nq, by rw [World.drewN_drewN]⟩⟩
        case measure =>
          simp [intOf]
          omega
    · obtain rfl : i = k := by omega
      have hikI : ¬ (i : Int) < (i : Int) := by omega
      go_wp2
      go_ret
      exact ⟨rfl, hdr.out⟩
end Go.Proofs.Ytlbfnchjbpioeaa
