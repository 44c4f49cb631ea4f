/-
  What swar.SameFold does. Conditions: the texts are no longer than a text that is read can be.
-/
import Derived.Test.YtlbfnchjbpioeaaKern
import Derived.Test.YtlbfnchjbpioeaaLoadB
import Derived.Test.YtlbfnchjbpioeaaWordsI
import Derived.Test.YtlbfnchjbpioeaaIndex
namespace Go.Proofs.Ytlbfnchjbpioeaa
open Go.RowKit
set_option linter.unusedVariables false
theorem ret_bool {a b : Bool} (h : a = b) : Ending.returned (.bool a) = .returned (.bool b) := by rw [h]
set_option maxHeartbeats 400000 in
theorem sameFold_any (a b : ByteArray) (w : World) (ha : a.size ≤ 1125899906842624) (hb : b.size ≤ 1125899906842624) :
    Calls Try.prog 20 #[.string a, .string b] w fun e w' => e = .returned (.bool (Swar.sameL a b)) ∧ ∃ n, w' = w.drewN n := by
  by_cases hn : a.size = b.size
  · have g : ((a.size : Int) != (b.size : Int)) = false := by simp [hn]
    have HN : Hid (a.size = b.size) := hn
    clear hn
    go_enter Try.func20, Try.ntmps20
    go_wp2_with fail
    go_loopw [5] (fun i wr => ∃ p n : Nat, p ≤ a.size + 8 ∧ i = .int .i64 (p : Int) ∧ Hid (Swar.SameTo a b p) ∧ wr = w.drewN n) (fun i _ => a.size + 8 - (intOf i).toNat)
    case atStart => exact ⟨0, 0, by omega, rfl, fun i hi => by omega, rfl⟩
    case round =>
      obtain ⟨p, n, hp, rfl, HI, rfl⟩ := hrel
      by_cases hlt : p < a.size
      · have l1 := Swar.ldL_lt a p
        have l2 := Swar.ldL_lt b p
        have l3 := Swar.lowerL_lt (Swar.ldL a p)
        have l4 := Swar.lowerL_lt (Swar.ldL b p)
        by_cases hw : Swar.lowerL (Swar.ldL a p) = Swar.lowerL (Swar.ldL b p)
        · have HW : Hid (Swar.SameTo a b (p + 8)) := Swar.same_on a b p HI.out hw
          have gw : ((Swar.lowerL (Swar.ldL a p) : Int) != (Swar.lowerL (Swar.ldL b p) : Int)) = false := by simp [hw]
          clear hw HI
          go_wp2_with fail
          refine (load_any a p _ ha (by omega) (by omega)).mono ?_
          rintro e w1 ⟨rfl, n1, rfl⟩
          go_wp2_with fail
          refine (lower_any _ _ l1).mono ?_
          rintro e w1 ⟨rfl, rfl⟩
          go_wp2_with fail
          refine (load_any b p _ hb (by omega) (by omega)).mono ?_
          rintro e w1 ⟨rfl, n2, rfl⟩
          go_wp2_with fail
          refine (lower_any _ _ l2).mono ?_
          rintro e w1 ⟨rfl, rfl⟩
          go_wp2_with fail
          go_roundw
          case rel => exact ⟨p + 8, n + n1 + n2, by omega, by go_num, HW, rfl⟩
          case measure => simp [intOf]; omega
        · have HW : Hid (Swar.sameL a b = false) := Swar.same_off a b p HN.out hw
          have gw : ((Swar.lowerL (Swar.ldL a p) : Int) != (Swar.lowerL (Swar.ldL b p) : Int)) = true := by simp; omega
          clear hw HI
          go_wp2_with fail
          refine (load_any a p _ ha (by omega) (by omega)).mono ?_
          rintro e w1 ⟨rfl, n1, rfl⟩
          go_wp2_with fail
          refine (lower_any _ _ l1).mono ?_
          rintro e w1 ⟨rfl, rfl⟩
          go_wp2_with fail
          refine (load_any b p _ hb (by omega) (by omega)).mono ?_
          rintro e w1 ⟨rfl, n2, rfl⟩
          go_wp2_with fail
          refine (lower_any _ _ l2).mono ?_
          rintro e w1 ⟨rfl, rfl⟩
          go_wp2_with fail
          go_ret
          exact ⟨ret_bool HW.out.symm, n + n1 + n2, rfl⟩
      · have HC : Hid (Swar.sameL a b = true) := Swar.same_end a b p HN.out HI.out (by omega)
        have hlt' : ¬ (p : Int) < (a.size : Int) := by omega
        go_wp2_with fail
        go_ret
        exact ⟨ret_bool HC.out.symm, n, rfl⟩
  · have HC : Hid (Swar.sameL a b = false) := Swar.same_size a b hn
    have g : ((a.size : Int) != (b.size : Int)) = true := by simp; omega
    clear hn
    go_enter Try.func20, Try.ntmps20
    go_wp2_with fail
    go_ret
    exact ⟨ret_bool HC.out.symm, 0, rfl⟩
end Go.Proofs.Ytlbfnchjbpioeaa
