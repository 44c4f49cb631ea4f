/-
  The laws' pick. Conditions: ints.
-/
import Derived.Test.YtkplbggefiemdaaGreatDoorFmV
namespace Go.Proofs.YtkplbggefiemdaaGreatDoor
open Go.RowKit
set_option linter.unusedVariables false
theorem pick14 (c : Int) (k : Nat) (w : World) (h0 : -9223372036854775808 ≤ c) (h1 : c ≤ 9223372036854775807) (hk : 1 ≤ k) (hkb : k ≤ 9223372036854775807) :
    Calls Tryz.prog 12 #[.int .i64 c, .int .i64 (k : Int)] w fun e w' => (∃ z : Nat, z < k ∧ e = .returned (.int .i64 (z : Int))) ∧ w' = w := by
  have hk0 : ¬ (k : Int) = 0 := by omega
  have hk1 : 1 ≤ (k : Int) := by omega
  by_cases hc : c < 0
  · obtain ⟨d, hd⟩ : ∃ d : Nat, -(c + 1) = (d : Int) := ⟨(-(c + 1)).toNat, by omega⟩
    have hdb : (d : Int) ≤ 9223372036854775807 := by omega
    obtain ⟨z, hz⟩ : ∃ z, d % k = z := ⟨_, rfl⟩
    have hzk : z < k := by rw [← hz]; exact Nat.mod_lt _ (by omega)
    have hm : (d : Int) % (k : Int) = (z : Int) := by rw [← hz]; simp
    have HZ := Hid.mk' hzk
    clear hz hzk
    go_enter Tryz.func12, Tryz.ntmps12
    go_wp2
    go_ret
    exact ⟨⟨z, HZ.out, by first | exact congrArg (fun x : Int => Ending.returned (.int .i64 x)) hm | rfl⟩, rfl⟩
  · obtain ⟨d, rfl⟩ := Int.eq_ofNat_of_zero_le (show 0 ≤ c by omega)
    obtain ⟨z, hz⟩ : ∃ z, d % k = z := ⟨_, rfl⟩
    have hzk : z < k := by rw [← hz]; exact Nat.mod_lt _ (by omega)
    have hm : (d : Int) % (k : Int) = (z : Int) := by rw [← hz]; simp
    have HZ := Hid.mk' hzk
    clear hz hzk
    go_enter Tryz.func12, Tryz.ntmps12
    go_wp2
    go_ret
    exact ⟨⟨z, HZ.out, rfl⟩, rfl⟩
end Go.Proofs.YtkplbggefiemdaaGreatDoor
