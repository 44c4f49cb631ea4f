/-
  block: bytes with a sum behind them, and numbers read again. Conditions: as each says.
-/
import Derived.Test.YtlplbnlfajdcbaaGreatDoorBkE
import Derived.Test.YtlplbnlfajdcbaaGreatDoorRFix
import Derived.Deep.RegionWith
import Derived.Deep.CutBlock
import Derived.Deep.DeepCutAuto
namespace Go.Proofs.YtlplbnlfajdcbaaGreatDoor
open Go.RowKit
set_option linter.unusedVariables false
set_option linter.unusedSimpArgs false
theorem ext_nums (a b c : List Nat) (ha : ∀ z ∈ a, z < 256) (hb : ∀ z ∈ b, z < 256) (hc : ∀ z ∈ c, z < 256) : (nums (a ++ b ++ c)).extract a.length (a.length + b.length) = nums b := by
  apply Sums.bl_inj
  have hall : ∀ z ∈ a ++ b ++ c, z < 256 := by
    intro z hz
    rcases List.mem_append.1 hz with h | h
    · rcases List.mem_append.1 h with h | h
      · exact ha z h
      · exact hb z h
    · exact hc z h
  rw [Sums.bl_extract, bl_nums _ hall, bl_nums _ hb, List.take_append_of_le_length (by simp), ← List.length_append, List.take_length, List.drop_left]
theorem str_neq_same (a : ByteArray) (w : World) : (binOp .neq 9 (.string a) (.string a)).run Tryz.prog w = .ok (.bool false) w := by simp [go_sem]
set_option maxHeartbeats 2000000 in
set_option maxRecDepth 100000 in
theorem unsummed_ok (x : List Nat) (hx : ∀ z ∈ x, z < 256) (w : World) (hl : x.length ≤ 1048576) (ht : Tab w) :
    Calls Tryz.prog 36 #[.string (nums (smd x))] w fun r w' => r = .returned (.tuple #[.string (nums x), .nilIface]) ∧ Below w.heap.size w w' := by
  have hs : (nums (smd x)).size = x.length + 4 := by rw [nums_size, smd_len]
  have e1 : (nums (smd x)).extract 0 x.length = nums x := by
    have := ext_nums [] x (smL x) (by simp) hx (smL_byt x)
    rw [List.nil_append, List.length_nil, Nat.zero_add] at this
    exact this
  have e2 : (nums (smd x)).extract x.length (x.length + 4) = nums (smL x) := by
    have := ext_nums x (smL x) [] hx (smL_byt x) (by simp)
    rw [List.append_nil, smL_len] at this
    exact this
  have HS : Hid (∀ k : Nat, Calls Tryz.prog 53 #[.string (nums x)] (w.drewN k) fun e w' => e = .returned (.string (nums (smL x))) ∧ Below w.heap.size w w') := fun k => by
    have := sumOf_any (nums x) (w.drewN k) (by rw [nums_size]; omega) ht
    rw [bl_nums x hx] at this
    exact this.mono fun e w' h => ⟨h.1, ⟨h.2.os, h.2.tape, h.2.output, h.2.size, h.2.block⟩⟩
  obtain ⟨n, hn⟩ : ∃ n, x.length = n := ⟨_, rfl⟩
  obtain ⟨m, hm⟩ : ∃ m, n + 4 = m := ⟨_, rfl⟩
  rw [hn] at hs e1 e2 hl
  rw [hm] at hs e2
  obtain ⟨s, hss⟩ : ∃ s, nums (smd x) = s := ⟨_, rfl⟩
  obtain ⟨X, hX⟩ : ∃ X, nums x = X := ⟨_, rfl⟩
  obtain ⟨T, hT⟩ : ∃ T, nums (smL x) = T := ⟨_, rfl⟩
  rw [hss] at hs e1 e2 ⊢
  rw [hX] at e1 HS ⊢
  rw [hT] at e2 HS
  have hnq := str_neq_same T
  have hmi : (m : Int) - 4 = (n : Int) := by omega
  have hn0 : (0 : Int) ≤ (n : Int) := by omega
  have hnm : (n : Int) ≤ (m : Int) := by omega
  have hnm2 : n ≤ m := by omega
  have hmb : m ≤ 1048580 := by omega
  clear hn hss hX hT ht hx hm hl
  go_enter Tryz.func36, Tryz.ntmps36
  go_wp2_with fail
  go_cut [8, 9, 10, 11, 12, 13, 14, 15] (fun _ _ _ _ _ _ _ s15 wx => s15 = .bool false ∧ Hid (Below w.heap.size w wx))
  case first =>
    go_region_with (go_at_call 53; refine (HS.out 1).mono ?_; rintro e w' ⟨rfl, hb⟩; have HB := Hid.mk' hb; clear hb)
    all_goals (go_wp2_with fail; go_meet)
    all_goals exact ⟨rfl, HB.out⟩
  case rest =>
    obtain ⟨rfl, HX⟩ := hcut
    go_wp2_with fail
    go_ret2
    exact ⟨rfl, HX.out⟩
end Go.Proofs.YtlplbnlfajdcbaaGreatDoor
