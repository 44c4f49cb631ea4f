/-
  The law MomentReads is true. Conditions: a text within reach; the tables lie as the programs' texts lay them.
-/
import Derived.Test.YthmpokndffbkdaaGreatDoorFoJ
import Derived.Test.YthmpokndffbkdaaGreatDoorKn12
namespace Go.Proofs.YthmpokndffbkdaaGreatDoor
open Go.RowKit
set_option linter.unusedVariables false
theorem readR_tup (l : List Nat) : ∃ a c : Int, readR l = .returned (.tuple #[.int .i64 a, .int .i64 c]) := by
  unfold readR
  split
  · exact ⟨_, _, rfl⟩
  · exact stR_tup _ _ _ _ _ _ _ _ _ _
theorem aheadR_tup (l : List Nat) : ∃ (a : Int) (t : ByteArray) (b : Bool), aheadR l = .returned (.tuple #[.int .i64 a, .string t, .bool b]) := by
  unfold aheadR ahR
  split
  · exact ⟨_, _, _, rfl⟩
  · exact ⟨_, _, _, rfl⟩
set_option maxRecDepth 100000 in
set_option maxHeartbeats 4000000 in
theorem momentReads_any (s : ByteArray) (w : World) (hs : s.size ≤ 140737488351232) (hu : UnT w) (hp : Pow w) (hm : MnT w) :
    Calls Tryz.prog 3 #[.string s] w fun e w' => e = .returned (.bool true) ∧ Below w.heap.size w w' := by
  have HK := Hid.mk' (known_any w hu hp)
  have HM := Hid.mk' hm
  have hlt := hm.lt
  have R1 := Hid.mk' (fun w => read_any s w)
  have R2 := Hid.mk' (fun w => rRead_any s w (by omega))
  have A1 := Hid.mk' (fun w hm => aheadT s w hm (by omega))
  have A2 := Hid.mk' (fun w => rAhead_any s w (by omega))
  obtain ⟨ra, rc, hr⟩ := readR_tup (Sums.bl s)
  obtain ⟨aa, at_, ab, ha⟩ := aheadR_tup (Sums.bl s)
  rw [hr] at R1 R2
  rw [ha] at A1 A2
  clear hu hp hm hs hr ha
  cases ab
  all_goals
    go_enter Tryz.func3, Tryz.ntmps3
    go_wp2_with fail
    refine HK.out.mono ?_
    rintro e w1 ⟨rfl, hl⟩
    have H1 := Hid.mk' hl
    clear hl HK
    go_wp2_with fail
    refine (R1.out _).mono ?_
    rintro e w2 ⟨rfl, hb⟩
    have H2 := Hid.mk' (H1.out.next hb)
    clear hb H1
    go_wp2_with fail
    refine (R2.out _).mono ?_
    rintro e w3 ⟨rfl, hb⟩
    have H3 := Hid.mk' (H2.out.next hb)
    clear hb H2
    go_wp2_with fail
    refine (A1.out _ (HM.out.below H3.out.bel hlt)).mono ?_
    rintro e w4 ⟨rfl, hb⟩
    have H4 := Hid.mk' (H3.out.next hb)
    clear hb H3
    go_wp2_with fail
    refine (A2.out _).mono ?_
    rintro e w5 ⟨rfl, hb⟩
    have H5 := Hid.mk' (H4.out.next hb)
    clear hb H4
    go_wp2_with fail
    go_ret
    exact ⟨rfl, H5.out.bel⟩
end Go.Proofs.YthmpokndffbkdaaGreatDoor
