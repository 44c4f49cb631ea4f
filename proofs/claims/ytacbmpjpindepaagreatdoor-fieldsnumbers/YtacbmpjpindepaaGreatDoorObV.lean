/-
  object: Right of values that are right: isTree, isNumber, utf8.ValidString of short plain texts. Conditions: as each says.
-/
import Derived.Test.YtacbmpjpindepaaGreatDoorObU
import Derived.Test.YtacbmpjpindepaaGreatDoorShL
namespace Go.Proofs.YtacbmpjpindepaaGreatDoor
open Go.RowKit
set_option linter.unusedVariables false
set_option linter.unusedSimpArgs false
theorem sl_one (T : ByteArray) (W : World) (h : 1 ≤ T.size) : (Instr.slice 9 (.string T) (some (.int .i64 1)) none none).run Tryz.prog W = .ok (.string (T.extract 1 T.size)) W := by
  have e1 : (1 : Int) ≤ (T.size : Int) := by omega
  simp [go_sem, Instr.slice, e1]
theorem bl_tail (T : ByteArray) : Sums.bl (T.extract 1 T.size) = (Sums.bl T).drop 1 := by
  unfold Sums.bl
  rw [ByteArray.data_extract]
  simp
  apply List.take_of_length_le
  rw [List.length_tail, List.length_map, Array.length_toList]
  exact Nat.le_refl _
set_option maxRecDepth 100000 in
set_option maxHeartbeats 4000000 in
theorem valid_low (T : ByteArray) (w : World) (hs : T.size ≤ 8) (hl : ∀ x ∈ Sums.bl T, x < 128) : Calls Tryz.prog 159 #[.string T] w fun e w' => e = .returned (.bool true) ∧ Below w.heap.size w w' := by
  go_enter Tryz.func159, Tryz.ntmps159
  go_wp2_with fail
  go_loopg [0] T.size (fun k v wr => ∃ T2 : ByteArray, v = .string T2 ∧ T2.size = k ∧ T2.size ≤ 8 ∧ Hid (∀ x ∈ Sums.bl T2, x < 128) ∧ Hid (Below w.heap.size w wr))
  case atStart => exact ⟨T, rfl, rfl, hs, hl, Below.refl _ _⟩
  case round =>
    obtain ⟨T2, rfl, hk, hs2, HL, HB⟩ := hrel
    clear hs hl
    rename World => wi
    by_cases h0 : T2.size = 0
    · have h0I : (T2.size : Int) = 0 := by omega
      have h0d : decide (0 < T2.size) = false := decide_eq_false (by omega)
      have h0e : decide ((0 : Int) < (T2.size : Int)) = false := decide_eq_false (by omega)
      clear h0 hk
      go_wp2_with fail
      go_ret
      exact ⟨rfl, HB.out⟩
    · obtain ⟨x, rest, hd⟩ : ∃ x rest, (Sums.bl T2).drop 0 = x :: rest := by
        cases hd : (Sums.bl T2).drop 0 with
        | nil => have := ob_nil T2 0 (by omega) hd; omega
        | cons c rest => exact ⟨c, rest, rfl⟩
      have hidx := ob_idx T2 0 x rest hd
      have hx : x < 128 := HL.out x (by have : x ∈ (Sums.bl T2).drop 0 := by rw [hd]; simp
                                        simpa using this)
      have t1 : decide ((x : Int) < 128) = true := by simp; omega
      have t2 : decide (x < 128) = true := by simp; omega
      have t3 : (x : Int) < 128 := by omega
      have p1 : decide ((0 : Int) < (T2.size : Int)) = true := by simp; omega
      have p2 : decide (0 < T2.size) = true := by simp; omega
      have p3 : (0 : Int) < (T2.size : Int) := by omega
      have hsl := fun W => sl_one T2 W (by omega)
      obtain ⟨T3, hT3⟩ : ∃ T3, T2.extract 1 T2.size = T3 := ⟨_, rfl⟩
      rw [hT3] at hsl
      have hz3 : T3.size = T2.size - 1 := by rw [← hT3, ByteArray.size_extract]; omega
      have HL3 : Hid (∀ y ∈ Sums.bl T3, y < 128) := Hid.mk' (fun y hy => by rw [← hT3, bl_tail] at hy; exact HL.out y (List.mem_of_mem_drop hy))
      have q1 : decide ((8 : Int) < (T3.size : Int)) = false := by simp; omega
      have q2 : decide (8 < T3.size) = false := by simp; omega
      have q3 : ¬ (8 : Int) < (T3.size : Int) := by omega
      have HK : Hid (T3.size < gk ∧ T3.size ≤ 8) := Hid.mk' (by omega)
      have hidx0 : ∀ W : World, (Instr.index 9 (.string T2) (.int .i64 0)).run Tryz.prog W = .ok (.int .u8 (x : Int)) W := fun W => hidx W
      clear hd hx hT3 hz3 h0 hk HL hs2 hidx
      go_wp2_with fail
      go_roundg T3.size
      case measure => exact HK.out.1
      case rel => exact ⟨T3, rfl, rfl, HK.out.2, HL3, HB⟩
theorem isTree4 (pn pk : Option Addr) (cn ck : Nat) (t : ByteArray) (w : World) : Calls Tryz.prog 136 #[.agg #[.int .i64 4, .string t, .slice pn 0 cn, .slice pk 0 ck]] w fun e w' => e = .returned (.bool true) ∧ Below w.heap.size w w' := by
  have HB : Hid (∀ o : Obj, Below w.heap.size w (w.alloc o)) := Hid.mk' (fun o => (Below.refl _ w).alloc (Nat.le_refl _) o)
  go_enter Tryz.func136, Tryz.ntmps136
  go_wp2_with fail
  go_ret
  exact ⟨rfl, HB.out _⟩
theorem isTree5 (pn pk : Option Addr) (cn ck : Nat) (t : ByteArray) (w : World) : Calls Tryz.prog 136 #[.agg #[.int .i64 5, .string t, .slice pn 0 cn, .slice pk 0 ck]] w fun e w' => e = .returned (.bool true) ∧ Below w.heap.size w w' := by
  have HB : Hid (∀ o : Obj, Below w.heap.size w (w.alloc o)) := Hid.mk' (fun o => (Below.refl _ w).alloc (Nat.le_refl _) o)
  go_enter Tryz.func136, Tryz.ntmps136
  go_wp2_with fail
  go_ret
  exact ⟨rfl, HB.out _⟩
theorem isTree6 (pn pk : Option Addr) (cn ck : Nat) (nk : Nat) (w : World) : Calls Tryz.prog 136 #[.agg #[.int .i64 6, .string ByteArray.empty, .slice pn 0 cn, .slice pk nk ck]] w fun e w' => e = .returned (.bool true) ∧ Below w.heap.size w w' := by
  have HB : Hid (∀ o : Obj, Below w.heap.size w (w.alloc o)) := Hid.mk' (fun o => (Below.refl _ w).alloc (Nat.le_refl _) o)
  go_enter Tryz.func136, Tryz.ntmps136
  go_wp2_with fail
  go_ret
  exact ⟨rfl, HB.out _⟩
theorem isTree7 (pn pk : Option Addr) (cn ck : Nat) (nn : Nat) (w : World) : Calls Tryz.prog 136 #[.agg #[.int .i64 7, .string ByteArray.empty, .slice pn nn cn, .slice pk nn ck]] w fun e w' => e = .returned (.bool true) ∧ Below w.heap.size w w' := by
  have HB : Hid (∀ o : Obj, Below w.heap.size w (w.alloc o)) := Hid.mk' (fun o => (Below.refl _ w).alloc (Nat.le_refl _) o)
  go_enter Tryz.func136, Tryz.ntmps136
  go_wp2_with fail
  go_ret
  exact ⟨rfl, HB.out _⟩
end Go.Proofs.YtacbmpjpindepaaGreatDoor
