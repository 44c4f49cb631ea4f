/-
  record: a Builder's small calls. Conditions: as each says.
-/
import Derived.Test.YtlplbnlfajdcbaaGreatDoorMgB
import Derived.Test.YtlplbnlfajdcbaaGreatDoorRcA
import Derived.Lib.Strings
import Derived.Lib.Slices
import Derived.Lib.Walk
import Derived.Deep.RegionHeld3
import Derived.RegionTactic
namespace Go.Proofs.YtlplbnlfajdcbaaGreatDoor
open Go.RowKit
set_option linter.unusedVariables false
set_option maxHeartbeats 1000000 in
set_option maxRecDepth 100000 in
theorem ixl_any (s : ByteArray) (c : Int) (w : World) :
    Calls Tryz.prog 138 #[.string s, .int .u8 c] w fun e w' => e = .returned (.int .i64 (Lib.indexByte s.data.toList c.toNat.toUInt8)) ∧ w' = w := by
  go_enter Tryz.func138, Tryz.ntmps138
  go_wp2
  rw [run_callFunc_extern Tryz.func149 (by kernel_rfl) (by kernel_rfl) (by kernel_rfl) (e := Extern.BytealgIndexByte.indexByte) (by kernel_rfl), Lib.run_indexByteString]
  simp only [Result.andThen]
  rw [Oper.upon_value]
  go_wp2
  go_ret
  exact ⟨rfl, rfl⟩
/-- where a text's first line feed stands -/
theorem ixb_any (s : ByteArray) (w : World) :
    Calls Tryz.prog 115 #[.string s, .int .u8 10] w fun e w' => e = .returned (.int .i64 (Rec.nl s)) ∧ w' = w := by
  go_enter Tryz.func115, Tryz.ntmps115
  go_wp2_with (go_at_call 138; refine (ixl_any _ _ _).mono ?_; rintro e w' ⟨rfl, rfl⟩)
  go_ret
  exact ⟨rfl, rfl⟩
theorem bad_170 (x : Rec.Ln) (h : 8192 < x.2.size ∨ 0 ≤ Rec.nl x.2) : Rec.bad x = 170 := if_pos h
theorem bad_171 (x : Rec.Ln) (h : ¬ (8192 < x.2.size ∨ 0 ≤ Rec.nl x.2)) (h2 : x.1 < 0 ∨ Rec.MS < x.1) : Rec.bad x = 171 := by unfold Rec.bad; rw [if_neg h, if_pos h2]
theorem bad_0 (x : Rec.Ln) (h : ¬ (8192 < x.2.size ∨ 0 ≤ Rec.nl x.2)) (h2 : ¬ (x.1 < 0 ∨ Rec.MS < x.1)) : Rec.bad x = 0 := by unfold Rec.bad; rw [if_neg h, if_neg h2]
set_option maxHeartbeats 1000000 in
theorem refuses_any (x : Int) (t : ByteArray) (w : World) (ht : t.size ≤ 1125899906842624) :
    Calls Tryz.prog 79 #[.agg #[.int .i64 x, .string t]] w fun e w' => e = .returned (.int .i64 (Rec.bad (x, t) : Int)) ∧ Below w.heap.size w w' := by
  have hal : Below w.heap.size w (w.alloc (.cells #[.int .i64 x, .string t] 26)) := (Below.refl _ _).alloc (Nat.le_refl _) _
  by_cases h1 : 8192 < t.size
  · have hb := bad_170 (x, t) (.inl h1)
    have h1' : (8192 : Int) < (t.size : Int) := by omega
    go_enter Tryz.func79, Tryz.ntmps79
    go_wp2_with fail
    go_ret
    exact ⟨by rw [hb]; rfl, hal⟩
  · have h1' : ¬ (8192 : Int) < (t.size : Int) := by omega
    by_cases h2 : 0 ≤ Rec.nl t
    · have hb := bad_170 (x, t) (.inr h2)
      go_enter Tryz.func79, Tryz.ntmps79
      go_wp2_with (go_at_call 115; refine (ixb_any _ _).mono ?_; rintro e w' ⟨rfl, rfl⟩)
      go_ret
      exact ⟨by rw [hb]; rfl, hal⟩
    · have hn : ¬ (8192 < (x, t).2.size ∨ 0 ≤ Rec.nl (x, t).2) := fun h => h.elim h1 h2
      by_cases h3 : x < 0
      · have hb := bad_171 (x, t) hn (.inl h3)
        go_enter Tryz.func79, Tryz.ntmps79
        go_wp2_with (go_at_call 115; refine (ixb_any _ _).mono ?_; rintro e w' ⟨rfl, rfl⟩)
        go_ret
        exact ⟨by rw [hb]; rfl, hal⟩
      · by_cases h4 : 253402300799999 < x
        · have hb := bad_171 (x, t) hn (.inr h4)
          go_enter Tryz.func79, Tryz.ntmps79
          go_wp2_with (go_at_call 115; refine (ixb_any _ _).mono ?_; rintro e w' ⟨rfl, rfl⟩)
          go_ret
          exact ⟨by rw [hb]; rfl, hal⟩
        · have hb := bad_0 (x, t) hn (fun h => h.elim h3 h4)
          go_enter Tryz.func79, Tryz.ntmps79
          go_wp2_with (go_at_call 115; refine (ixb_any _ _).mono ?_; rintro e w' ⟨rfl, rfl⟩)
          go_ret
          exact ⟨by rw [hb]; rfl, hal⟩
theorem len_any (g n c : Nat) (a : Option Addr) (w : World) (c0 : w.cell? ⟨g, 0, none⟩ = some (.slice a n c)) :
    Calls Tryz.prog 84 #[.pointer (some ⟨g, 0, none⟩)] w fun e w' => e = .returned (.int .i64 (n : Int)) ∧ w' = w := by
  go_enter Tryz.func84, Tryz.ntmps84
  go_wp2_with fail
  go_ret
  exact ⟨rfl, rfl⟩
theorem last_any (g n c : Nat) (a : Option Addr) (x : Int) (w : World) (c0 : w.cell? ⟨g, 0, none⟩ = some (.slice a n c)) (hn : n ≤ 1125899906842624) (h0 : n = 0 → x = 0) (h1 : 0 < n → ∃ k, a = some ⟨k, 0, none⟩ ∧ w.cell? ⟨k, n - 1, none⟩ = some (.int .i64 x)) :
    Calls Tryz.prog 81 #[.pointer (some ⟨g, 0, none⟩)] w fun e w' => e = .returned (.int .i64 x) ∧ ∃ k, w' = w.drewN k := by
  by_cases hz : n = 0
  · obtain rfl := h0 hz
    have hz' : (n : Int) = 0 := by omega
    go_enter Tryz.func81, Tryz.ntmps81
    go_wp2_with (go_at_call 84; refine (len_any g n c a _ c0).mono ?_; rintro e w' ⟨rfl, rfl⟩)
    go_ret
    exact ⟨rfl, 0, rfl⟩
  · obtain ⟨k, rfl, c1⟩ := h1 (by omega)
    have hz' : ¬ (n : Int) = 0 := by omega
    have e1 : ((n : Int) - 1).toNat = n - 1 := by omega
    have e2 : (n : Int) - 1 = ((n - 1 : Nat) : Int) := by omega
    have e3 : (((n - 1 : Nat) : Int)) < (n : Int) := by omega
    go_enter Tryz.func81, Tryz.ntmps81
    go_wp2_with (go_at_call 84; refine (len_any g n c _ _ c0).mono ?_; rintro e w' ⟨rfl, rfl⟩)
    go_quiet ((first | (go_at_call 84; exact Calls.quiet_of_same (len_any g n c _ _ (by exact c0)))))
    go_wp2_with fail
    go_ret
    exact ⟨rfl, _, rfl⟩
theorem size_any (c n t : Nat) (w : World) (hc : c ≤ 1125899906842624) (hn : n ≤ 1125899906842624) (ht : t ≤ 1125899906842624) :
    Calls Tryz.prog 83 #[.int .i64 (c : Int), .int .i64 (n : Int), .int .i64 (t : Int)] w fun e w' => e = .returned (.int .i64 (((Code.uint c).length + n + t : Nat) : Int)) ∧ Below w.heap.size w w' := by
  have hl := Code.uint_len c (by omega)
  have hs := nums_size (Code.uint c)
  go_enter Tryz.func83, Tryz.ntmps83
  go_wp2_with (go_at_call 82; refine (uint_any c _ (by omega)).mono ?_; rintro e w' ⟨rfl, hb⟩)
  go_ret
  exact ⟨by simp, hb⟩
end Go.Proofs.YtlplbnlfajdcbaaGreatDoor
