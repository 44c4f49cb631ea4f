/-
  The document's own reading of a packed text: counts, and the sequence at a place. Conditions: as each says.
-/
import Derived.Test.YtkndpfpdanoalaaWlkC
import Derived.Test.YtkndpfpdanoalaaLzD
namespace Go.Proofs.Ytkndpfpdanoalaa
open Go.RowKit
set_option linter.unusedVariables false
set_option maxRecDepth 100000 in
set_option maxHeartbeats 1000000 in
theorem refCounted_any (s : ByteArray) (i n : Nat) (more : Bool) (room : Nat) (w : World) (hs : s.size ≤ 140737488355328) (hi : i ≤ s.size + 2) (hn : n ≤ 256 * i) (hr : room ≤ 9223372036854775807) :
    Calls Try.prog 37 #[.string s, .int .i64 (i : Int), .int .i64 (n : Int), .bool more, .int .i64 (room : Int)] w fun e w' =>
      e = .returned (.tuple #[.int .i64 ((Lz.counted (Sums.bl s) i n more room).2.1 : Int), .int .i64 ((Lz.counted (Sums.bl s) i n more room).2.2 : Int), .int .i64 ((Lz.counted (Sums.bl s) i n more room).1 : Int)]) ∧ w' = w := by
  obtain ⟨R, hR⟩ : ∃ R, Lz.counted (Sums.bl s) i n more room = R := ⟨_, rfl⟩
  rw [hR]
  by_cases h0 : room < n
  · have h0I : (room : Int) < (n : Int) := by omega
    rw [Lz.counted_most _ _ _ _ _ h0] at hR
    subst hR
    go_enter Try.func37, Try.ntmps37
    go_wp2
    go_ret3
    exact ⟨rfl, rfl⟩
  · have h0I : ¬ (room : Int) < (n : Int) := by omega
    have HR := Hid.mk' hR
    clear hR
    go_enter Try.func37, Try.ntmps37
    go_wp2
    go_loopw [1, 2, 3] (fun iv nv mv wr => ∃ (i' n' : Nat) (m' : Bool), iv = .int .i64 (i' : Int) ∧ nv = .int .i64 (n' : Int) ∧ mv = .bool m' ∧ Lz.counted (Sums.bl s) i' n' m' room = R ∧ ¬ room < n' ∧ i' ≤ s.size + 2 ∧ n' ≤ 256 * i' ∧ wr = w) (fun iv _ mv _ => 2 * (s.size + 2 - (intOf iv).toNat))
    case atStart => exact ⟨i, n, more, rfl, rfl, rfl, HR.out, h0, hi, hn, rfl⟩
    case round =>
      obtain ⟨i', n', m', rfl, rfl, rfl, hR', hn0, hi', hn', rfl⟩ := hrel
      clear HR
      cases m' with
      | false =>
        rw [Lz.counted_done _ _ _ _ hn0] at hR'
        subst hR'
        go_wp2
        go_ret3
        exact ⟨rfl, rfl⟩
      | true =>
        by_cases hend : s.size ≤ i'
        · have hI : (s.size : Int) ≤ (i' : Int) := by omega
          rw [Lz.counted_short _ _ _ _ hn0 (by rw [Sums.bl_length]; exact hend)] at hR'
          subst hR'
          go_wp2
          go_ret3
          exact ⟨rfl, rfl⟩
        · have hlt : i' < s.size := by omega
          have hI : ¬ (s.size : Int) ≤ (i' : Int) := by omega
          obtain ⟨c, hc⟩ : ∃ c, c = (Sums.bl s).getD i' 0 := ⟨_, rfl⟩
          have hc256 : c < 256 := byte_lt s i' c hc
          have hidx := idx_any s i' c hlt hc
          rw [Lz.counted_step _ _ _ _ hn0 (by rw [Sums.bl_length]; exact hlt), ← hc] at hR'
          have HR2 := Hid.mk' hR'
          clear hR' hc
          by_cases hm : room < n' + c
          · have hmI : (room : Int) < (n' : Int) + (c : Int) := by omega
            have hR3 := HR2.out
            rw [Lz.counted_most _ _ _ _ _ hm] at hR3
            subst hR3
            clear HR2
            go_wp2
            go_ret3
            exact ⟨rfl, rfl⟩
          · have hmI : ¬ (room : Int) < (n' : Int) + (c : Int) := by omega
            go_wp2
            go_roundw
            case rel =>
              refine ⟨i' + 1, n' + c, c == 255, by simp, by simp, ?_, HR2.out, by omega, by omega, by omega, trivial⟩
              rw [eqb_lit c 255 (255 : Int) rfl]
            case measure =>
              simp [intOf]
              omega
end Go.Proofs.Ytkndpfpdanoalaa
