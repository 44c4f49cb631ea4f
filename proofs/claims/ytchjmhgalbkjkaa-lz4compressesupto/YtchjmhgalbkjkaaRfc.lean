/-
  The document's nearest. Conditions: a copy of so many bytes may stand there.
-/
import Derived.Test.YtchjmhgalbkjkaaRfb
namespace Go.Proofs.Ytchjmhgalbkjkaa
open Go.RowKit
set_option linter.unusedVariables false
theorem str_eq' (a : ByteArray) (w : World) : (binOp .eql 9 (.string a) (.string a)).run Try.prog w = .ok (.bool true) w := by simp [go_sem]
set_option maxRecDepth 100000 in
set_option maxHeartbeats 1000000 in
theorem refNearest_any (s : ByteArray) (a cnt off : Nat) (w : World) (hs : s.size ≤ 4096) (h1 : 1 ≤ off) (h2 : off ≤ a) (h3 : a + cnt ≤ s.size) (h : ((Sums.bl s).drop (a - off)).take cnt = ((Sums.bl s).drop a).take cnt) :
    Calls Try.prog 48 #[.string s, .int .i64 (a : Int), .int .i64 (cnt : Int)] w fun e w' => e = .returned (.int .i64 (Lz.leastF (Sums.bl s) a cnt a 1 : Nat)) ∧ ∃ n, w' = w.drewN n := by
  obtain ⟨R, hR⟩ : ∃ R, Lz.leastF (Sums.bl s) a cnt a 1 = R := ⟨_, rfl⟩
  rw [hR]
  have HR := Hid.mk' hR
  have HH := Hid.mk' h
  obtain ⟨y, hy⟩ : ∃ y, a + cnt = y := ⟨_, rfl⟩
  have hyI : (a : Int) + (cnt : Int) = (y : Int) := by omega
  have hyw : IntKind.i64.wrap (y : Int) = (y : Int) := by rw [IntKind.wrap_i64]; omega
  have hys : y ≤ s.size := by omega
  have hay : a ≤ y := by omega
  obtain ⟨B, hB⟩ : ∃ B, s.extract a y = B := ⟨_, rfl⟩
  have HY := Hid.mk' hy
  clear hR h hy
  go_enter Try.func48, Try.ntmps48
  go_wp2
  go_loopw [7] (fun cv wr => ∃ (x o f j : Nat), cv = .int .i64 (x : Int) ∧ x + o = a ∧ 1 ≤ o ∧ o ≤ off ∧ off < o + f ∧ Hid (Lz.leastF (Sums.bl s) a cnt f o = R) ∧ wr = w.drewN j) (fun cv _ => (intOf cv).toNat)
  case atStart => exact ⟨a - 1, 1, a, 0, by congr 1; omega, by omega, by omega, h1, by omega, HR, rfl⟩
  case round =>
    obtain ⟨x, o, f, j, rfl, hxo, ho1, ho2, hof, hl, rfl⟩ := hrel
    obtain ⟨f, rfl⟩ : ∃ f1, f = f1 + 1 := ⟨f - 1, by omega⟩
    have hx0 : ¬ (x : Int) < 0 := by omega
    have hxI : (a : Int) - (x : Int) = (o : Int) := by omega
    obtain ⟨x2, hx2⟩ : ∃ x2, x + cnt = x2 := ⟨_, rfl⟩
    have hx2I : (x : Int) + (cnt : Int) = (x2 : Int) := by omega
    have hx2w : IntKind.i64.wrap (x2 : Int) = (x2 : Int) := by rw [IntKind.wrap_i64]; omega
    have hx2s : x2 ≤ s.size := by omega
    have hxx2 : x ≤ x2 := by omega
    obtain ⟨A, hA⟩ : ∃ A, s.extract x x2 = A := ⟨_, rfl⟩
    have hiff : A = B ↔ ((Sums.bl s).drop (a - o)).take cnt = ((Sums.bl s).drop a).take cnt := by
      rw [← hA, ← hB, ← hx2, ← HY.out, show a - o = x by omega]
      exact ext_iff s x a cnt
    have hl2 := hl.out
    rw [Lz.leastF] at hl2
    have HL := Hid.mk' (And.intro hl2 hiff)
    have HXO := Hid.mk' hxo
    clear HR hx2 hl hl2 hiff
    by_cases hab : A = B
    · have hnq := fun W => str_eq' A W
      have HE : Hid (o = R) := by
        have := HL.out.1
        rw [if_pos (HL.out.2.1 hab)] at this
        exact this
      rw [← hab] at hB
      clear hab HL hxo
      go_wp2
      go_quiet (fail)
      go_wp2
      go_ret
      refine ⟨?_, j + nq, by simp⟩
      rw [← HE.out]
      rfl
    · have hbl : (A.toList == B.toList) = false := by
        simp only [beq_eq_false_iff_ne, ne_eq]
        intro e
        rw [ByteArray.toList_eq, ByteArray.toList_eq] at e
        exact hab (ByteArray.ext (Array.toList_inj.1 e))
      have hne := fun h => hab (HL.out.2.2 h)
      have hoo : o ≠ off := fun e => hne (by rw [e]; exact HH.out)
      have HE : Hid (Lz.leastF (Sums.bl s) a cnt f (o + 1) = R) := by
        have := HL.out.1
        rw [if_neg hne] at this
        exact this
      clear hab HL hne hxo
      go_wp2
      go_quiet (fail)
      go_wp2
      go_roundw
      case rel =>
        have := HXO.out
        exact ⟨x - 1, o + 1, f, j + nq, by congr 1; omega, by omega, by omega, by omega, by omega, HE, rfl⟩
      case measure =>
        have := HXO.out
        simp [intOf]
        omega
end Go.Proofs.Ytchjmhgalbkjkaa
