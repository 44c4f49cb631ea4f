/-
  The case at the head of the statements: a text of twenty bytes, packed and unpacked. No conditions.
-/
import Derived.Test.YtchjmhgalbkjkaaCps
import Derived.Test.YtchjmhgalbkjkaaExp
namespace Go.Proofs.Ytchjmhgalbkjkaa
open Go.RowKit
set_option linter.unusedVariables false
def tw : ByteArray := ⟨#[97, 97, 97, 97, 97, 97, 97, 97, 97, 97, 97, 97, 97, 97, 97, 97, 97, 97, 97, 97]⟩
def twp : ByteArray := ⟨#[26, 97, 1, 0, 80, 97, 97, 97, 97, 97]⟩
theorem tw_packed : pkV tw (Lz.greedy (Sums.bl tw) 1) = .tuple #[.string twp, .int .i64 0] := by kernel_rfl
theorem tw_said : expR ⟨#[]⟩ twp 20 = .tuple #[.string tw, .int .i64 0, .int .i64 0] := by kernel_rfl
set_option maxRecDepth 100000 in
set_option maxHeartbeats 1000000 in
theorem shown_any (w : World) : Calls Try.prog 9 #[] w fun e w' => e = .returned (.bool true) ∧ Below w.heap.size w w' := by
  have HC := Hid.mk' (compress1_any tw w (by decide))
  have HE := Hid.mk' (fun w => expand_all twp 20 w (by decide) (by decide) (by decide))
  rw [tw_packed] at HC
  simp only [tw_said] at HE
  unfold tw twp at HC HE
  go_enter Try.func9, Try.ntmps9
  go_wp2_with (first | (go_at_call 10; refine HC.out.mono ?_; rintro e w1 ⟨rfl, hb1⟩; have HB1 := Hid.mk' hb1; clear hb1) | (go_at_call 16; refine (HE.out _).mono ?_; rintro e w2 ⟨rfl, hb2⟩; have HB2 := Hid.mk' (below_up2 HB1.out HB1.out.size hb2); clear hb2) | fail)
  go_ret
  exact ⟨rfl, HB2.out⟩
end Go.Proofs.Ytchjmhgalbkjkaa
