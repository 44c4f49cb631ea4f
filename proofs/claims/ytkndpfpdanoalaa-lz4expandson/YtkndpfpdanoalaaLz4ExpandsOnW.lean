/-
  The law Lz4ExpandsOn: every ExpandOn is the document's. Conditions: the text is within reach.
-/
import Derived.Test.YtkndpfpdanoalaaLz4ExpandsW
import Derived.Lib.MinMax
namespace Go.Proofs.Ytkndpfpdanoalaa
open Go.RowKit
set_option linter.unusedVariables false
set_option maxRecDepth 100000 in
set_option maxHeartbeats 1000000 in
theorem lz4ExpandsOn_any (bef b : ByteArray) (most : Int) (w : World) (hbef : bef.size ≤ 140737488351232) (hb : b.size ≤ 140737488351232) (h0 : -9223372036854775808 ≤ most) (h1 : most ≤ 9223372036854775807) :
    Calls Try.prog 4 #[.string bef, .string b, .int .i64 most] w fun e w' => e = .returned (.bool true) ∧ Below w.heap.size w w' := by
  have HS := Hid.mk' (shown_any w)
  have HF := Hid.mk' (fun w => fitting_any b most w (by omega) h0 h1)
  have HE := Hid.mk' (fun (m : Int) (w : World) (hm : m ≤ 9223372036854775807) (hz : m ≤ 35184372088832 ∨ b.size ≤ 137438953472) => expandOn_all bef b m w (by omega) (by omega) hm hz)
  have HR := Hid.mk' (fun (m : Int) (w : World) (hm : m ≤ 9223372036854775807) (hz : m ≤ 35184372088832 ∨ b.size ≤ 137438953472) => refExpandOn_all bef b m w (by omega) (by omega) hm hz)
  go_enter Try.func4, Try.ntmps4
  go_wp2_with (first | (go_at_call 9; refine HS.out.mono ?_; rintro e w1 ⟨rfl, hb1⟩; have HB1 := Hid.mk' hb1; clear hb1) | (go_at_call 10; refine (HF.out _).mono ?_; rintro e w2 ⟨⟨m, rfl, hm0, hm1, hmz⟩, rfl⟩; have HMZ := Hid.mk' hmz; clear hmz; obtain ⟨t, c, p, hR⟩ := expR_shape bef b m; have HRR := Hid.mk' hR; clear hR) | (go_at_call 13; refine (HE.out m _ hm1 HMZ.out).mono ?_; rintro e w3 ⟨rfl, hb3⟩; rw [HRR.out]; have HB3 := Hid.mk' (below_up2 HB1.out HB1.out.size hb3); clear hb3) | (go_at_call 14; refine (HR.out m _ hm1 HMZ.out).mono ?_; rintro e w4 ⟨rfl, hb4⟩; rw [HRR.out]; have HB4 := Hid.mk' (below_up2 HB3.out HB3.out.size hb4); clear hb4) | fail)
  go_ret
  exact ⟨rfl, HB4.out⟩
end Go.Proofs.Ytkndpfpdanoalaa
