/-
  lz4.Compress at the levels 0 to 2, and where it refuses. Conditions: as each says.
-/
import Derived.Test.YtchjmhgalbkjkaaGre
namespace Go.Proofs.Ytchjmhgalbkjkaa
open Go.RowKit
set_option linter.unusedVariables false
def pkV (s : ByteArray) (l : List Lz.Cp) : Value := .tuple #[.string (nums (Lz.packed (Sums.bl s) 0 l)), .int .i64 0]
theorem cpr_nil (w : World) : Cpr w (.slice none 0 0) [] := .inl ⟨rfl, rfl⟩
theorem ap_below {w w' : World} (h : Ap w.heap.size w w') : Below w.heap.size w w' := h.below
theorem okc_greedy (s : ByteArray) (tries : Nat) : okc s.size 0 (Lz.greedy (Sums.bl s) tries) := by
  have := okc_greedyF (Sums.bl s) (Sums.bl_byt s) tries ((Sums.bl s).length + 1) 0
  rw [Lz.greedy]
  rw [Sums.bl_length] at this ⊢
  exact this
theorem cpr_shape {w : World} {v : Value} {l : List Lz.Cp} (h : Cpr w v l) : ∃ b cap, v = .slice b l.length cap := by
  rcases h with ⟨rfl, rfl⟩ | ⟨g, cap, cur, fz, rfl, _⟩
  · exact ⟨none, 0, rfl⟩
  · exact ⟨_, cap, rfl⟩
set_option maxRecDepth 100000 in
set_option maxHeartbeats 1000000 in
theorem compress0_any (s : ByteArray) (w : World) (hs : s.size ≤ 4294967296) :
    Calls Try.prog 10 #[.string s, .int .i64 0] w fun e w' => e = .returned (pkV s []) ∧ Below w.heap.size w w' := by
  unfold pkV
  have HW := Hid.mk' (written_any s (.slice none 0 0) [] w hs (cpr_nil w) trivial)
  go_enter Try.func10, Try.ntmps10
  go_wp2_with (first | (go_at_call 21; refine HW.out.mono ?_; rintro e w2 ⟨rfl, hap⟩; have HA := Hid.mk' hap.below; clear hap) | fail)
  go_ret2
  exact ⟨rfl, HA.out⟩
set_option maxRecDepth 100000 in
set_option maxHeartbeats 1000000 in
theorem compress1_any (s : ByteArray) (w : World) (hs : s.size ≤ 4294967296) :
    Calls Try.prog 10 #[.string s, .int .i64 1] w fun e w' => e = .returned (pkV s (Lz.greedy (Sums.bl s) 1)) ∧ Below w.heap.size w w' := by
  unfold pkV
  have HGR := Hid.mk' (greedy_any s 1 w hs (by omega))
  have HOK := Hid.mk' (okc_greedy s 1)
  have HWR := Hid.mk' (fun (v : Value) (w1 : World) (h : Cpr w1 v (Lz.greedy (Sums.bl s) 1)) => written_any s v _ w1 hs h HOK.out)
  generalize Lz.greedy (Sums.bl s) 1 = l at HGR HOK HWR ⊢
  go_enter Try.func10, Try.ntmps10
  go_wp2_with (first | (go_at_call 22; refine HGR.out.mono ?_; rintro e w1 ⟨v, rfl, hcp, hb1⟩; have HCP := Hid.mk' hcp; have HB1 := Hid.mk' hb1; obtain ⟨b, cap, rfl⟩ := cpr_shape hcp; clear hcp hb1) | (go_at_call 21; refine (HWR.out (.slice b l.length cap) _ (by exact HCP.out)).mono ?_; rintro e w2 ⟨rfl, hap⟩; have HA := Hid.mk' (below_up2 HB1.out HB1.out.size hap.below); clear hap) | fail)
  go_ret2
  exact ⟨rfl, HA.out⟩
set_option maxRecDepth 100000 in
set_option maxHeartbeats 1000000 in
theorem compress2_any (s : ByteArray) (w : World) (hs : s.size ≤ 4294967296) :
    Calls Try.prog 10 #[.string s, .int .i64 2] w fun e w' => e = .returned (pkV s (Lz.greedy (Sums.bl s) 32)) ∧ Below w.heap.size w w' := by
  unfold pkV
  have HGR := Hid.mk' (greedy_any s 32 w hs (by omega))
  have HOK := Hid.mk' (okc_greedy s 32)
  have HWR := Hid.mk' (fun (v : Value) (w1 : World) (h : Cpr w1 v (Lz.greedy (Sums.bl s) 32)) => written_any s v _ w1 hs h HOK.out)
  generalize Lz.greedy (Sums.bl s) 32 = l at HGR HOK HWR ⊢
  go_enter Try.func10, Try.ntmps10
  go_wp2_with (first | (go_at_call 22; refine HGR.out.mono ?_; rintro e w1 ⟨v, rfl, hcp, hb1⟩; have HCP := Hid.mk' hcp; have HB1 := Hid.mk' hb1; obtain ⟨b, cap, rfl⟩ := cpr_shape hcp; clear hcp hb1) | (go_at_call 21; refine (HWR.out (.slice b l.length cap) _ (by exact HCP.out)).mono ?_; rintro e w2 ⟨rfl, hap⟩; have HA := Hid.mk' (below_up2 HB1.out HB1.out.size hap.below); clear hap) | fail)
  go_ret2
  exact ⟨rfl, HA.out⟩
end Go.Proofs.Ytchjmhgalbkjkaa
