/-
  Lz4Compresses returns true. Conditions: each text has at most 1048576 bytes.
-/
import Derived.Test.YtchjmhgalbkjkaaRfg
import Derived.Test.YtchjmhgalbkjkaaRfj
import Derived.Test.YtchjmhgalbkjkaaRfl
import Derived.Test.YtchjmhgalbkjkaaShn
namespace Go.Proofs.Ytchjmhgalbkjkaa
open Go.RowKit
set_option linter.unusedVariables false
theorem cprR_nil (w : World) : CprR w (.slice none 0 0) [] := .inl ⟨rfl, rfl⟩
theorem cprR_shape {w : World} {v : Value} {l : List Lz.Cp} (h : CprR w v l) : ∃ b cap, v = .slice b l.length cap := by
  rcases h with ⟨rfl, rfl⟩ | ⟨g, cap, cur, fz, rfl, _⟩
  · exact ⟨none, 0, rfl⟩
  · exact ⟨_, cap, rfl⟩
set_option maxRecDepth 100000 in
set_option maxHeartbeats 1000000 in
theorem refCompress0_any (s : ByteArray) (w : World) (hs : s.size ≤ 4294967296) :
    Calls Try.prog 11 #[.string s, .int .i64 0] w fun e w' => e = .returned (pkV s []) ∧ Below w.heap.size w w' := by
  unfold pkV
  have HW := Hid.mk' (refPacked_any s (.slice none 0 0) [] w hs (cprR_nil w) trivial)
  go_enter Try.func11, Try.ntmps11
  go_wp2_with (first | (go_at_call 24; refine HW.out.mono ?_; rintro e w2 ⟨rfl, hap⟩; have HA := Hid.mk' hap.below; clear hap) | fail)
  go_ret2
  exact ⟨rfl, HA.out⟩
set_option maxRecDepth 100000 in
set_option maxHeartbeats 1000000 in
theorem refCompress1_any (s : ByteArray) (w : World) (hs : s.size ≤ 4294967296) :
    Calls Try.prog 11 #[.string s, .int .i64 1] w fun e w' => e = .returned (pkV s (Lz.greedy (Sums.bl s) 1)) ∧ Below w.heap.size w w' := by
  unfold pkV
  have HGR := Hid.mk' (refForward_any s 1 w hs (by omega))
  have HOK := Hid.mk' (okc_greedy s 1)
  have HWR := Hid.mk' (fun (v : Value) (w1 : World) (h : CprR w1 v (Lz.greedy (Sums.bl s) 1)) => refPacked_any s v _ w1 hs h HOK.out)
  generalize Lz.greedy (Sums.bl s) 1 = l at HGR HOK HWR ⊢
  go_enter Try.func11, Try.ntmps11
  go_wp2_with (first | (go_at_call 25; refine HGR.out.mono ?_; rintro e w1 ⟨v, rfl, hcp, hb1⟩; have HCP := Hid.mk' hcp; have HB1 := Hid.mk' hb1; obtain ⟨b, cap, rfl⟩ := cprR_shape hcp; clear hcp hb1) | (go_at_call 24; refine (HWR.out (.slice b l.length cap) _ (by exact HCP.out)).mono ?_; rintro e w2 ⟨rfl, hap⟩; have HA := Hid.mk' (below_up2 HB1.out HB1.out.size hap.below); clear hap) | fail)
  go_ret2
  exact ⟨rfl, HA.out⟩
set_option maxRecDepth 100000 in
set_option maxHeartbeats 1000000 in
theorem refCompress2_any (s : ByteArray) (w : World) (hs : s.size ≤ 4294967296) :
    Calls Try.prog 11 #[.string s, .int .i64 2] w fun e w' => e = .returned (pkV s (Lz.greedy (Sums.bl s) 32)) ∧ Below w.heap.size w w' := by
  unfold pkV
  have HGR := Hid.mk' (refForward_any s 32 w hs (by omega))
  have HOK := Hid.mk' (okc_greedy s 32)
  have HWR := Hid.mk' (fun (v : Value) (w1 : World) (h : CprR w1 v (Lz.greedy (Sums.bl s) 32)) => refPacked_any s v _ w1 hs h HOK.out)
  generalize Lz.greedy (Sums.bl s) 32 = l at HGR HOK HWR ⊢
  go_enter Try.func11, Try.ntmps11
  go_wp2_with (first | (go_at_call 25; refine HGR.out.mono ?_; rintro e w1 ⟨v, rfl, hcp, hb1⟩; have HCP := Hid.mk' hcp; have HB1 := Hid.mk' hb1; obtain ⟨b, cap, rfl⟩ := cprR_shape hcp; clear hcp hb1) | (go_at_call 24; refine (HWR.out (.slice b l.length cap) _ (by exact HCP.out)).mono ?_; rintro e w2 ⟨rfl, hap⟩; have HA := Hid.mk' (below_up2 HB1.out HB1.out.size hap.below); clear hap) | fail)
  go_ret2
  exact ⟨rfl, HA.out⟩
set_option maxRecDepth 100000 in
set_option maxHeartbeats 1000000 in
theorem refCompress3_any (s : ByteArray) (w : World) (hs : s.size ≤ 4096) :
    Calls Try.prog 11 #[.string s, .int .i64 3] w fun e w' => e = .returned (pkV s (best3 s)) ∧ Below w.heap.size w w' := by
  unfold pkV
  have HGR := Hid.mk' (refShortest_any s w hs)
  have HOK := Hid.mk' (okc_tru s _ 0 (best3_tru s hs))
  have HWR := Hid.mk' (fun (v : Value) (w1 : World) (h : CprR w1 v (best3 s)) => refPacked_any s v _ w1 (by omega) h HOK.out)
  generalize best3 s = l at HGR HOK HWR ⊢
  have h4 : ¬ (4096 : Int) < (s.size : Int) := by omega
  have h4B : decide ((4096 : Int) < (s.size : Int)) = false := by simp; omega
  go_enter Try.func11, Try.ntmps11
  go_wp2_with (first | (go_at_call 26; refine HGR.out.mono ?_; rintro e w1 ⟨v, rfl, hcp, hb1⟩; have HCP := Hid.mk' hcp; have HB1 := Hid.mk' hb1; obtain ⟨b, cap, rfl⟩ := cprR_shape hcp; clear hcp hb1) | (go_at_call 24; refine (HWR.out (.slice b l.length cap) _ (by exact HCP.out)).mono ?_; rintro e w2 ⟨rfl, hap⟩; have HA := Hid.mk' (below_up2 HB1.out HB1.out.size hap.below); clear hap) | fail)
  go_ret2
  exact ⟨rfl, HA.out⟩
theorem refCompress3_long (s : ByteArray) (w : World) (hs : 4096 < s.size) :
    Calls Try.prog 11 #[.string s, .int .i64 3] w fun e w' => e = .returned (.tuple #[.string ⟨#[]⟩, .int .i64 43]) ∧ w' = w := by
  have h4 : (4096 : Int) < (s.size : Int) := by omega
  have h4B : decide ((4096 : Int) < (s.size : Int)) = true := by simp; omega
  go_enter Try.func11, Try.ntmps11
  go_wp2
  go_ret2
  exact ⟨rfl, rfl⟩
theorem refCompress_arg (s : ByteArray) (level : Int) (w : World) (h : level < 0 ∨ 3 < level) :
    Calls Try.prog 11 #[.string s, .int .i64 level] w fun e w' => e = .returned (.tuple #[.string ⟨#[]⟩, .int .i64 1]) ∧ w' = w := by
  by_cases h0 : level < 0
  · have h0B : decide (level < 0) = true := by simp; omega
    go_enter Try.func11, Try.ntmps11
    go_wp2
    go_ret2
    exact ⟨rfl, rfl⟩
  · have h0B : decide (level < 0) = false := by simp; omega
    have h3 : 3 < level := by omega
    have h3B : decide (3 < level) = true := by simp; omega
    go_enter Try.func11, Try.ntmps11
    go_wp2
    go_ret2
    exact ⟨rfl, rfl⟩
theorem below_eq {e : Ending} {x : Value} {w w' : World} (h : e = .returned x ∧ w' = w) : e = .returned x ∧ Below w.heap.size w w' := by
  obtain ⟨h1, rfl⟩ := h
  exact ⟨h1, Below.refl _ _⟩
/-- both tell the same, whatever the level -/
theorem both_same (s : ByteArray) (level : Int) (hs : s.size ≤ 1048576) : ∃ (S : ByteArray) (E : Int), (∀ w : World, Calls Try.prog 10 #[.string s, .int .i64 level] w fun e w' => e = .returned (.tuple #[.string S, .int .i64 E]) ∧ Below w.heap.size w w') ∧ (∀ w : World, Calls Try.prog 11 #[.string s, .int .i64 level] w fun e w' => e = .returned (.tuple #[.string S, .int .i64 E]) ∧ Below w.heap.size w w') := by
  by_cases h : level < 0 ∨ 3 < level
  · exact ⟨_, _, fun w => (compress_arg s level w h).mono fun _ _ h => below_eq h, fun w => (refCompress_arg s level w h).mono fun _ _ h => below_eq h⟩
  · rcases (show level = 0 ∨ level = 1 ∨ level = 2 ∨ level = 3 by omega) with rfl | rfl | rfl | rfl
    · exact ⟨_, _, fun w => compress0_any s w (by omega), fun w => refCompress0_any s w (by omega)⟩
    · exact ⟨_, _, fun w => compress1_any s w (by omega), fun w => refCompress1_any s w (by omega)⟩
    · exact ⟨_, _, fun w => compress2_any s w (by omega), fun w => refCompress2_any s w (by omega)⟩
    · by_cases h4 : s.size ≤ 4096
      · exact ⟨_, _, fun w => compress3_any s w h4, fun w => refCompress3_any s w h4⟩
      · exact ⟨_, _, fun w => (compress3_long s w (by omega)).mono fun _ _ h => below_eq h, fun w => (refCompress3_long s w (by omega)).mono fun _ _ h => below_eq h⟩
set_option maxRecDepth 100000 in
set_option maxHeartbeats 1000000 in
theorem lz4Compresses_any (s : ByteArray) (level : Int) (other : ByteArray) (w : World) (hs : s.size ≤ 1048576) (hl1 : -9223372036854775808 ≤ level) (hl2 : level ≤ 9223372036854775807) (ho : other.size ≤ 1048576) :
    Calls Try.prog 3 #[.string s, .int .i64 level, .string other] w fun e w' => e = .returned (.bool true) ∧ Below w.heap.size w w' := by
  have HSH := Hid.mk' (shown_any w)
  obtain ⟨S, E, h1, h2⟩ := both_same s level hs
  have HA := Hid.mk' h1
  have HR := Hid.mk' h2
  have HO := Hid.mk' (fun w => compress2_any other w (by omega))
  unfold pkV at HO
  have hq := fun w => str_eq' S w
  clear h1 h2
  go_enter Try.func3, Try.ntmps3
  go_wp2_with (first | (go_at_call 9; refine HSH.out.mono ?_; rintro e w1 ⟨rfl, hb1⟩; have HB1 := Hid.mk' hb1; clear hb1) | (go_at_call_of 10 level; refine (HA.out _).mono ?_; rintro e w2 ⟨rfl, hb2⟩; have HB1 := Hid.mk' (below_up2 HB1.out HB1.out.size hb2); clear hb2) | (go_at_call_of 10 other; refine (HO.out _).mono ?_; rintro e w2 ⟨rfl, hb2⟩; have HB1 := Hid.mk' (below_up2 HB1.out HB1.out.size hb2); clear hb2) | (go_at_call 11; refine (HR.out _).mono ?_; rintro e w2 ⟨rfl, hb2⟩; have HB1 := Hid.mk' (below_up2 HB1.out HB1.out.size hb2); clear hb2) | fail)
  go_ret
  exact ⟨rfl, HB1.out⟩
end Go.Proofs.Ytchjmhgalbkjkaa
