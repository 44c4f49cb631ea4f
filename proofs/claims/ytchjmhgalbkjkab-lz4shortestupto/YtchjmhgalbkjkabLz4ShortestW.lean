/-
  Lz4Shortest returns true. Conditions: the text has at most 1048576 bytes; the list's cells are read as the argument's.
-/
import Derived.Test.YtchjmhgalbkjkabLvq
import Derived.Test.YtchjmhgalbkjkabShn
namespace Go.Proofs.Ytchjmhgalbkjkab
open Go.RowKit Go.Shelf
set_option linter.unusedVariables false
set_option linter.unusedSimpArgs false
/-- what a level packs -/
theorem packs (s : ByteArray) (k : Nat) (hk : k < 4) (hs : s.size ≤ 1048576) (h3 : k = 3 → s.size ≤ 4096) : ∃ cs, Lz.tru (Sums.bl s) 0 cs ∧ ∀ w : World, Calls Try.prog 6 #[.string s, .int .i64 (k : Int)] w fun e w' => e = .returned (.tuple #[.string (packC s cs), .int .i64 0]) ∧ Below w.heap.size w w' := by
  rcases (show k = 0 ∨ k = 1 ∨ k = 2 ∨ k = 3 by omega) with rfl | rfl | rfl | rfl
  · exact ⟨[], trivial, fun w => compress0_any s w (by omega)⟩
  · exact ⟨_, Lz.greedy_true (Sums.bl s) (Sums.bl_byt s) 1, fun w => compress1_any s w (by omega)⟩
  · exact ⟨_, Lz.greedy_true (Sums.bl s) (Sums.bl_byt s) 32, fun w => compress2_any s w (by omega)⟩
  · exact ⟨_, best3_tru s (h3 rfl), fun w => compress3_any s w (h3 rfl)⟩
theorem packC_len (s : ByteArray) (cs : List Lz.Cp) (h : Lz.tru (Sums.bl s) 0 cs) : (packC s cs).size = (Lz.packed (Sums.bl s) 0 cs).length := by
  rw [← Sums.bl_length, packC_bl s cs h, lastT_bl, Lz.packed_enc]
theorem best3_cost (s : ByteArray) (hs : s.size ≤ 4096) : (packC s (best3 s)).size = (Lz.wv s.size (Lz.rch (Sums.bl s) (s.size - 1)) 0).1 := by
  have hsl := Sums.bl_length s
  rw [packC_len s _ (best3_tru s hs)]
  have h := Lz.unr_cost (Sums.bl s) (Lz.rch (Sums.bl s) (s.size - 1)) (fun x => Lz.rch_le (Sums.bl s) (s.size - 1) x) (s.size + 1) 0 (by rw [hsl]; omega) (Nat.zero_le _)
  rw [hsl] at h
  exact h
theorem best3_least (s : ByteArray) (hs : s.size ≤ 4096) (cs : List Lz.Cp) (h : Lz.tru (Sums.bl s) 0 cs) : (packC s (best3 s)).size ≤ (packC s cs).size := by
  rw [best3_cost s hs, packC_len s cs h]
  have := Lz.wv_tru (Sums.bl s) cs 0 h (Nat.zero_le _)
  rw [Sums.bl_length] at this
  exact this
set_option maxRecDepth 100000 in
set_option maxHeartbeats 4000000 in
theorem lz4Shortest_any (s : ByteArray) (pp : Option Addr) (cap : Nat) (L : List Int) (w : World) (hs : s.size ≤ 1048576) (hz : ∀ z ∈ L, -9223372036854775808 ≤ z ∧ z ≤ 9223372036854775807) (hc : ∀ i, i < L.length → ∃ g off, pp = some ⟨g, off, none⟩ ∧ w.cell? ⟨g, off + i, none⟩ = some (.int .i64 (L.getD i 0))) :
    Calls Try.prog 4 #[.string s, .slice pp L.length cap] w fun e w' => e = .returned (.bool true) ∧ Below w.heap.size w w' := by
  have HSH := Hid.mk' (shown_any w)
  by_cases hlong : 4096 < s.size
  · have h4 : (4096 : Int) < (s.size : Int) := by omega
    have h4B : decide ((4096 : Int) < (s.size : Int)) = true := by simp; omega
    have HC := Hid.mk' (fun W => compress3_long s W hlong)
    clear hlong hc hz
    go_enter Try.func4, Try.ntmps4
    go_wp2_with (first | (go_at_call 5; refine HSH.out.mono ?_; rintro e w1 ⟨rfl, hb1⟩; have HB1 := Hid.mk' hb1; clear hb1) | (go_at_call 6; refine (HC.out _).mono ?_; rintro e w' ⟨rfl, hw'⟩; have hw2 := hw'.symm; subst hw2) | fail)
    go_ret
    exact ⟨rfl, HB1.out⟩
  · have h4 : ¬ (4096 : Int) < (s.size : Int) := by omega
    have hs4 : s.size ≤ 4096 := by omega
    have htru := best3_tru s hs4
    have hle := best3_least s hs4
    have hcost := best3_cost s hs4
    have HCM : Hid (∀ W : World, Calls Try.prog 6 #[.string s, .int .i64 3] W fun e w' => e = .returned (.tuple #[.string (packC s (best3 s)), .int .i64 0]) ∧ Below W.heap.size W w') := fun W => compress3_any s W hs4
    have HCP := Hid.mk' (fun w => copies_any s (best3 s) w (by omega) htru (by have := packC_le s (best3 s) htru; omega))
    obtain ⟨P, hP⟩ : ∃ P, packC s (best3 s) = P := ⟨_, rfl⟩
    rw [hP] at HCM HCP hcost
    simp only [hP] at hle
    have HPG : Hid (∀ W : World, Below w.heap.size w W → Calls Try.prog 10 #[.string s, .slice pp L.length cap] W fun e w' => ∃ N : Nat, e = .returned (.int .i64 (N : Int)) ∧ P.size ≤ N ∧ Below W.heap.size W w') := by
      intro W hW
      refine (packing_any s pp cap L _ W hs4 rfl hz (fun i hi => ?_)).mono ?_
      · obtain ⟨g, off, h1, h2⟩ := hc i hi
        exact ⟨g, off, h1, (hW.cell (p := ⟨g, off + i, none⟩) (World.block_lt_of_cell? w ⟨g, off + i, none⟩ h2)).trans h2⟩
      · rintro e w' ⟨N, rfl, h1, h2, h3⟩
        exact ⟨N, rfl, by rw [hcost]; exact h2, h3⟩
    have HLE := Hid.mk' hle
    clear hP hle hcost htru hz hc hlong
    go_enter Try.func4, Try.ntmps4
    go_upto_region 5 with (first | (go_at_call 5; refine HSH.out.mono ?_; rintro e w1 ⟨rfl, hb1⟩; have HB1 := Hid.mk' hb1; clear hb1) | (go_at_call 6; refine (HCM.out _).mono ?_; rintro e w2 ⟨rfl, hb2⟩; have HB2 := Hid.mk' (below_up2 HB1.out HB1.out.size hb2); clear hb2) | fail)
    go_wp2_with (first | (go_at_call 7; refine (HCP.out _).mono ?_; rintro e w5 ⟨av, ov, rfl, hra, hro, hb5⟩; obtain ⟨ab, ac, rfl⟩ := row_shape' hra; obtain ⟨ob, oc, rfl⟩ := row_shape' hro; have HB5 := Hid.mk' (below_up2 HB2.out HB2.out.size hb5); clear hra hro hb5) | (go_at_call 10; refine (HPG.out _ (by exact HB5.out)).mono ?_; rintro e w6 ⟨N, rfl, hN, hb6⟩; have HB6 := Hid.mk' (below_up2 HB5.out HB5.out.size hb6); have hNI : ¬ (N : Int) < (P.size : Int) := (by omega); have hNB : decide ((N : Int) < (P.size : Int)) = false := (by simp; omega); have hNN : decide (N < P.size) = false := (by simp; omega); clear hb6) | fail)
    go_loopw [11] (fun kv wr => ∃ k : Nat, kv = .int .i64 (k : Int) ∧ k ≤ 3 ∧ Hid (Below w.heap.size w wr)) (fun kv _ => 3 - (intOf kv).toNat)
    case atStart => exact ⟨0, by simp, by omega, HB6⟩
    case round =>
      obtain ⟨k, rfl, hk, hbel⟩ := hrel
      clear HCM HCP HPG HSH HB1 HB2 HB5
      by_cases hk3 : k < 3
      · have hk3I : (k : Int) < 3 := by omega
        obtain ⟨cs, htru, hcm⟩ := packs s k (by omega) hs (fun h => by omega)
        have hPP := HLE.out cs htru
        have HCM := Hid.mk' hcm
        obtain ⟨Q, hQ⟩ : ∃ Q, packC s cs = Q := ⟨_, rfl⟩
        rw [hQ] at hPP HCM
        have hQI : ¬ (Q.size : Int) < (P.size : Int) := by omega
        have hQB : decide ((Q.size : Int) < (P.size : Int)) = false := by simp; omega
        have hQN : decide (Q.size < P.size) = false := by simp; omega
        clear hcm htru hQ
        go_wp2_with (go_at_call 6; refine (HCM.out _).mono ?_; rintro e w7 ⟨rfl, hb7⟩; have HB7 := Hid.mk' (below_up2 hbel.out hbel.out.size hb7); clear hb7)
        go_roundw
        case rel => exact ⟨k + 1, by simp, by omega, HB7⟩
        case measure =>
          simp [intOf]
          omega
      · have hk3I : ¬ (k : Int) < 3 := by omega
        go_wp2_with fail
        go_ret
        exact ⟨rfl, hbel.out⟩
end Go.Proofs.Ytchjmhgalbkjkab
