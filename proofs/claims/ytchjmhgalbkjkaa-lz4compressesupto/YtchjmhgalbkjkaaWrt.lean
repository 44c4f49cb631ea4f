/-
  lz4.lengthBytes, lz4.literals: what they lay. Conditions: as each says.
-/
import Derived.Test.YtchjmhgalbkjkaaHp
import Derived.Test.YtchjmhgalbkjkaaLzC
namespace Go.Proofs.Ytchjmhgalbkjkaa
open Go.RowKit
set_option linter.unusedVariables false
theorem lenb_few (n : Nat) (h : n < 15) : Lz.lenb n = [] := by simp [Lz.lenb, h]
theorem lenb_more (n k r : Nat) (h : n = 15 + (255 * k + r)) (hr : r < 255) : Lz.lenb n = List.replicate k 255 ++ [r] := by
  subst h
  rw [Lz.lenb, if_neg (by omega), show (15 + (255 * k + r) - 15) / 255 = k by omega, show (15 + (255 * k + r) - 15) % 255 = r by omega]
theorem lenb_len (n : Nat) : (Lz.lenb n).length ≤ n / 255 + 1 := by
  unfold Lz.lenb
  split
  · simp
  · simp
    omega
set_option maxRecDepth 100000 in
set_option maxHeartbeats 1000000 in
theorem lengthBytes_any (base : Nat) (v : Value) (l : List Nat) (count : Nat) (w : World) (hown : w.ownsRow base 5 1 v l.length (byv l)) (hb : base ≤ w.heap.size) (hsz : l.length + count ≤ 70368744177664) :
    Calls Try.prog 36 #[v, .int .i64 (count : Int)] w fun e w' => ∃ v', e = .returned v' ∧ w'.ownsRow base 5 1 v' (l ++ Lz.lenb count).length (byv (l ++ Lz.lenb count)) ∧ Ap base w w' := by
  obtain ⟨i0, hi, hz0, hz1, hz2⟩ := info_parts infoB
  by_cases hf : count < 15
  · rw [lenb_few count hf, List.append_nil]
    have hfI : (count : Int) < 15 := by omega
    obtain ⟨b, cap, rfl⟩ := own_shape hown
    have HO := Hid.mk' hown
    clear hown
    go_enter Try.func36, Try.ntmps36
    go_wp2
    go_ret
    exact ⟨_, rfl, HO.out, Ap.refl _ _⟩
  · have hfI : ¬ (count : Int) < 15 := by omega
    obtain ⟨c, hc⟩ : ∃ c, count = 15 + c := ⟨count - 15, by omega⟩
    have hcI : (count : Int) - 15 = (c : Int) := by omega
    obtain ⟨b, cap, rfl⟩ := own_shape hown
    have HO := Hid.mk' hown
    have HC := Hid.mk' hc
    clear hown hc
    go_enter Try.func36, Try.ntmps36
    go_wp2
    go_loopw [0, 5] (fun ov lv wr => ∃ (k r n : Nat), lv = .int .i64 (r : Int) ∧ c = 255 * k + r ∧ n = l.length + k ∧ wr.ownsRow base 5 1 ov n (byv (l ++ List.replicate k 255)) ∧ Ap base w wr ∧ base ≤ wr.heap.size) (fun _ lv _ => (intOf lv).toNat)
    case atStart => exact ⟨0, c, l.length, rfl, by omega, by omega, by simpa using HO.out, Ap.refl _ _, hb⟩
    case round =>
      obtain ⟨k, r, n, rfl, hk, hn, hown, hap, hbw⟩ := hrel
      obtain ⟨b2, cap2, rfl⟩ := own_shape hown
      have hcb := HC.out
      have HOW := Hid.mk' hown
      have HAP := Hid.mk' hap
      have HN := Hid.mk' hn
      have HK := Hid.mk' hk
      have hnb : n + 1 ≤ 140737488355328 := by omega
      have hrb : r ≤ 70368744177664 := by omega
      clear hown hap hn hcb hk
      by_cases hr : r < 255
      · have hrI : ¬ (255 : Int) ≤ (r : Int) := by omega
        go_wp2_with (first | (at_builtin; refine wpList_append_own _ rfl _ _ 58 rfl base 5 i0 (.int .u8 0) 1 1 Try.underlying58 hi hz0 hz1 hz2 rfl (by decide) (.slice b2 n cap2) n (byv (l ++ List.replicate k 255)) rfl (by exact (own_alloc HOW.out _)) ⟨_, 0, none⟩ 1 1 [.int .u8 (r : Int)] rfl rfl (n1_news _ _ _) (byv_one [r]) (by unfold maxLen; omega) (by omega) (by simp; omega) ?_; intro v2 w2 hown2 hgrow2 _; have HO2 := Hid.mk' hown2; have HG2 := Hid.mk' (ap_add HAP.out HOW.out hbw hgrow2); clear hown2 hgrow2) | fail)
        go_ret
        refine ⟨_, rfl, ?_, HG2.out.1⟩
        have hn := HN.out
        rw [lenb_more count k r (by have := HC.out; have := HK.out; omega) hr]
        have e : l.length + (List.replicate k 255 ++ [r]).length = n + 1 := by simp; omega
        rw [e, ← List.append_assoc, byv_append]
        exact HO2.out
      · have hrI : (255 : Int) ≤ (r : Int) := by omega
        go_wp2_with (first | (at_builtin; refine wpList_append_own _ rfl _ _ 58 rfl base 5 i0 (.int .u8 0) 1 1 Try.underlying58 hi hz0 hz1 hz2 rfl (by decide) (.slice b2 n cap2) n (byv (l ++ List.replicate k 255)) rfl (by exact (own_alloc HOW.out _)) ⟨_, 0, none⟩ 1 1 [.int .u8 255] rfl rfl (n1_news _ _ _) (byv_one [255]) (by unfold maxLen; omega) (by omega) (by simp; omega) ?_; intro v2 w2 hown2 hgrow2 _; have HO2 := Hid.mk' hown2; have HG2 := Hid.mk' (ap_add HAP.out HOW.out hbw hgrow2); clear hown2 hgrow2) | fail)
        go_roundw
        case rel =>
          have hn := HN.out
          have hk := HK.out
          refine ⟨k + 1, r - 255, n + 1, by congr 1; omega, by omega, by omega, ?_, HG2.out.1, HG2.out.2⟩
          rw [List.replicate_succ', ← List.append_assoc, byv_append]
          exact HO2.out
        case measure =>
          simp [intOf]
          omega
theorem half_token (a b : Nat) (ha : a ≤ 15) (hb : b ≤ 15) : bits .or .i64 ((a : Int) * 16) (b : Int) = ((16 * a + b : Nat) : Int) := by
  have : ∀ a ≤ 15, ∀ b ≤ 15, bits .or .i64 ((a : Nat) * 16 : Int) ((b : Nat) : Int) = ((16 * a + b : Nat) : Int) := by decide +kernel
  exact this a ha b hb
set_option maxRecDepth 100000 in
set_option maxHeartbeats 1000000 in
theorem literals_any (base : Nat) (v : Value) (l : List Nat) (s : ByteArray) (beyond : Nat) (w : World) (hown : w.ownsRow base 5 1 v l.length (byv l)) (hb : base ≤ w.heap.size) (hbe : beyond ≤ 140737488355328) (hsz : l.length + s.size ≤ 35184372088832) :
    Calls Try.prog 35 #[v, .string s, .int .i64 (beyond : Int)] w fun e w' => ∃ v', e = .returned v' ∧ w'.ownsRow base 5 1 v' (l ++ Lz.lits (Sums.bl s) beyond).length (byv (l ++ Lz.lits (Sums.bl s) beyond)) ∧ Ap base w w' := by
  obtain ⟨i0, hi, hz0, hz1, hz2⟩ := info_parts infoB
  obtain ⟨b, cap, rfl⟩ := own_shape hown
  have HO := Hid.mk' hown
  clear hown
  obtain ⟨a1, ha1⟩ : ∃ a1, a1 = min s.size 15 := ⟨_, rfl⟩
  obtain ⟨a2, ha2⟩ : ∃ a2, a2 = min beyond 15 := ⟨_, rfl⟩
  have h1I : min (s.size : Int) 15 = (a1 : Int) := by omega
  have h2I : min (beyond : Int) 15 = (a2 : Int) := by omega
  have hor := half_token a1 a2 (by omega) (by omega)
  obtain ⟨t, ht⟩ : ∃ t, 16 * a1 + a2 = t := ⟨_, rfl⟩
  rw [ht] at hor
  have ht256 : t < 256 := by omega
  obtain ⟨L1, hL1⟩ : ∃ L1, L1 = l ++ [t] := ⟨_, rfl⟩
  have hL1l : L1.length = l.length + 1 := by rw [hL1]; simp
  have hfin : l ++ Lz.lits (Sums.bl s) beyond = (L1 ++ Lz.lenb s.size) ++ Sums.bl s := by
    rw [hL1, Lz.lits, Sums.bl_length, ← ha1, ← ha2, ht]
    simp
  have hll := lenb_len s.size
  rw [hfin]
  have HA := Hid.mk' (And.intro ha1 ha2)
  have HL := Hid.mk' hL1
  have HLL := Hid.mk' hL1l
  have ha1b : a1 ≤ 15 := by omega
  have ha2b : a2 ≤ 15 := by omega
  obtain ⟨L2, hL2⟩ : ∃ L2, L1 ++ Lz.lenb s.size = L2 := ⟨_, rfl⟩
  have hL2l : L2.length + s.size ≤ 140737488355328 := by rw [← hL2, List.length_append]; omega
  have hL1b : L1.length + s.size ≤ 70368744177664 := by omega
  have HLB := Hid.mk' (fun (v : Value) (w : World) => lengthBytes_any base v L1 s.size w)
  rw [hL2] at HLB ⊢
  clear ha1 ha2 hL1 hL1l hfin hL2 hll ht
  go_enter Try.func35, Try.ntmps35
  go_wp2_with (first | (at_builtin; refine wpList_append_own _ rfl _ _ 58 rfl base 5 i0 (.int .u8 0) 1 1 Try.underlying58 hi hz0 hz1 hz2 rfl (by decide) (.slice b l.length cap) l.length (byv l) rfl (by exact (own_alloc HO.out _)) ⟨_, 0, none⟩ 1 1 [.int .u8 (t : Int)] rfl rfl (n1_news _ _ _) (byv_one [t]) (by unfold maxLen; omega) (by omega) (by simp; omega) ?_; intro v2 w2 hown2 hgrow2 _; have HO2 := Hid.mk' (show w2.ownsRow base 5 1 v2 L1.length (byv L1) by rw [HLL.out, HL.out, byv_append]; exact hown2); have HG2 := Hid.mk' (ap_add (Ap.refl base w) HO.out hb hgrow2); clear hown2 hgrow2; obtain ⟨b2, cap2, rfl⟩ := own_shape HO2.out) | (go_at_call 36; refine (HLB.out (.slice b2 L1.length cap2) _ (by exact HO2.out) HG2.out.2 hL1b).mono ?_; rintro e w3 ⟨v3, rfl, hown3, hap3⟩; have HO3 := Hid.mk' hown3; have HA3 := Hid.mk' (And.intro (HG2.out.1.trans hap3) (Nat.le_trans HG2.out.2 hap3.below.size)); clear hown3 hap3; obtain ⟨b3, cap3, rfl⟩ := own_shape HO3.out) | (at_builtin; refine Go.Lib.wpList_append_own_string _ rfl _ _ 58 9 rfl base 5 i0 Try.underlying58 Try.underlying9 hi hz0 hz1 hz2 (.slice b3 L2.length cap3) L2.length (byv L2) rfl HO3.out s rfl (by unfold maxLen; omega) hL2l HA3.out.2 ?_; intro v4 w4 hown4 hgrow4 _; have HO4 := Hid.mk' hown4; have HG4 := Hid.mk' (HA3.out.1.grown HO3.out HA3.out.2 hgrow4); clear hown4 hgrow4) | fail)
  go_ret
  refine ⟨_, rfl, ?_, HG4.out⟩
  rw [List.length_append, Sums.bl_length, byv_append, ← strc_byv]
  exact HO4.out
end Go.Proofs.Ytchjmhgalbkjkaa
