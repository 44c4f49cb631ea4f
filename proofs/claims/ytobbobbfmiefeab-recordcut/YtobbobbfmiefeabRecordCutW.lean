/-
  The walk of the law RecordCut: whatever lines and numbers it is given it returns true, and of what was there nothing turns. Conditions: lines and texts no longer than they can be, numbers of their types.
-/
import Derived.Test.YtobbobbfmiefeabRcR
namespace Rec
open Code Sums
theorem sz_may2 (l : List Ln) (h : ∀ x ∈ l, bad x = 0) (hl : l.length ≤ 2000) (hw : wt l ≤ 131062) : szF l ≤ 131070 := by
  have h1 := sz_wt l 0 (by decide) (by decide) h
  have h2 := enc_len 1 10 l.length (by omega)
  unfold szF nmF uint
  omega
end Rec
namespace Go.Proofs.Ytobbobbfmiefeab
open Go.RowKit
set_option linter.unusedVariables false
theorem conv_one {W : World} {g : Nat} {c : Nat} {t : TypeId} {fz : Nat × Nat} (h : W.heap[g]? = some (.cells #[.int .u8 (c : Int)] t fz)) : (convert 44 9 (.slice (some ⟨g, 0, none⟩) 1 1)).run Try.prog W = .ok (.string (nums [c])) W := by
  refine run_convert_bytes_arg _ 44 5 Try.underlying44 Try.underlying5 g 0 1 1 _ (by simp) (fun i hi => ?_) 9 Try.underlying9
  obtain rfl : i = 0 := by omega
  simp only [World.cell?]
  rw [Nat.add_zero, h]
  simp
set_option maxHeartbeats 2000000 in
set_option maxRecDepth 100000 in
theorem recordCut_any (v : Value) (l : List Rec.Ln) (cut : Int) (m : Nat) (w : World) (h : LsAt v l w) (hl : l.length ≤ 140737488351232) (ht : ∀ x ∈ l, x.2.size ≤ 140737488351232 ∧ -9223372036854775808 ≤ x.1 ∧ x.1 ≤ 9223372036854775807) (hc0 : -9223372036854775808 ≤ cut) (hc1 : cut ≤ 9223372036854775807) (hm : m < 256) :
    Calls Try.prog 4 #[v, .int .i64 cut, .int .u8 (m : Int)] w fun e w' => e = .returned (.bool true) ∧ Below w.heap.size w w' := by
  have HLS := Hid.mk' h
  have HT := Hid.mk' ht
  clear h ht
  go_enter Try.func4, Try.ntmps4
  go_wp2_with fail
  refine (examples_any w).mono ?_
  rintro e w1 ⟨rfl, hb1⟩
  have HB1 := Hid.mk' hb1
  clear hb1
  go_wp2_with fail
  refine (may_any v l w1 (HLS.out.below HB1.out) hl HT.out).mono ?_
  rintro e w2 ⟨v2, M, rfl, hown, hok, hM, hwt, hb2⟩
  have HB2 : Hid (Below w.heap.size w w2) := below_up HB1.out hb2 (Nat.le_refl _)
  have HL2 : Hid (LsAt v2 M w2) := own_ls hown
  have HOK := Hid.mk' hok
  have hsz := Rec.sz_may2 M hok hM hwt
  have HEN : Hid (Rec.encG [] M = (0, 0, M)) := by
    have := Rec.enc_all M [] hok (by rw [List.nil_append]; omega)
    rw [List.nil_append] at this
    exact this
  obtain ⟨b, hb⟩ : ∃ b, b = nums (Rec.payF M) := ⟨_, rfl⟩
  have hbl : Sums.bl b = Rec.payF M := by rw [hb]; exact bl_nums _ (Rec.pay_byt hok (by omega))
  obtain ⟨n, hn⟩ : ∃ n, n = Rec.szF M := ⟨_, rfl⟩
  have hbs : b.size = n := by rw [← Sums.bl_length, hbl, Rec.pay_len, hn]
  have hn1 : 1 ≤ n := by
    have := Code.uint_pos M.length
    rw [hn]
    unfold Rec.szF
    omega
  have hn2 : n ≤ 131070 := by omega
  have HBL := Hid.mk' hbl
  have HN := Hid.mk' hn
  have HBB := Hid.mk' hb
  have HM := Hid.mk' hM
  have hbI : (b.size : Int) = (n : Int) := by omega
  clear hown hok hwt hb2 hsz hb hbl hn HB1 hM
  go_wp2_with fail
  refine (encode_any v2 M w2 HL2.out (by have := HM.out; omega) (fun x hx => by have := (Rec.bad_le (HOK.out x hx)).1; omega) 0 0 M HEN.out b (by rw [if_pos rfl, HBB.out])).mono ?_
  rintro e w3 ⟨rfl, hb3⟩
  have HB3 : Hid (Below w.heap.size w w3) := below_up HB2.out hb3 (Nat.le_refl _)
  clear hb3 HB2
  have hnz : ((b.size : Int) == 0) = false := by rw [beq_eq_false_iff_ne]; omega
  go_wp2_with fail
  try rw [hbI]
  refine (pick_any cut n w3 hc0 hc1 hn1 (by omega)).mono ?_
  rintro e w' ⟨⟨k, hk, rfl⟩, hw'⟩
  subst hw'
  obtain ⟨b1, hb1⟩ : ∃ b1, b1 = b.extract 0 k := ⟨_, rfl⟩
  have hsl : ∀ W, (Instr.slice 9 (.string b) none (some (.int .i64 (k : Int))) none).run Try.prog W = .ok (.string b1) W := fun W => by
    rw [run_slice_string_h W 9 b Try.underlying9 .i64 (k : Int) (by omega) (by omega), hb1]
    rfl
  have hs1 : b1.size = k := by rw [hb1, ByteArray.size_extract]; omega
  have hl1 : Sums.bl b1 = (Rec.payF M ++ []).take k := by rw [hb1, Sums.bl_take, HBL.out, List.append_nil]
  obtain ⟨R1, hR1⟩ : ∃ R1, R1 = Rec.decF b1 := ⟨_, rfl⟩
  have q1 : R1.1 = 30 := by
    rw [hR1]
    exact (Rec.dec_cut M [] k b1 HOK.out (by have := HM.out; omega) (by omega) hl1).1 (by rw [← HN.out]; exact hk)
  have q2 : R1.2.2 ≤ k := by
    have := Rec.dec_at3 b1 (by rw [← hR1, q1]; decide)
    rw [← hR1, hs1] at this
    exact this
  have HR1 := Hid.mk' hR1
  obtain ⟨E1, l1, p1⟩ := R1
  simp only at q1 q2
  subst q1
  have q2' : (p1 : Int) ≤ (k : Int) := by omega
  have hb1s : b1.size ≤ 131072 := by omega
  clear hb1 hl1 hR1 hs1
  go_wp2_with fail
  refine (decode_any b1 w' (by omega) (30, l1, p1) HR1.out).mono ?_
  rintro e w4 ⟨v4, rfl, _, hv4, hb4⟩
  obtain rfl := hv4 (show (30 : Nat) ≠ 0 by decide)
  have HB4 : Hid (Below w.heap.size w w4) := below_up HB3.out hb4 (Nat.le_refl _)
  clear hb4 HB3 hv4
  have hcv := conv_one (heap_alloc_new w4 (.cells #[.int .u8 (m : Int)] 5))
  obtain ⟨b2, hb2⟩ : ∃ b2, b2 = b ++ nums [m] := ⟨_, rfl⟩
  have hns : (nums [m]).size = 1 := nums_size [m]
  have hs2 : b2.size = n + 1 := by rw [hb2, ByteArray.size_append, hns, hbs]
  have hl2 : Sums.bl b2 = (Rec.payF M ++ [m]).take (n + 1) := by
    rw [hb2, Sums.bl_append, HBL.out, bl_nums [m] (by simp; exact hm), List.take_of_length_le (by rw [List.length_append, Rec.pay_len, ← HN.out]; simp)]
  obtain ⟨R2, hR2⟩ : ∃ R2, R2 = Rec.decF b2 := ⟨_, rfl⟩
  have q3 : R2 = (34, M, n) := by
    rw [hR2, (Rec.dec_cut M [m] (n + 1) b2 HOK.out (by have := HM.out; omega) (by omega) hl2).2 (by rw [← HN.out]; omega), ← HN.out, show n + 1 - n = 1 by omega, if_neg (by simp)]
  have HR2 : Hid ((34, M, n) = Rec.decF b2) := by rw [← q3]; exact hR2
  have HAL : Hid (Below w.heap.size w (w4.alloc (.cells #[.int .u8 (m : Int)] 5))) := HB4.out.alloc HB4.out.size _
  have HB2 := Hid.mk' hb2
  clear hl2 hR2 q3 hb2
  go_wp2_with fail
  rw [← HB2.out]
  refine (decode_any b2 _ (by omega) (34, M, n) HR2.out).mono ?_
  rintro e w5 ⟨v5, rfl, _, hv5, hb5⟩
  obtain rfl := hv5 (show (34 : Nat) ≠ 0 by decide)
  have HB5 : Hid (Below w.heap.size w w5) := below_up HAL.out hb5 (Nat.le_refl _)
  clear hb5 hv5 HAL HB4 hcv
  have hnI : ((n : Int) == (n : Int)) = true := by simp
  go_wp2_with fail
  go_ret
  exact ⟨by first | rfl | simp [q2'], HB5.out⟩
end Go.Proofs.Ytobbobbfmiefeab
