/-
  The walk of the law RecordAgain: whatever text it is given it returns true, and of what was there nothing turns. Conditions: a text no longer than a text can be.
-/
import Derived.Test.YtobbobbfmiefeaaRcP
namespace Rec
open Code Sums
theorem dec_at2 (s : ByteArray) : (decF s).1 ≠ 0 → (decF s).2.2 ≤ s.size := fun _ => by
  by_cases h : 131072 < s.size
  · unfold decF
    rw [if_pos h]
    show 131072 ≤ s.size
    omega
  · exact dec_at s (by omega)
theorem txt_le (s : ByteArray) (h : (decF s).1 = 0) : (decF s).2.1.length ≤ 131072 ∧ ∀ x ∈ (decF s).2.1, x.2.size ≤ 8192 := by
  obtain ⟨h1, h2, h3, _⟩ := dec_ok s h
  have hl : szF (decF s).2.1 = s.size := by rw [← pay_len, h1, bl_length]
  have := len_le (decF s).2.1
  unfold szF at hl
  exact ⟨by omega, fun x hx => (bad_le (h2 x hx)).1⟩
end Rec
namespace Go.Proofs.Ytobbobbfmiefeaa
open Go.RowKit
set_option linter.unusedVariables false
set_option maxHeartbeats 2000000 in
set_option maxRecDepth 100000 in
theorem recordAgain_any (b : ByteArray) (w : World) (hs : b.size ≤ 140737488351232) :
    Calls Try.prog 8 #[.string b] w fun e w' => e = .returned (.bool true) ∧ Below w.heap.size w w' := by
  obtain ⟨R, hR⟩ : ∃ R, R = Rec.decF b := ⟨_, rfl⟩
  have HD : Hid (∀ W : World, Calls Try.prog 15 #[.string b] W fun e w' => DecP R.1 R.2.1 R.2.2 W e w') := fun W => decode_any b W (by omega) R hR
  have h1 := Rec.dec_at2 b
  have h2 := Rec.dec_ok b
  have h3 := Rec.dec_enc b
  have h4 := Rec.txt_le b
  rw [← hR] at h1 h2 h3 h4
  obtain ⟨E, l, p⟩ := R
  simp only at h1 h2 h3 h4 HD
  clear hR
  by_cases h0 : E = 0
  · obtain ⟨q1, q2, q3, q4⟩ := h2 h0
    have HE := Hid.mk' (h3 h0)
    have HT := Hid.mk' (h4 h0)
    have HP : Hid (nums (Rec.payF l) = b) := by rw [q1]; exact nums_bl b
    subst h0
    obtain rfl : p = 0 := q4
    clear h1 h2 h3 h4 q1 q2 q3
    go_enter Try.func8, Try.ntmps8
    go_wp2_with fail
    refine (examples_any w).mono ?_
    rintro e w1 ⟨rfl, hb1⟩
    have HB1 := Hid.mk' hb1
    clear hb1
    go_wp2_with fail
    refine (HD.out w1).mono ?_
    rintro e w2 ⟨v2, rfl, hv2, _, hb2⟩
    have HB2 : Hid (Below w.heap.size w w2) := below_up HB1.out hb2 (Nat.le_refl _)
    have HL2 : Hid (LsAt v2 l w2) := own_ls (hv2 rfl)
    clear hb2 hv2 HB1
    go_wp2_with fail
    refine (encode_any v2 l w2 HL2.out (by have := HT.out.1; omega) (fun x hx => by have := HT.out.2 x hx; omega) 0 0 l HE.out b (by rw [if_pos rfl, HP.out])).mono ?_
    rintro e w3 ⟨rfl, hb3⟩
    have HB3 : Hid (Below w.heap.size w w3) := below_up HB2.out hb3 (Nat.le_refl _)
    clear hb3 HB2
    go_wp2_with fail
    go_ret
    exact ⟨rfl, HB3.out⟩
  · have hp := h1 h0
    have h0' : ((E : Int) == 0) = false := by simp; exact h0
    have H0 := Hid.mk' h0
    have p0 : (0 : Int) ≤ (p : Int) := by omega
    have p1 : (p : Int) ≤ (b.size : Int) := by omega
    clear h1 h2 h3 h4 h0 hp hs
    go_enter Try.func8, Try.ntmps8
    go_wp2_with fail
    refine (examples_any w).mono ?_
    rintro e w1 ⟨rfl, hb1⟩
    have HB1 := Hid.mk' hb1
    clear hb1
    go_wp2_with fail
    refine (HD.out w1).mono ?_
    rintro e w2 ⟨v2, rfl, _, hn2, hb2⟩
    have HB2 : Hid (Below w.heap.size w w2) := below_up HB1.out hb2 (Nat.le_refl _)
    rw [hn2 H0.out]
    clear hb2 hn2 HB1
    go_wp2_with fail
    go_ret
    exact ⟨by first | rfl | simp [p0, p1], HB2.out⟩
end Go.Proofs.Ytobbobbfmiefeaa
