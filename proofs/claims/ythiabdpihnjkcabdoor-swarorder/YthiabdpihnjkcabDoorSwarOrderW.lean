/-
  The walk of the law SwarOrder: whatever texts it is given it returns true, and of what was there nothing turns. Conditions: the texts are no longer than any text that is read can be, the table of package math/bits lies as its text lays it.
-/
import Derived.Test.YthiabdpihnjkcabDoorCompare
namespace Go.Proofs.YthiabdpihnjkcabDoor
open Go.RowKit
set_option linter.unusedVariables false
set_option maxHeartbeats 2000000 in
theorem order_end (a b c : ByteArray) (n : Nat) (w : World) (hsa : a.size ≤ 140737488351232) (hsb : b.size ≤ 140737488351232) (hsc : c.size ≤ 140737488351232) (ht : Tab w)
    (HN : Hid (Swar.comL a b = n)) (HK : Hid (Swar.cmpL a b = 0)) (h1 : n = a.size) (h2 : n = b.size) :
    Calls Tryd.prog 4 #[.string a, .string b, .string c] w fun e w' => e = .returned (.bool true) ∧ Below w.heap.size w w' := by
  have HBA : Hid (∀ w : World, Tab w → Calls Tryd.prog 8 #[.string b, .string a] w fun e w' => e = .returned (.int .i64 (n : Int)) ∧ ∃ m, w' = w.drewN m) := by
    intro w hw
    have h := common_any b a w (by omega) (by omega) hw
    rw [Swar.com_swap a b, HN.out] at h
    exact h
  have HCA : Hid (∀ w : World, Tab w → Calls Tryd.prog 9 #[.string b, .string a] w fun e w' => e = .returned (.int .i64 0) ∧ ∃ m, w' = w.drewN m) := by
    intro w hw
    have h := compare_any b a w (by omega) (by omega) hw
    rw [Swar.cmp_swap a b, HK.out] at h
    exact h
  have hsp := Swar.com_spec a b
  rw [HN.out] at hsp
  obtain ⟨s1, s2, s3, s4⟩ := hsp
  have hex := Swar.take_eq a b n s1 s2 s3
  have f1 : decide ((n : Int) < 0) = false := decide_eq_false (by omega)
  have f2 : decide ((a.size : Int) < (n : Int)) = false := decide_eq_false (by omega)
  have f3 : decide ((b.size : Int) < (n : Int)) = false := decide_eq_false (by omega)
  have f4 : decide ((n : Int) < (a.size : Int)) = false := decide_eq_false (by omega)
  have f5 : decide ((n : Int) < (b.size : Int)) = false := decide_eq_false (by omega)
  have g4 : a.size ≤ n := by omega
  have g5 : b.size ≤ n := by omega
  have g6 : c.size + a.size ≤ 9223372036854775807 := by omega
  have g7 : c.size + b.size ≤ 9223372036854775807 := by omega
  have g8 : a.size + 1 ≤ 9223372036854775807 := by omega
  have z0 : IntKind.i64.wrap 0 = 0 := by decide
  have z1 : IntKind.i64.wrap 1 = 1 := by decide
  have z2 : IntKind.i64.wrap (-1) = -1 := by decide
  have HT1 : Hid (Swar.cmpL (c ++ a) (c ++ b) = 0) := by show _ = _; rw [Swar.cmp_app, HK.out]
  have HT2 : Hid (Swar.comL (c ++ a) (c ++ b) = c.size + n) := by show _ = _; rw [Swar.com_app, HN.out]
  have HT3 : Hid (Swar.cmpL a (a ++ ⟨#[120]⟩) = -1) := Swar.cmp_more a _ (by decide)
  have y1 : (c ++ a).size ≤ 1125899906842624 := by simp; omega
  have y2 : (c ++ b).size ≤ 1125899906842624 := by simp; omega
  have y3 : (a ++ (⟨#[120]⟩ : ByteArray)).size ≤ 1125899906842624 := by simp; show a.size + 1 ≤ _; omega
  clear s3 s4 h1 h2
  go_enter Tryd.func4, Tryd.ntmps4
  go_wp2_with fail
  refine (common_any a b _ (by omega) (by omega) ht).mono ?_
  rintro e w1 ⟨rfl, n0, rfl⟩
  rw [HN.out]
  go_wp2_with fail
  refine (compare_any a b _ (by omega) (by omega) (ht.drewN _)).mono ?_
  rintro e w1 ⟨rfl, n1, rfl⟩
  rw [HK.out]
  go_wp2_with fail
  generalize hWe0 : w.drewN (n0 + n1) = W
  have HWe : Hid (w.drewN (n0 + n1) = W) := hWe0
  clear hWe0
  have ht2 : Tab W := by rw [← HWe.out]; exact ht.drewN _
  have hbW : Below w.heap.size w W := by rw [← HWe.out]; exact below_drewN (Below.refl _ _) _
  clear HWe
  go_quiet ((first | (go_at_call 8; exact Calls.quiet_of (HBA.out _ (ht2.drewN _))) | (go_at_call 9; exact Calls.quiet_of (HCA.out _ (ht2.drewN _)))))
  have ht3 : Tab (W.drewN nq) := ht2.drewN _
  have hbV : Below w.heap.size w (W.drewN nq) := below_drewN hbW nq
  generalize W.drewN nq = V at *
  go_wp2_with fail
  refine (compare_any (c ++ a) (c ++ b) _ y1 y2 ht3).mono ?_
  rintro e w1 ⟨rfl, m1, rfl⟩
  rw [HT1.out]
  go_wp2_with fail
  refine (common_any (c ++ a) (c ++ b) _ y1 y2 (ht3.drewN _)).mono ?_
  rintro e w1 ⟨rfl, m2, rfl⟩
  rw [HT2.out]
  go_wp2_with fail
  refine (compare_any a _ _ (by omega) y3 (ht3.drewN _)).mono ?_
  rintro e w1 ⟨rfl, m3, rfl⟩
  rw [HT3.out]
  go_wp2_with fail
  go_ret
  exact ⟨rfl, below_drewN hbV _⟩
set_option maxHeartbeats 2000000 in
theorem order_a (a b c : ByteArray) (n : Nat) (w : World) (hsa : a.size ≤ 140737488351232) (hsb : b.size ≤ 140737488351232) (hsc : c.size ≤ 140737488351232) (ht : Tab w)
    (HN : Hid (Swar.comL a b = n)) (HK : Hid (Swar.cmpL a b = (-1))) (h1 : n = a.size) (h2 : n < b.size) :
    Calls Tryd.prog 4 #[.string a, .string b, .string c] w fun e w' => e = .returned (.bool true) ∧ Below w.heap.size w w' := by
  have HBA : Hid (∀ w : World, Tab w → Calls Tryd.prog 8 #[.string b, .string a] w fun e w' => e = .returned (.int .i64 (n : Int)) ∧ ∃ m, w' = w.drewN m) := by
    intro w hw
    have h := common_any b a w (by omega) (by omega) hw
    rw [Swar.com_swap a b, HN.out] at h
    exact h
  have HCA : Hid (∀ w : World, Tab w → Calls Tryd.prog 9 #[.string b, .string a] w fun e w' => e = .returned (.int .i64 1) ∧ ∃ m, w' = w.drewN m) := by
    intro w hw
    have h := compare_any b a w (by omega) (by omega) hw
    rw [Swar.cmp_swap a b, HK.out] at h
    exact h
  have hsp := Swar.com_spec a b
  rw [HN.out] at hsp
  obtain ⟨s1, s2, s3, s4⟩ := hsp
  have hex := Swar.take_eq a b n s1 s2 s3
  have f1 : decide ((n : Int) < 0) = false := decide_eq_false (by omega)
  have f2 : decide ((a.size : Int) < (n : Int)) = false := decide_eq_false (by omega)
  have f3 : decide ((b.size : Int) < (n : Int)) = false := decide_eq_false (by omega)
  have f4 : decide ((n : Int) < (a.size : Int)) = false := decide_eq_false (by omega)
  have f5 : decide ((n : Int) < (b.size : Int)) = true := decide_eq_true (by omega)
  have g4 : a.size ≤ n := by omega
  have g5 : n < b.size := by omega
  have g6 : c.size + a.size ≤ 9223372036854775807 := by omega
  have g7 : c.size + b.size ≤ 9223372036854775807 := by omega
  have g8 : a.size + 1 ≤ 9223372036854775807 := by omega
  have z0 : IntKind.i64.wrap 0 = 0 := by decide
  have z1 : IntKind.i64.wrap 1 = 1 := by decide
  have z2 : IntKind.i64.wrap (-1) = -1 := by decide
  have HT1 : Hid (Swar.cmpL (c ++ a) (c ++ b) = (-1)) := by show _ = _; rw [Swar.cmp_app, HK.out]
  have HT2 : Hid (Swar.comL (c ++ a) (c ++ b) = c.size + n) := by show _ = _; rw [Swar.com_app, HN.out]
  have HT3 : Hid (Swar.cmpL a (a ++ ⟨#[120]⟩) = -1) := Swar.cmp_more a _ (by decide)
  have y1 : (c ++ a).size ≤ 1125899906842624 := by simp; omega
  have y2 : (c ++ b).size ≤ 1125899906842624 := by simp; omega
  have y3 : (a ++ (⟨#[120]⟩ : ByteArray)).size ≤ 1125899906842624 := by simp; show a.size + 1 ≤ _; omega
  clear s3 s4 h1 h2
  go_enter Tryd.func4, Tryd.ntmps4
  go_wp2_with fail
  refine (common_any a b _ (by omega) (by omega) ht).mono ?_
  rintro e w1 ⟨rfl, n0, rfl⟩
  rw [HN.out]
  go_wp2_with fail
  refine (compare_any a b _ (by omega) (by omega) (ht.drewN _)).mono ?_
  rintro e w1 ⟨rfl, n1, rfl⟩
  rw [HK.out]
  go_wp2_with fail
  generalize hWe0 : w.drewN (n0 + n1) = W
  have HWe : Hid (w.drewN (n0 + n1) = W) := hWe0
  clear hWe0
  have ht2 : Tab W := by rw [← HWe.out]; exact ht.drewN _
  have hbW : Below w.heap.size w W := by rw [← HWe.out]; exact below_drewN (Below.refl _ _) _
  clear HWe
  go_quiet ((first | (go_at_call 8; exact Calls.quiet_of (HBA.out _ (ht2.drewN _))) | (go_at_call 9; exact Calls.quiet_of (HCA.out _ (ht2.drewN _)))))
  have ht3 : Tab (W.drewN nq) := ht2.drewN _
  have hbV : Below w.heap.size w (W.drewN nq) := below_drewN hbW nq
  generalize W.drewN nq = V at *
  go_wp2_with fail
  refine (compare_any (c ++ a) (c ++ b) _ y1 y2 ht3).mono ?_
  rintro e w1 ⟨rfl, m1, rfl⟩
  rw [HT1.out]
  go_wp2_with fail
  refine (common_any (c ++ a) (c ++ b) _ y1 y2 (ht3.drewN _)).mono ?_
  rintro e w1 ⟨rfl, m2, rfl⟩
  rw [HT2.out]
  go_wp2_with fail
  refine (compare_any a _ _ (by omega) y3 (ht3.drewN _)).mono ?_
  rintro e w1 ⟨rfl, m3, rfl⟩
  rw [HT3.out]
  go_wp2_with fail
  go_ret
  exact ⟨rfl, below_drewN hbV _⟩
set_option maxHeartbeats 2000000 in
theorem order_b (a b c : ByteArray) (n : Nat) (w : World) (hsa : a.size ≤ 140737488351232) (hsb : b.size ≤ 140737488351232) (hsc : c.size ≤ 140737488351232) (ht : Tab w)
    (HN : Hid (Swar.comL a b = n)) (HK : Hid (Swar.cmpL a b = 1)) (h1 : n < a.size) (h2 : n = b.size) :
    Calls Tryd.prog 4 #[.string a, .string b, .string c] w fun e w' => e = .returned (.bool true) ∧ Below w.heap.size w w' := by
  have HBA : Hid (∀ w : World, Tab w → Calls Tryd.prog 8 #[.string b, .string a] w fun e w' => e = .returned (.int .i64 (n : Int)) ∧ ∃ m, w' = w.drewN m) := by
    intro w hw
    have h := common_any b a w (by omega) (by omega) hw
    rw [Swar.com_swap a b, HN.out] at h
    exact h
  have HCA : Hid (∀ w : World, Tab w → Calls Tryd.prog 9 #[.string b, .string a] w fun e w' => e = .returned (.int .i64 (-1)) ∧ ∃ m, w' = w.drewN m) := by
    intro w hw
    have h := compare_any b a w (by omega) (by omega) hw
    rw [Swar.cmp_swap a b, HK.out] at h
    exact h
  have hsp := Swar.com_spec a b
  rw [HN.out] at hsp
  obtain ⟨s1, s2, s3, s4⟩ := hsp
  have hex := Swar.take_eq a b n s1 s2 s3
  have f1 : decide ((n : Int) < 0) = false := decide_eq_false (by omega)
  have f2 : decide ((a.size : Int) < (n : Int)) = false := decide_eq_false (by omega)
  have f3 : decide ((b.size : Int) < (n : Int)) = false := decide_eq_false (by omega)
  have f4 : decide ((n : Int) < (a.size : Int)) = true := decide_eq_true (by omega)
  have f5 : decide ((n : Int) < (b.size : Int)) = false := decide_eq_false (by omega)
  have g4 : n < a.size := by omega
  have g5 : b.size ≤ n := by omega
  have g6 : c.size + a.size ≤ 9223372036854775807 := by omega
  have g7 : c.size + b.size ≤ 9223372036854775807 := by omega
  have g8 : a.size + 1 ≤ 9223372036854775807 := by omega
  have z0 : IntKind.i64.wrap 0 = 0 := by decide
  have z1 : IntKind.i64.wrap 1 = 1 := by decide
  have z2 : IntKind.i64.wrap (-1) = -1 := by decide
  have HT1 : Hid (Swar.cmpL (c ++ a) (c ++ b) = 1) := by show _ = _; rw [Swar.cmp_app, HK.out]
  have HT2 : Hid (Swar.comL (c ++ a) (c ++ b) = c.size + n) := by show _ = _; rw [Swar.com_app, HN.out]
  have HT3 : Hid (Swar.cmpL a (a ++ ⟨#[120]⟩) = -1) := Swar.cmp_more a _ (by decide)
  have y1 : (c ++ a).size ≤ 1125899906842624 := by simp; omega
  have y2 : (c ++ b).size ≤ 1125899906842624 := by simp; omega
  have y3 : (a ++ (⟨#[120]⟩ : ByteArray)).size ≤ 1125899906842624 := by simp; show a.size + 1 ≤ _; omega
  clear s3 s4 h1 h2
  go_enter Tryd.func4, Tryd.ntmps4
  go_wp2_with fail
  refine (common_any a b _ (by omega) (by omega) ht).mono ?_
  rintro e w1 ⟨rfl, n0, rfl⟩
  rw [HN.out]
  go_wp2_with fail
  refine (compare_any a b _ (by omega) (by omega) (ht.drewN _)).mono ?_
  rintro e w1 ⟨rfl, n1, rfl⟩
  rw [HK.out]
  go_wp2_with fail
  generalize hWe0 : w.drewN (n0 + n1) = W
  have HWe : Hid (w.drewN (n0 + n1) = W) := hWe0
  clear hWe0
  have ht2 : Tab W := by rw [← HWe.out]; exact ht.drewN _
  have hbW : Below w.heap.size w W := by rw [← HWe.out]; exact below_drewN (Below.refl _ _) _
  clear HWe
  go_quiet ((first | (go_at_call 8; exact Calls.quiet_of (HBA.out _ (ht2.drewN _))) | (go_at_call 9; exact Calls.quiet_of (HCA.out _ (ht2.drewN _)))))
  have ht3 : Tab (W.drewN nq) := ht2.drewN _
  have hbV : Below w.heap.size w (W.drewN nq) := below_drewN hbW nq
  generalize W.drewN nq = V at *
  go_wp2_with fail
  refine (compare_any (c ++ a) (c ++ b) _ y1 y2 ht3).mono ?_
  rintro e w1 ⟨rfl, m1, rfl⟩
  rw [HT1.out]
  go_wp2_with fail
  refine (common_any (c ++ a) (c ++ b) _ y1 y2 (ht3.drewN _)).mono ?_
  rintro e w1 ⟨rfl, m2, rfl⟩
  rw [HT2.out]
  go_wp2_with fail
  refine (compare_any a _ _ (by omega) y3 (ht3.drewN _)).mono ?_
  rintro e w1 ⟨rfl, m3, rfl⟩
  rw [HT3.out]
  go_wp2_with fail
  go_ret
  exact ⟨rfl, below_drewN hbV _⟩
set_option maxHeartbeats 2000000 in
theorem order_lt (a b c : ByteArray) (n : Nat) (w : World) (hsa : a.size ≤ 140737488351232) (hsb : b.size ≤ 140737488351232) (hsc : c.size ≤ 140737488351232) (ht : Tab w)
    (HN : Hid (Swar.comL a b = n)) (HK : Hid (Swar.cmpL a b = (-1))) (h1 : n < a.size) (h2 : n < b.size) (h3 : Swar.bt a n < Swar.bt b n) :
    Calls Tryd.prog 4 #[.string a, .string b, .string c] w fun e w' => e = .returned (.bool true) ∧ Below w.heap.size w w' := by
  have HBA : Hid (∀ w : World, Tab w → Calls Tryd.prog 8 #[.string b, .string a] w fun e w' => e = .returned (.int .i64 (n : Int)) ∧ ∃ m, w' = w.drewN m) := by
    intro w hw
    have h := common_any b a w (by omega) (by omega) hw
    rw [Swar.com_swap a b, HN.out] at h
    exact h
  have HCA : Hid (∀ w : World, Tab w → Calls Tryd.prog 9 #[.string b, .string a] w fun e w' => e = .returned (.int .i64 1) ∧ ∃ m, w' = w.drewN m) := by
    intro w hw
    have h := compare_any b a w (by omega) (by omega) hw
    rw [Swar.cmp_swap a b, HK.out] at h
    exact h
  have hsp := Swar.com_spec a b
  rw [HN.out] at hsp
  obtain ⟨s1, s2, s3, s4⟩ := hsp
  have hex := Swar.take_eq a b n s1 s2 s3
  have f1 : decide ((n : Int) < 0) = false := decide_eq_false (by omega)
  have f2 : decide ((a.size : Int) < (n : Int)) = false := decide_eq_false (by omega)
  have f3 : decide ((b.size : Int) < (n : Int)) = false := decide_eq_false (by omega)
  have f4 : decide ((n : Int) < (a.size : Int)) = true := decide_eq_true (by omega)
  have f5 : decide ((n : Int) < (b.size : Int)) = true := decide_eq_true (by omega)
  have g4 : n < a.size := by omega
  have g5 : n < b.size := by omega
  have g6 : c.size + a.size ≤ 9223372036854775807 := by omega
  have g7 : c.size + b.size ≤ 9223372036854775807 := by omega
  have g8 : a.size + 1 ≤ 9223372036854775807 := by omega
  have z0 : IntKind.i64.wrap 0 = 0 := by decide
  have z1 : IntKind.i64.wrap 1 = 1 := by decide
  have z2 : IntKind.i64.wrap (-1) = -1 := by decide
  have HT1 : Hid (Swar.cmpL (c ++ a) (c ++ b) = (-1)) := by show _ = _; rw [Swar.cmp_app, HK.out]
  have HT2 : Hid (Swar.comL (c ++ a) (c ++ b) = c.size + n) := by show _ = _; rw [Swar.com_app, HN.out]
  have HT3 : Hid (Swar.cmpL a (a ++ ⟨#[120]⟩) = -1) := Swar.cmp_more a _ (by decide)
  have y1 : (c ++ a).size ≤ 1125899906842624 := by simp; omega
  have y2 : (c ++ b).size ≤ 1125899906842624 := by simp; omega
  have y3 : (a ++ (⟨#[120]⟩ : ByteArray)).size ≤ 1125899906842624 := by simp; show a.size + 1 ≤ _; omega
  have b0 := Swar.bt_in g4
  have b1 := Swar.bt_in g5
  have b2 : (((a[n]'g4).toNat : Int) == ((b[n]'g5).toNat : Int)) = false := beq_eq_false_iff_ne.2 (by omega)
  have b3 : decide (((a[n]'g4).toNat : Int) < ((b[n]'g5).toNat : Int)) = true := decide_eq_true (by omega)
  have b4 : (a[n]'g4).toNat < (b[n]'g5).toNat := by omega
  clear s3 s4 h1 h2 h3 b0 b1
  go_enter Tryd.func4, Tryd.ntmps4
  go_wp2_with fail
  refine (common_any a b _ (by omega) (by omega) ht).mono ?_
  rintro e w1 ⟨rfl, n0, rfl⟩
  rw [HN.out]
  go_wp2_with fail
  refine (compare_any a b _ (by omega) (by omega) (ht.drewN _)).mono ?_
  rintro e w1 ⟨rfl, n1, rfl⟩
  rw [HK.out]
  go_wp2_with fail
  generalize hWe0 : w.drewN (n0 + n1) = W
  have HWe : Hid (w.drewN (n0 + n1) = W) := hWe0
  clear hWe0
  have ht2 : Tab W := by rw [← HWe.out]; exact ht.drewN _
  have hbW : Below w.heap.size w W := by rw [← HWe.out]; exact below_drewN (Below.refl _ _) _
  clear HWe
  go_quiet ((first | (go_at_call 8; exact Calls.quiet_of (HBA.out _ (ht2.drewN _))) | (go_at_call 9; exact Calls.quiet_of (HCA.out _ (ht2.drewN _)))))
  have ht3 : Tab (W.drewN nq) := ht2.drewN _
  have hbV : Below w.heap.size w (W.drewN nq) := below_drewN hbW nq
  generalize W.drewN nq = V at *
  go_wp2_with fail
  go_quiet (fail)
  have ht5 : Tab (V.drewN nq) := ht3.drewN _
  have hbU : Below w.heap.size w (V.drewN nq) := below_drewN hbV nq
  clear ht3 hbV
  generalize V.drewN nq = U at *
  go_wp2_with fail
  go_quiet (fail)
  have ht3 : Tab (U.drewN nq) := ht5.drewN _
  have hbV : Below w.heap.size w (U.drewN nq) := below_drewN hbU nq
  clear ht5 hbU
  generalize U.drewN nq = X at *
  go_wp2_with fail
  refine (compare_any (c ++ a) (c ++ b) _ y1 y2 ht3).mono ?_
  rintro e w1 ⟨rfl, m1, rfl⟩
  rw [HT1.out]
  go_wp2_with fail
  refine (common_any (c ++ a) (c ++ b) _ y1 y2 (ht3.drewN _)).mono ?_
  rintro e w1 ⟨rfl, m2, rfl⟩
  rw [HT2.out]
  go_wp2_with fail
  refine (compare_any a _ _ (by omega) y3 (ht3.drewN _)).mono ?_
  rintro e w1 ⟨rfl, m3, rfl⟩
  rw [HT3.out]
  go_wp2_with fail
  go_ret
  exact ⟨rfl, below_drewN hbV _⟩
set_option maxHeartbeats 2000000 in
theorem order_gt (a b c : ByteArray) (n : Nat) (w : World) (hsa : a.size ≤ 140737488351232) (hsb : b.size ≤ 140737488351232) (hsc : c.size ≤ 140737488351232) (ht : Tab w)
    (HN : Hid (Swar.comL a b = n)) (HK : Hid (Swar.cmpL a b = 1)) (h1 : n < a.size) (h2 : n < b.size) (h3 : Swar.bt b n < Swar.bt a n) :
    Calls Tryd.prog 4 #[.string a, .string b, .string c] w fun e w' => e = .returned (.bool true) ∧ Below w.heap.size w w' := by
  have HBA : Hid (∀ w : World, Tab w → Calls Tryd.prog 8 #[.string b, .string a] w fun e w' => e = .returned (.int .i64 (n : Int)) ∧ ∃ m, w' = w.drewN m) := by
    intro w hw
    have h := common_any b a w (by omega) (by omega) hw
    rw [Swar.com_swap a b, HN.out] at h
    exact h
  have HCA : Hid (∀ w : World, Tab w → Calls Tryd.prog 9 #[.string b, .string a] w fun e w' => e = .returned (.int .i64 (-1)) ∧ ∃ m, w' = w.drewN m) := by
    intro w hw
    have h := compare_any b a w (by omega) (by omega) hw
    rw [Swar.cmp_swap a b, HK.out] at h
    exact h
  have hsp := Swar.com_spec a b
  rw [HN.out] at hsp
  obtain ⟨s1, s2, s3, s4⟩ := hsp
  have hex := Swar.take_eq a b n s1 s2 s3
  have f1 : decide ((n : Int) < 0) = false := decide_eq_false (by omega)
  have f2 : decide ((a.size : Int) < (n : Int)) = false := decide_eq_false (by omega)
  have f3 : decide ((b.size : Int) < (n : Int)) = false := decide_eq_false (by omega)
  have f4 : decide ((n : Int) < (a.size : Int)) = true := decide_eq_true (by omega)
  have f5 : decide ((n : Int) < (b.size : Int)) = true := decide_eq_true (by omega)
  have g4 : n < a.size := by omega
  have g5 : n < b.size := by omega
  have g6 : c.size + a.size ≤ 9223372036854775807 := by omega
  have g7 : c.size + b.size ≤ 9223372036854775807 := by omega
  have g8 : a.size + 1 ≤ 9223372036854775807 := by omega
  have z0 : IntKind.i64.wrap 0 = 0 := by decide
  have z1 : IntKind.i64.wrap 1 = 1 := by decide
  have z2 : IntKind.i64.wrap (-1) = -1 := by decide
  have HT1 : Hid (Swar.cmpL (c ++ a) (c ++ b) = 1) := by show _ = _; rw [Swar.cmp_app, HK.out]
  have HT2 : Hid (Swar.comL (c ++ a) (c ++ b) = c.size + n) := by show _ = _; rw [Swar.com_app, HN.out]
  have HT3 : Hid (Swar.cmpL a (a ++ ⟨#[120]⟩) = -1) := Swar.cmp_more a _ (by decide)
  have y1 : (c ++ a).size ≤ 1125899906842624 := by simp; omega
  have y2 : (c ++ b).size ≤ 1125899906842624 := by simp; omega
  have y3 : (a ++ (⟨#[120]⟩ : ByteArray)).size ≤ 1125899906842624 := by simp; show a.size + 1 ≤ _; omega
  have b0 := Swar.bt_in g4
  have b1 := Swar.bt_in g5
  have b2 : (((a[n]'g4).toNat : Int) == ((b[n]'g5).toNat : Int)) = false := beq_eq_false_iff_ne.2 (by omega)
  have b3 : decide (((a[n]'g4).toNat : Int) < ((b[n]'g5).toNat : Int)) = false := decide_eq_false (by omega)
  have b4 : ¬ (a[n]'g4).toNat < (b[n]'g5).toNat := by omega
  clear s3 s4 h1 h2 h3 b0 b1
  go_enter Tryd.func4, Tryd.ntmps4
  go_wp2_with fail
  refine (common_any a b _ (by omega) (by omega) ht).mono ?_
  rintro e w1 ⟨rfl, n0, rfl⟩
  rw [HN.out]
  go_wp2_with fail
  refine (compare_any a b _ (by omega) (by omega) (ht.drewN _)).mono ?_
  rintro e w1 ⟨rfl, n1, rfl⟩
  rw [HK.out]
  go_wp2_with fail
  generalize hWe0 : w.drewN (n0 + n1) = W
  have HWe : Hid (w.drewN (n0 + n1) = W) := hWe0
  clear hWe0
  have ht2 : Tab W := by rw [← HWe.out]; exact ht.drewN _
  have hbW : Below w.heap.size w W := by rw [← HWe.out]; exact below_drewN (Below.refl _ _) _
  clear HWe
  go_quiet ((first | (go_at_call 8; exact Calls.quiet_of (HBA.out _ (ht2.drewN _))) | (go_at_call 9; exact Calls.quiet_of (HCA.out _ (ht2.drewN _)))))
  have ht3 : Tab (W.drewN nq) := ht2.drewN _
  have hbV : Below w.heap.size w (W.drewN nq) := below_drewN hbW nq
  generalize W.drewN nq = V at *
  go_wp2_with fail
  go_quiet (fail)
  have ht5 : Tab (V.drewN nq) := ht3.drewN _
  have hbU : Below w.heap.size w (V.drewN nq) := below_drewN hbV nq
  clear ht3 hbV
  generalize V.drewN nq = U at *
  go_wp2_with fail
  go_quiet (fail)
  have ht3 : Tab (U.drewN nq) := ht5.drewN _
  have hbV : Below w.heap.size w (U.drewN nq) := below_drewN hbU nq
  clear ht5 hbU
  generalize U.drewN nq = X at *
  go_wp2_with fail
  refine (compare_any (c ++ a) (c ++ b) _ y1 y2 ht3).mono ?_
  rintro e w1 ⟨rfl, m1, rfl⟩
  rw [HT1.out]
  go_wp2_with fail
  refine (common_any (c ++ a) (c ++ b) _ y1 y2 (ht3.drewN _)).mono ?_
  rintro e w1 ⟨rfl, m2, rfl⟩
  rw [HT2.out]
  go_wp2_with fail
  refine (compare_any a _ _ (by omega) y3 (ht3.drewN _)).mono ?_
  rintro e w1 ⟨rfl, m3, rfl⟩
  rw [HT3.out]
  go_wp2_with fail
  go_ret
  exact ⟨rfl, below_drewN hbV _⟩
theorem swarOrder_any (a b c : ByteArray) (w : World) (hsa : a.size ≤ 140737488351232) (hsb : b.size ≤ 140737488351232) (hsc : c.size ≤ 140737488351232) (ht : Tab w) :
    Calls Tryd.prog 4 #[.string a, .string b, .string c] w fun e w' => e = .returned (.bool true) ∧ Below w.heap.size w w' := by
  have s := Swar.com_spec a b
  have hv : Swar.cmpL a b = if Swar.comL a b = a.size ∧ Swar.comL a b = b.size then 0 else if Swar.comL a b = a.size then -1 else if Swar.comL a b = b.size then 1 else if Swar.bt a (Swar.comL a b) < Swar.bt b (Swar.comL a b) then -1 else 1 := rfl
  by_cases h1 : Swar.comL a b = a.size
  · by_cases h2 : Swar.comL a b = b.size
    · exact order_end a b c _ w hsa hsb hsc ht rfl (by show _ = _; rw [hv, if_pos ⟨h1, h2⟩]) h1 h2
    · exact order_a a b c _ w hsa hsb hsc ht rfl (by show _ = _; rw [hv, if_neg (fun h => h2 h.2), if_pos h1]) h1 (by omega)
  · by_cases h2 : Swar.comL a b = b.size
    · exact order_b a b c _ w hsa hsb hsc ht rfl (by show _ = _; rw [hv, if_neg (fun h => h1 h.1), if_neg h1, if_pos h2]) (by omega) h2
    · have hne := s.2.2.2 (by omega) (by omega)
      by_cases h3 : Swar.bt a (Swar.comL a b) < Swar.bt b (Swar.comL a b)
      · exact order_lt a b c _ w hsa hsb hsc ht rfl (by show _ = _; rw [hv, if_neg (fun h => h1 h.1), if_neg h1, if_neg h2, if_pos h3]) (by omega) (by omega) h3
      · exact order_gt a b c _ w hsa hsb hsc ht rfl (by show _ = _; rw [hv, if_neg (fun h => h1 h.1), if_neg h1, if_neg h2, if_neg h3]) (by omega) (by omega) (by omega)
end Go.Proofs.YthiabdpihnjkcabDoor
