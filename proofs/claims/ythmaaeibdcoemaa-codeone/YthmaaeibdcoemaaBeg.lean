/-
  What the law's begins answers. Conditions: the texts are no longer than 2^50 bytes.
-/
import Derived.Test.YthmaaeibdcoemaaKnown
namespace Go.Proofs.Ythmaaeibdcoemaa
open Go.RowKit
set_option linter.unusedVariables false
/-- does s begin with t? -/
def begB (s t : ByteArray) : Bool := decide ((Sums.bl s).take t.size = Sums.bl t)
theorem begB_iff (s t : ByteArray) : begB s t = true ↔ ∃ r, Sums.bl s = Sums.bl t ++ r := by
  unfold begB
  rw [decide_eq_true_iff]
  constructor
  · intro h
    refine ⟨(Sums.bl s).drop t.size, ?_⟩
    rw [← h, List.take_append_drop]
  · rintro ⟨r, h⟩
    rw [h, ← Sums.bl_length t, List.take_left']
    rfl
theorem begB_short (s t : ByteArray) (h : s.size < t.size) : begB s t = false := by
  unfold begB
  refine decide_eq_false fun e => ?_
  have := congrArg List.length e
  rw [List.length_take, Sums.bl_length, Sums.bl_length] at this
  omega
theorem toList_inj {a b : ByteArray} (h : a.toList = b.toList) : a = b := by
  rw [ByteArray.toList_eq, ByteArray.toList_eq] at h
  exact ByteArray.ext (Array.toList_inj.1 h)
theorem eqS_true {a b : ByteArray} (h : a = b) : (a.toList == b.toList) = true := by rw [h]; exact beq_self_eq_true _
theorem eqS_false {a b : ByteArray} (h : a ≠ b) : (a.toList == b.toList) = false := beq_eq_false_iff_ne.2 (fun e => h (toList_inj e))
theorem begB_long (s t : ByteArray) : begB s t = ((s.extract 0 t.size).toList == t.toList) := by
  unfold begB
  by_cases e : s.extract 0 t.size = t
  · rw [eqS_true e]
    exact decide_eq_true (by rw [← Sums.bl_take, e])
  · rw [eqS_false e]
    refine decide_eq_false fun h2 => ?_
    rw [← Sums.bl_take] at h2
    exact e (Sums.bl_inj h2)
set_option maxHeartbeats 1000000 in
theorem begins_any (s t : ByteArray) (w : World) (hs : s.size ≤ 1125899906842624) (ht : t.size ≤ 1125899906842624) :
    Calls Try.prog 36 #[.string s, .string t] w fun e w' => e = .returned (.bool (begB s t)) ∧ w' = w := by
  by_cases h : t.size ≤ s.size
  · have h1 : (t.size : Int) ≤ (s.size : Int) := by omega
    have HB := Hid.mk' (begB_long s t)
    go_enter Try.func36, Try.ntmps36
    go_wp2_with fail
    go_ret
    exact ⟨by rw [HB.out]; rfl, rfl⟩
  · have h1 : ¬ (t.size : Int) ≤ (s.size : Int) := by omega
    have HB := Hid.mk' (begB_short s t (by omega))
    go_enter Try.func36, Try.ntmps36
    go_wp2_with fail
    go_ret
    exact ⟨by rw [HB.out]; rfl, rfl⟩
end Go.Proofs.Ythmaaeibdcoemaa
