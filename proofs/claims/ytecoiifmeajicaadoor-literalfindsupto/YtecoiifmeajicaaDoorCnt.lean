/-
  What Count does. Conditions: as each says.
-/
import Derived.Test.YtecoiifmeajicaaDoorCmp
import Derived.Test.YtecoiifmeajicaaDoorPlainZ
namespace Go.Proofs.YtecoiifmeajicaaDoor
open Go.RowKit
set_option linter.unusedVariables false
def msr (n : Nat) (z : Int) : Nat := if z < 0 then 0 else n + 1 - z.toNat
theorem msr_lt (n at_ : Nat) (z : Int) (h1 : at_ ≤ n) (h2 : z < 0 ∨ (at_ : Int) < z) (h3 : z ≤ (n : Int)) : msr n z < msr n (at_ : Int) := by
  unfold msr
  rw [if_neg (by omega : ¬ (at_ : Int) < 0)]
  by_cases hz : z < 0
  · rw [if_pos hz]; omega
  · rw [if_neg hz]; omega
set_option maxHeartbeats 1000000 in
theorem count_any (g : Nat) (fold : Bool) (p s : ByteArray) (k : Int) (w : World) (D : Nat → Prop) (h : Fnd g fold p k D w) (hD : ∀ k, D k → k < w.heap.size) (hs : s.size ≤ 1125899906842624) :
    Calls Tryd.prog 19 #[.pointer (some ⟨g, 0, none⟩), .string s] w fun e w' => e = .returned (.int .i64 ((Lit.cntL fold p s : Nat) : Int)) ∧ Below w.heap.size w w' := by
  have HH := Hid.mk' h
  have hpz := h.pz
  have HD := Hid.mk' hD
  clear h hD
  go_enter Tryd.func19, Tryd.ntmps19
  go_wp2_with fail
  refine (find_any g fold p s k 0 w D HH.out hs (by omega) (by omega)).mono ?_
  rintro e w1 ⟨rfl, hb1⟩
  have HB1 := Hid.mk' hb1
  clear hb1
  go_wp2_with fail
  go_loopw [5, 6] (fun c i wr => ∃ (n a f : Nat), n ≤ a ∧ a ≤ s.size ∧ s.size + 1 ≤ a + f ∧ c = .int .i64 (n : Int) ∧ i = .int .i64 (Lit.fndL fold p s a) ∧ Hid (Lit.cntL fold p s = n + Lit.cntF fold p s f a) ∧ Hid (Below w.heap.size w wr)) (fun _ i _ => msr s.size (intOf i))
  case atStart => exact ⟨0, 0, s.size + 1, by omega, by omega, by omega, rfl, rfl, by show _ = _; unfold Lit.cntL; omega, HB1.out⟩
  case round =>
    obtain ⟨n, a, f, hna, ha, hf, rfl, rfl, HC, HB⟩ := hrel
    have hbd := Lit.fndL_bounds fold p s a
    obtain ⟨f, rfl⟩ : ∃ f', f = f' + 1 := ⟨f - 1, by omega⟩
    have HS : Hid (Lit.cntF fold p s (f + 1) a = if 0 ≤ Lit.fndL fold p s a then 1 + Lit.cntF fold p s f ((Lit.fndL fold p s a).toNat + p.size) else 0) := rfl
    by_cases hx : 0 ≤ Lit.fndL fold p s a
    · have hx2 := hbd.2.2 hx
      have hS := HS.out
      rw [if_pos hx] at hS
      have HS2 := Hid.mk' hS
      clear HS hS
      obtain ⟨at_, hat⟩ := Int.eq_ofNat_of_zero_le hx
      rw [hat] at hx2 HS2
      rw [hat]
      rw [Int.toNat_natCast] at HS2
      have hat2 : a ≤ at_ ∧ at_ + p.size ≤ s.size := by omega
      have HF := Hid.mk' (HH.out.keeps (KeepsB.of_below HB.out HD.out))
      have c1 := HF.out.c1
      clear hat hx hx2 hbd
      go_wp2_with fail
      refine (find_any g fold p s k _ _ D HF.out hs (by omega) (by omega)).mono ?_
      rintro e w2 ⟨rfl, hb2⟩
      rw [show ((at_ : Int) + (p.size : Int)).toNat = at_ + p.size by omega]
      have HB2 : Hid (Below w.heap.size w w2) := HB.out.trans (hb2.mono HB.out.size)
      have hbd := Lit.fndL_bounds fold p s (at_ + p.size)
      clear hb2
      go_wp2_with fail
      go_roundw
      case rel => exact ⟨n + 1, at_ + p.size, f, by omega, by omega, by omega, by go_num, rfl, by show _ = _; rw [HC.out, HS2.out]; omega, HB2.out⟩
      case measure =>
        have hq := hpz.1
        generalize Lit.fndL fold p s (at_ + p.size) = z at *
        exact msr_lt s.size at_ z (by omega) (by omega) (by omega)
    · have hS := HS.out
      rw [if_neg hx] at hS
      have HS2 := Hid.mk' hS
      have hx' : ¬ (0 : Int) ≤ Lit.fndL fold p s a := hx
      clear HS hS hbd
      go_wp2_with fail
      go_ret
      exact ⟨ret_i64 (by rw [HC.out, HS2.out]; omega), HB.out⟩
end Go.Proofs.YtecoiifmeajicaaDoor
