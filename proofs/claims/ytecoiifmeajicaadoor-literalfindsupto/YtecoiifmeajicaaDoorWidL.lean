/-
  How the kernel by bits of several words looks. Conditions: as each says.
-/
import Derived.Test.YtecoiifmeajicaaDoorWidN
namespace Go.Proofs.YtecoiifmeajicaaDoor
open Go.RowKit
set_option linter.unusedVariables false
set_option maxRecDepth 100000 in
set_option maxHeartbeats 4000000 in
theorem widLook_any (g : Nat) (fold : Bool) (q s : ByteArray) (G a0 : Nat) (w : World) (hq : q.size = G + 1) (hGl : G < 256) (hs : s.size ≤ 1125899906842624) (ha : a0 + q.size ≤ s.size) (hg : g < w.heap.size)
    (hT : WidT g q.size (hwT fold q q.size) w) :
    Calls Tryd.prog 47 #[.pointer (some ⟨g, 0, none⟩), .string s, .int .i64 (a0 : Int)] w fun e w' => e = .returned (.int .i64 (Lit.fndL fold q s a0)) ∧ Below w.heap.size w w' := by
  have HT := Hid.mk' hT
  clear hT
  have hGI : (G : Int) < 256 := by omega
  go_enter Tryd.func47, Tryd.ntmps47
  go_wp2_with fail
  have HB0 : Hid (Below w.heap.size w (w.alloc (.cells #[.int .u64 0, .int .u64 0, .int .u64 0, .int .u64 0] 97))) := (Below.refl _ _).alloc (Nat.le_refl _) _
  have HF0 : Hid (Thaw w.heap.size (w.alloc (.cells #[.int .u64 0, .int .u64 0, .int .u64 0, .int .u64 0] 97))) := thaw_new _ _ _
  have HC0 : Hid (∀ j, j < 4 → (w.alloc (.cells #[.int .u64 0, .int .u64 0, .int .u64 0, .int .u64 0] 97)).cell? ⟨w.heap.size, j, none⟩ = some (.int .u64 ((0 : Nat) : Int))) := fun j hj => by
    have : j = 0 ∨ j = 1 ∨ j = 2 ∨ j = 3 := by omega
    rcases this with rfl | rfl | rfl | rfl <;> simp [go_sem]
  generalize (w.alloc (.cells #[.int .u64 0, .int .u64 0, .int .u64 0, .int .u64 0] 97)) = W0 at *
  obtain ⟨R, hR⟩ : ∃ R, w.heap.size = R := ⟨_, rfl⟩
  rw [hR] at HB0 HF0 HC0 hg
  rw [hR]
  have HRE := Hid.mk' hR
  clear hR
  go_loopw [8] (fun i wr => ∃ (a : Nat) (f : Nat → Nat), a0 ≤ a ∧ a ≤ s.size ∧ i = .int .i64 (a : Int) ∧ Hid (∀ j, f j < 18446744073709551616) ∧ Hid (∀ j, j < 4 → wr.cell? ⟨R, j, none⟩ = some (.int .u64 (f j : Int))) ∧ Hid (Thaw R wr) ∧ Hid (Below R w wr) ∧ Hid (Lit.Rd fold q s a0 a (Lit.rb f)) ∧ Hid (Lit.NoB fold q s a0 a)) (fun i _ => s.size + 2 - (intOf i).toNat)
  case atStart => exact ⟨a0, fun _ => 0, by omega, by omega, rfl, fun j => by show 0 < 18446744073709551616; omega, HC0.out, HF0.out, HB0.out, Lit.rd_none _ _ _ _ _ (fun i hi => by unfold Lit.rb; simp), fun k h1 h2 => by omega⟩
  case round =>
    obtain ⟨a, f, ha0, hal, rfl, HFL, HC, HF, HB, HR, HN⟩ := hrel
    by_cases hlt : a < s.size
    · have hlI : (a : Int) < (s.size : Int) := by omega
      have hix := idx_byte s a hlt
      have hcb := Swar.bt_lt s a
      have hT2 := HT.out.below HB.out hg
      have k0 := hT2.c0
      rw [hq] at k0
      have HCH : Hid (∀ j, j < 4 → wr.cell? ⟨g, 1 + Swar.bt s a * 4 + j, none⟩ = some (.int .u64 ((Lit.wd (Lit.hsT fold q q.size (Swar.bt s a)) j : Nat) : Int))) := fun j hj => by
        have h := hT2.cj (Swar.bt s a * 4 + j) (by omega)
        unfold hwT at h
        rw [show (Swar.bt s a * 4 + j) / 4 = Swar.bt s a by omega, show (Swar.bt s a * 4 + j) % 4 = j by omega, ← Nat.add_assoc] at h
        exact h
      have HST := Hid.mk' (Lit.rd_step fold q s a0 a (Lit.rb f) (Lit.rb (Lit.rdN f (Lit.wd (Lit.hsT fold q q.size (Swar.bt s a))))) ha0 HR.out (fun i hi => by
        rw [Lit.rdN_bit f _ HFL.out i, Lit.rb_wd, Lit.hsT_bit]
        simp only [hi, true_and]))
      have HSL : Hid (∀ j, Lit.rdN f (Lit.wd (Lit.hsT fold q q.size (Swar.bt s a))) j < 18446744073709551616) := fun j => Lit.rdN_lt _ _ _ (Lit.wd_lt _ _)
      have HHL : Hid (∀ j, j < 4 → Lit.wd (Lit.hsT fold q q.size (Swar.bt s a)) j < 18446744073709551616) := fun j _ => Lit.wd_lt _ _
      clear hT2
      generalize Lit.wd (Lit.hsT fold q q.size (Swar.bt s a)) = H at *
      generalize Swar.bt s a = c at *
      have hcI : (c : Int) < 256 := by omega
      go_wp2_with fail
      go_region_with ((go_at_call 59; refine (rowStep_any R g (1 + c * 4) f H _ hg HFL.out HHL.out (by exact HC.out) (by exact HF.out) (by exact HCH.out)).mono ?_; rintro e w3 ⟨rfl, hc3, hf3, hb3⟩))
      have HB3 : Hid (Below R w w3) := HB.out.trans (((Below.refl R wr).drewN' 1).trans hb3)
      have HF3 := Hid.mk' hf3
      have HC3 := Hid.mk' hc3
      have k3 : w3.cell? ⟨g, 0, none⟩ = some (.int .i64 ((G : Int) + 1)) := ((((Below.refl R wr).drewN' 1).trans hb3).cell (p := ⟨g, 0, none⟩) hg).trans k0
      have cg := hc3 (G / 64) (by omega)
      have HIT := Hid.mk' (Lit.rd_hit fold q s a0 (a + 1) _ (by omega) (by omega) HST.out)
      rw [show q.size - 1 = G by omega] at HIT
      have HRB : Hid ((Lit.rdN f H (G / 64)).testBit (G % 64) = Lit.rb (Lit.rdN f H) G) := rfl
      have hlg := HSL.out (G / 64)
      clear hb3 hf3 hc3
      generalize Lit.rdN f H = f2 at *
      go_wp2_with fail
      refine (rowHas_any R G (f2 (G / 64)) _ hGl hlg cg).mono ?_
      rintro e w4 ⟨rfl, rfl⟩
      rw [HRB.out]
      cases hb : Lit.rb f2 G with
      | true =>
        have hh := HIT.out.1 hb
        have HF9 := Hid.mk' (Lit.noB_found fold q s a0 a HN.out hh.1 hh.2)
        have hh1 := hh.1
        clear hh hb
        go_wp2_with fail
        go_ret
        rw [HRE.out]
        exact ⟨ret_i64 (by rw [HF9.out]; omega), HB3.out⟩
      | false =>
        have HN2 : Hid (Lit.NoB fold q s a0 (a + 1)) := Lit.noB_next fold q s a0 a HN.out (fun h => by
          have := HIT.out.2 h
          rw [hb] at this
          cases this)
        clear hb
        go_wp2_with fail
        go_roundw
        case rel => exact ⟨a + 1, f2, by omega, by omega, by go_num, HSL.out, HC3.out, HF3.out, HB3.out, HST.out, HN2.out⟩
        case measure => simp [intOf]; omega
    · have hlI : ¬ (a : Int) < (s.size : Int) := by omega
      obtain rfl : a = s.size := by omega
      have HF9 := Hid.mk' (Lit.noB_end fold q s a0 HN.out)
      go_wp2_with fail
      go_ret
      rw [HRE.out]
      exact ⟨ret_i64 (by rw [HF9.out]), HB.out⟩
end Go.Proofs.YtecoiifmeajicaaDoor
