/-
  The walk of the law SwarReach: whatever text, byte and place it is given it returns true, and of what was there nothing turns. Conditions: the text is no longer than any text that is read can be, the place is an int, the byte a byte, the table of package math/bits lies as its text lays it.
-/
import Derived.Test.YthiabdpihnjkcaaDoorIndex
import Derived.Test.YthiabdpihnjkcaaDoorStr
namespace Go.Proofs.YthiabdpihnjkcaaDoor
open Go.RowKit
set_option linter.unusedVariables false
theorem low_255 (s : ByteArray) (a : Int) : bits .and .u64 ((Swar.ldL s a : Nat) : Int) 255 = ((Swar.cell s a : Nat) : Int) := by
  have h1 := Swar.ldL_lt s a
  have h2 := Swar.cell_lt s a
  rw [show (255 : Int) = ((255 : Nat) : Int) from rfl, u64_and_nat _ _ h1 (by omega), nat_mask8, Swar.ldL_eq]
  omega
set_option maxHeartbeats 1000000 in
theorem swarReach_any (s : ByteArray) (c : Nat) (f : Int) (w : World) (hs : s.size ≤ 140737488351232) (hc : c < 256) (hl : -9223372036854775808 ≤ f) (hh : f ≤ 9223372036854775807) (ht : Tab w) :
    Calls Tryd.prog 7 #[.string s, .int .u8 (c : Int), .int .i64 f] w fun e w' => e = .returned (.bool true) ∧ Below w.heap.size w w' := by
  have hsp := Swar.spreadL_lt c hc
  by_cases hf0 : f < 0
  all_goals
    go_enter Tryd.func7, Tryd.ntmps7
    go_wp2_with fail
    refine (index_any s c f _ (by omega) hc hl hh ht).mono ?_
    rintro e w' ⟨rfl, n0, rfl⟩
    generalize hR : Swar.idxL s c f.toNat = R
    have HR : Hid (Swar.idxL s c f.toNat = R) := hR
    clear hR
    go_wp2_with fail
    go_loopw [7] (fun i wr => ∃ a n : Nat, a ≤ 9223372036854775807 ∧ i = .int .i64 (a : Int) ∧ Hid (R = Swar.idxL s c a) ∧ wr = w.drewN n) (fun i _ => s.size + 8 - (intOf i).toNat)
    case atStart => exact ⟨f.toNat, n0, by omega, by go_num, HR.out.symm, rfl⟩
    case round =>
      obtain ⟨a, n, ha, rfl, HI, rfl⟩ := hrel
      clear HR
      by_cases hlt : a < s.size
      · have hq := Swar.hit_le s c a
        have hel := Swar.equalL_lt (Swar.ldL s a) (Swar.spreadL c)
        have hld := Swar.ldL_lt s a
        by_cases hf : Swar.hitL s c a < 8 ∧ a + Swar.hitL s c a < s.size
        · obtain ⟨f1, f2⟩ := hf
          have hF := Swar.idx_found s c a hc f1 f2
          have hB := Swar.hit_found s c a hc f1
          go_wp2_with fail
          refine (load_any s a _ (by omega) (by omega) (by omega)).mono ?_
          rintro e w1 ⟨rfl, n1, rfl⟩
          go_wp2_with fail
          refine (spread_any c _ hc).mono ?_
          rintro e w' ⟨rfl, rfl⟩
          go_wp2_with fail
          refine (equal_any _ _ _ hld hsp).mono ?_
          rintro e w1 ⟨rfl, rfl⟩
          go_wp2_with fail
          refine (first_any _ _ hel (ht.drewN _)).mono ?_
          rintro e w1 ⟨rfl, rfl⟩
          rw [show Swar.firstL (Swar.equalL (Swar.ldL s ↑a) (Swar.spreadL c)) = Swar.hitL s c a from rfl]
          generalize Swar.hitL s c a = h at *
          obtain ⟨q, hqe⟩ : ∃ q : Nat, q = a + h := ⟨_, rfl⟩
          have eR : R = (q : Int) := by rw [HI.out, hF]; omega
          have f3 : q < s.size := by omega
          have hx : (s[q]'f3).toNat = c := by subst hqe; rw [← Swar.bt_in f2]; exact hB
          have g1 : (h : Int) < 8 := by omega
          have g2 : (a : Int) + (h : Int) < (s.size : Int) := by omega
          have g3 : ((q : Int) == (a : Int) + (h : Int)) = true := by simp; omega
          have g4 : (((s[q]'f3).toNat : Int) == (c : Int)) = true := by rw [hx]; simp
          have g5 : (bits .and .u64 ((Swar.ldL s q : Nat) : Int) 255 == (c : Int)) = true := by
            rw [low_255, Swar.cell_nat, Swar.bt_in f3, hx]; simp
          clear hF hB HI hq hx hqe
          subst eR
          go_wp2_with fail
          refine (load_any s q _ (by omega) (by omega) (by omega)).mono ?_
          rintro e w1 ⟨rfl, n2, rfl⟩
          go_wp2_with fail
          go_ret
          exact ⟨rfl, below_drewN (Below.refl _ _) _⟩
        · have HF : Hid (Swar.idxL s c a = Swar.idxL s c (a + 8)) := Swar.idx_next s c a hc hlt hf
          by_cases h8 : Swar.hitL s c a < 8
          · have h9 : ¬ a + Swar.hitL s c a < s.size := fun h => hf ⟨h8, h⟩
            clear hf
            go_wp2_with fail
            refine (load_any s a _ (by omega) (by omega) (by omega)).mono ?_
            rintro e w1 ⟨rfl, n1, rfl⟩
            go_wp2_with fail
            refine (spread_any c _ hc).mono ?_
            rintro e w' ⟨rfl, rfl⟩
            go_wp2_with fail
            refine (equal_any _ _ _ hld hsp).mono ?_
            rintro e w1 ⟨rfl, rfl⟩
            go_wp2_with fail
            refine (first_any _ _ hel (ht.drewN _)).mono ?_
            rintro e w1 ⟨rfl, rfl⟩
            rw [show Swar.firstL (Swar.equalL (Swar.ldL s ↑a) (Swar.spreadL c)) = Swar.hitL s c a from rfl]
            generalize Swar.hitL s c a = h at *
            have g1 : (h : Int) < 8 := by omega
            have g2 : decide ((a : Int) + (h : Int) < (s.size : Int)) = false := decide_eq_false (by omega)
            clear h9 h8
            go_wp2_with fail
            go_roundw
            case rel => exact ⟨a + 8, n + n1, by omega, by go_num, by show _ = _; rw [HI.out, HF.out], rfl⟩
            case measure => simp [intOf]; omega
          · clear hf
            go_wp2_with fail
            refine (load_any s a _ (by omega) (by omega) (by omega)).mono ?_
            rintro e w1 ⟨rfl, n1, rfl⟩
            go_wp2_with fail
            refine (spread_any c _ hc).mono ?_
            rintro e w' ⟨rfl, rfl⟩
            go_wp2_with fail
            refine (equal_any _ _ _ hld hsp).mono ?_
            rintro e w1 ⟨rfl, rfl⟩
            go_wp2_with fail
            refine (first_any _ _ hel (ht.drewN _)).mono ?_
            rintro e w1 ⟨rfl, rfl⟩
            rw [show Swar.firstL (Swar.equalL (Swar.ldL s ↑a) (Swar.spreadL c)) = Swar.hitL s c a from rfl]
            generalize Swar.hitL s c a = h at *
            have g1 : decide ((h : Int) < 8) = false := decide_eq_false (by omega)
            clear h8
            go_wp2_with fail
            go_roundw
            case rel => exact ⟨a + 8, n + n1, by omega, by go_num, by show _ = _; rw [HI.out, HF.out], rfl⟩
            case measure => simp [intOf]; omega
      · have hI := Swar.idx_out s c a (by omega)
        have eR : R = -1 := by rw [HI.out, hI]
        have hlt' : ¬ (a : Int) < (s.size : Int) := by omega
        clear HI hI
        subst eR
        obtain ⟨t, ht1, ht0, hcv0⟩ := conv_one c hc
        have hcv := hcv0 n w
        have HT := idx_append_one s t c ht1 ht0
        have HTH : Hid (Swar.idxL (s ++ t) c s.size = (s.size : Int)) := HT
        have ht2 : (s ++ t).size ≤ 1125899906842624 := by simp; omega
        have hadd : s.size + t.size ≤ 9223372036854775807 := by omega
        clear HT hcv0 ht0 ht1
        go_wp2_with fail
        refine (index_any (s ++ t) c (s.size : Int) _ ht2 hc (by omega) (by omega) (ht.below ((below_drewN (Below.refl _ _) n).alloc (Nat.le_refl _) _))).mono ?_
        rintro e w1 ⟨rfl, n2, rfl⟩
        rw [Int.toNat_natCast, HTH.out]
        go_wp2_with fail
        go_ret
        exact ⟨rfl, below_drewN ((below_drewN (Below.refl _ _) n).alloc (Nat.le_refl _) _) n2⟩
end Go.Proofs.YthiabdpihnjkcaaDoor
