/-
  What a row of bits does. Conditions: as each says.
-/
import Derived.Test.YtecoiifmeajicaaDoorShfL
import Derived.Test.YtecoiifmeajicaaDoorPlainZ
namespace Go.Proofs.YtecoiifmeajicaaDoor
open Go.RowKit
set_option linter.unusedVariables false
set_option maxHeartbeats 1000000 in
theorem rowSet_any (X o k m : Nat) (w : World) (hk : k < 256) (hm : m < 18446744073709551616) (hc : w.cell? ⟨X, o + k / 64, none⟩ = some (.int .u64 (m : Int))) (hf : w.frozen? ⟨X, o + k / 64, none⟩ = false) :
    Calls Tryd.prog 58 #[.pointer (some ⟨X, o, none⟩), .int .i64 (k : Int)] w fun e w' => e = .returned (.tuple #[]) ∧ ∃ n, w' = (w.setCell ⟨X, o + k / 64, none⟩ (.int .u64 ((m ||| 2 ^ (k % 64) : Nat) : Int))).drewN n := by
  have hkI : (k : Int) < 256 := by omega
  have h4 : (k : Int) / 64 < 4 := by omega
  have h0 : (0 : Int) ≤ (k : Int) / 64 := by omega
  have e1 : ((k : Int) / 64).toNat = k / 64 := by omega
  go_enter Tryd.func58, Tryd.ntmps58
  go_region
  rw [or_pow m k hm]
  go_end0
  exact ⟨rfl, 1, rfl⟩
theorem shr_test (m t : Nat) (hm : m < 18446744073709551616) : (bits .and .u64 ((m : Int) / 2 ^ t) 1 != 0) = m.testBit t := by
  have h1 : m / 2 ^ t < 18446744073709551616 := Nat.lt_of_le_of_lt (Nat.div_le_self _ _) hm
  rw [show (m : Int) / 2 ^ t = ((m / 2 ^ t : Nat) : Int) by simp, show (1 : Int) = ((1 : Nat) : Int) from rfl, u64_and_nat _ _ h1 (by decide), Nat.testBit_eq_decide_div_mod_eq, Nat.and_one_is_mod, Bool.eq_iff_iff, bne_iff_ne, decide_eq_true_eq]
  omega
theorem step_word (x c h : Nat) (hc : c < 2) (hh : h < 18446744073709551616) : bits .and .u64 (bits .or .u64 (IntKind.u64.wrap ((x : Int) * 2)) (c : Int)) (h : Int) = (((x * 2 % 18446744073709551616 ||| c) &&& h : Nat) : Int) := by
  have h1 : x * 2 % 18446744073709551616 < 18446744073709551616 := Nat.mod_lt _ (by decide)
  have h2 : x * 2 % 18446744073709551616 ||| c < 18446744073709551616 := by
    have : x * 2 % 18446744073709551616 ||| c < 2 ^ 64 := Nat.or_lt_two_pow (by omega) (by omega)
    omega
  rw [IntKind.wrap_u64, show ((x : Int) * 2) % 18446744073709551616 = ((x * 2 % 18446744073709551616 : Nat) : Int) by omega, u64_or_nat _ _ h1 (by omega), u64_and_nat _ _ h2 hh]
set_option maxHeartbeats 1000000 in
theorem rowHas_any (X k m : Nat) (w : World) (hk : k < 256) (hm : m < 18446744073709551616) (hc : w.cell? ⟨X, k / 64, none⟩ = some (.int .u64 (m : Int))) :
    Calls Tryd.prog 60 #[.pointer (some ⟨X, 0, none⟩), .int .i64 (k : Int)] w fun e w' => e = .returned (.bool (m.testBit (k % 64))) ∧ w' = w := by
  have hkI : (k : Int) < 256 := by omega
  have h4 : (k : Int) / 64 < 4 := by omega
  have h0 : (0 : Int) ≤ (k : Int) / 64 := by omega
  have e1 : ((k : Int) / 64).toNat = k / 64 := by omega
  have HS := Hid.mk' (shr_test m (k % 64) hm)
  go_enter Tryd.func60, Tryd.ntmps60
  go_wp2_with fail
  rw [HS.out]
  go_ret
  exact ⟨rfl, rfl⟩
set_option maxRecDepth 100000 in
set_option maxHeartbeats 2000000 in
theorem rowStep_any (R X o : Nat) (f h : Nat → Nat) (w : World) (hX : X < R) (hf : ∀ j, f j < 18446744073709551616) (hh : ∀ j, j < 4 → h j < 18446744073709551616) (cr : ∀ j, j < 4 → w.cell? ⟨R, j, none⟩ = some (.int .u64 (f j : Int))) (fr : Thaw R w) (ch : ∀ j, j < 4 → w.cell? ⟨X, o + j, none⟩ = some (.int .u64 (h j : Int))) :
    Calls Tryd.prog 59 #[.pointer (some ⟨R, 0, none⟩), .pointer (some ⟨X, o, none⟩)] w fun e w' => e = .returned (.tuple #[]) ∧ (∀ j, j < 4 → w'.cell? ⟨R, j, none⟩ = some (.int .u64 (Lit.rdN f h j : Int))) ∧ Thaw R w' ∧ Below R w w' := by
  go_enter Tryd.func59, Tryd.ntmps59
  go_wp2_with fail
  go_loopw [4, 8] (fun c i wr => ∃ k : Nat, k ≤ 4 ∧ i = .int .i64 (k : Int) ∧ c = .int .u64 ((Lit.cin f k : Nat) : Int) ∧ Hid (∀ j, j < 4 → wr.cell? ⟨R, j, none⟩ = some (.int .u64 ((if j < k then Lit.rdN f h j else f j : Nat) : Int))) ∧ Hid (Thaw R wr) ∧ Hid (Below R w wr)) (fun _ i _ => 4 - (intOf i).toNat)
  case atStart => exact ⟨0, by omega, rfl, rfl, fun j hj => by simpa using cr j hj, fr, Below.refl _ _⟩
  case round =>
    obtain ⟨k, hk, rfl, rfl, HR, HF, HB⟩ := hrel
    by_cases hlt : k < 4
    · have hlI : (k : Int) < 4 := by omega
      have c1 := HR.out k hlt
      rw [if_neg (Nat.lt_irrefl k)] at c1
      have c2 : wr.cell? ⟨X, o + k, none⟩ = some (.int .u64 (h k : Int)) := (HB.out.cell (p := ⟨X, o + k, none⟩) hX).trans (ch k hlt)
      have fz := HF.out k
      go_wp2_with fail
      go_quiet (fail)
      go_wp2_with fail
      have HV : Hid (bits .and .u64 (bits .or .u64 (IntKind.u64.wrap ((f k : Int) * 2)) ((Lit.cin f k : Nat) : Int)) (h k : Int) = ((Lit.rdN f h k : Nat) : Int)) := step_word _ _ _ (Lit.cin_lt f hf k) (hh k hlt)
      have HCN : Hid ((f k : Int) / 9223372036854775808 = ((Lit.cin f (k + 1) : Nat) : Int)) := by show _ = ((f k / 9223372036854775808 : Nat) : Int); omega
      have x1 : (wr.drewN nq).cell? ⟨R, k, none⟩ = some (.int .u64 (f k : Int)) := c1
      have x2 : (wr.drewN nq).cell? ⟨X, o + k, none⟩ = some (.int .u64 (h k : Int)) := c2
      have xf : (wr.drewN nq).frozen? ⟨R, k, none⟩ = false := fz
      have HR2 : Hid (∀ j, j < 4 → (wr.drewN nq).cell? ⟨R, j, none⟩ = some (.int .u64 ((if j < k then Lit.rdN f h j else f j : Nat) : Int))) := HR.out
      have HF2 : Hid (Thaw R (wr.drewN nq)) := HF.out
      have HB2 : Hid (Below R w (wr.drewN nq)) := HB.out.drewN' nq
      have hfk := hf k
      generalize wr.drewN nq = W1 at *
      clear c1 c2 fz HR HF HB cr ch fr hf hh
      go_region
      rw [HV.out]
      have HR3 : Hid (∀ j, j < 4 → ((W1.setCell ⟨R, k, none⟩ (.int .u64 ((Lit.rdN f h k : Nat) : Int))).drew).cell? ⟨R, j, none⟩ = some (.int .u64 ((if j < k + 1 then Lit.rdN f h j else f j : Nat) : Int))) := fun j hj => by
        rw [World.cell?_drew]
        by_cases e : j = k
        · subst e
          rw [if_pos (by omega)]
          exact World.cell?_setCell_same _ _ _ x1
        · rw [World.cell?_setCell_other _ _ _ _ (by intro q; injection q; omega), HR2.out j hj]
          by_cases e2 : j < k
          · rw [if_pos e2, if_pos (by omega)]
          · rw [if_neg e2, if_neg (by omega)]
      have HF3 : Hid (Thaw R ((W1.setCell ⟨R, k, none⟩ (.int .u64 ((Lit.rdN f h k : Nat) : Int))).drew)) := HF2.out.set _ _
      have HB3 : Hid (Below R w ((W1.setCell ⟨R, k, none⟩ (.int .u64 ((Lit.rdN f h k : Nat) : Int))).drew)) := (HB2.out.setCell (p := ⟨R, k, none⟩) (Nat.le_refl _) _).drewN' 1
      generalize (W1.setCell ⟨R, k, none⟩ (.int .u64 ((Lit.rdN f h k : Nat) : Int))).drew = W2 at *
      go_wp2_with fail
      rw [HCN.out]
      go_roundw
      case rel => exact ⟨k + 1, by omega, by go_num, rfl, HR3.out, HF3.out, HB3.out⟩
      case measure => simp [intOf]; omega
    · have hlI : ¬ (k : Int) < 4 := by omega
      obtain rfl : k = 4 := by omega
      go_wp2_with fail
      go_end0
      exact ⟨rfl, fun j hj => by have := HR.out j hj; rw [if_pos hj] at this; exact this, HF.out, HB.out⟩
end Go.Proofs.YtecoiifmeajicaaDoor
