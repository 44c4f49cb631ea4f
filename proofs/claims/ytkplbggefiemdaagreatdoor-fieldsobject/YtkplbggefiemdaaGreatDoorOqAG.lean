/-
  object: quoted of any text. Conditions: as each says.
-/
import Derived.Test.YtkplbggefiemdaaGreatDoorObH
import Derived.Test.YtkplbggefiemdaaGreatDoorShL
import Derived.Test.YtkplbggefiemdaaGreatDoorShM
namespace Go.Proofs.YtkplbggefiemdaaGreatDoor
open Go.RowKit
set_option linter.unusedVariables false
set_option linter.unusedSimpArgs false
/-- what a digit of sixteen is worth -/
def hexO (c : Nat) : Option Nat := if 48 ≤ c ∧ c ≤ 57 then some (c - 48) else if 65 ≤ c ∧ c ≤ 70 then some (c - 55) else if 97 ≤ c ∧ c ≤ 102 then some (c - 87) else none
/-- such a digit, from one to another -/
def sixP (lo hi : Nat) (L : List Nat) (p : Nat) : Rv Nat :=
  match L.drop p with
  | [] => .no 130 p
  | c :: _ => match hexO c with
    | none => .no 130 p
    | some n => if lo ≤ n ∧ n ≤ hi then .ok n (p + 1) else .no 130 p
/-- a method that answers a number -/
def Rv.PostI (r : Rv Nat) (g : Nat) (S : ByteArray) (d : Nat) (w : World) (e : Ending) (w' : World) : Prop :=
  match r with
  | .ok n p => e = .returned (.int .i32 (n : Int)) ∧ Rr g S p d w' ∧ Only g w w'
  | .no c p => e = .panicked (flt c p) ∧ Only g w w'
def hexB : ByteArray := ⟨#[48, 49, 50, 51, 52, 53, 54, 55, 56, 57, 65, 66, 67, 68, 69, 70, 97, 98, 99, 100, 101, 102]⟩
/-- where a byte stands among the digits -/
def hexI (c : Nat) : Int := Lib.indexByte hexB.data.toList (c : Int).toNat.toUInt8
theorem hexI_is : ∀ c : Nat, c < 256 → (hexO c = none ∧ hexI c = -1) ∨ (∃ n, hexO c = some n ∧ n ≤ 15 ∧ hexI c = (n : Int)) ∨ (∃ n, hexO c = some n ∧ 10 ≤ n ∧ n ≤ 15 ∧ hexI c = (n : Int) + 6) := by
  intro c hc
  have h : ∀ c : Fin 256, (hexO c.val = none ∧ hexI c.val = -1) ∨ (∃ n : Fin 16, hexO c.val = some n.val ∧ n.val ≤ 15 ∧ hexI c.val = (n.val : Int)) ∨ (∃ n : Fin 16, hexO c.val = some n.val ∧ 10 ≤ n.val ∧ n.val ≤ 15 ∧ hexI c.val = (n.val : Int) + 6) := by decide +kernel
  rcases h ⟨c, hc⟩ with h1 | ⟨n, h1⟩ | ⟨n, h1⟩
  · exact .inl h1
  · exact .inr (.inl ⟨n.val, h1⟩)
  · exact .inr (.inr ⟨n.val, h1⟩)
set_option maxRecDepth 100000 in
set_option maxHeartbeats 4000000 in
theorem sixteenth_any (g : Nat) (S : ByteArray) (p d lo hi : Nat) (w : World) (h : Rr g S p d w) (hS : S.size ≤ 65536) (hlo : lo ≤ 15) (hhi : hi ≤ 15) :
    Calls Tryz.prog 182 #[.pointer (some ⟨g, 0, none⟩), .int .i32 (lo : Int), .int .i32 (hi : Int)] w ((sixP lo hi (Sums.bl S) p).PostI g S d w) := by
  have HS := Hid.mk' hS
  have HR := Hid.mk' h
  unfold sixP
  cases hd : (Sums.bl S).drop p with
  | nil =>
    have hpe := ob_nil S p h.le hd
    have HA := Hid.mk' (atEnd_any g S p d true w h hS (decide_eq_true hpe))
    clear h hS hd hpe
    dsimp only
    go_enter Tryz.func182, Tryz.ntmps182
    go_wp2_with fail
    refine HA.out.mono ?_
    rintro e w1 ⟨rfl, nd, hw1⟩
    have H1 : Hid (Rr g S p d w1 ∧ Only g w w1) := Hid.mk' (by rw [hw1]; exact ⟨HR.out.drewN nd, (Only.refl _ _).drewN nd⟩)
    clear hw1 HA
    go_wp2_with fail
    refine (cant_any g S p d _ H1.out.1).mono ?_
    rintro e w2 ⟨rfl, hw⟩
    have hw2 := hw.symm
    subst hw2
    clear hw
    exact ⟨rfl, rfl, H1.out.2⟩
  | cons c r =>
    obtain ⟨n1, n2, n3⟩ := ob_facts S p c r hd
    have hidx := ob_idx S p c r hd
    have HA := Hid.mk' (atEnd_any g S p d false w h hS (decide_eq_false (by omega)))
    have HI := Hid.mk' (fun W => Any.strings_IndexByte YtkplbggefiemdaaGreatDoor.lays137 hexB (c : Int) W)
    have hpb : (p : Int) < (S.size : Int) := by omega
    have hpb2 : (p : Int) ≤ 65536 := by omega
    have HN1 := Hid.mk' n1
    obtain ⟨z, hz⟩ : ∃ z, Lib.indexByte hexB.data.toList (c : Int).toNat.toUInt8 = z := ⟨_, rfl⟩
    rw [hz] at HI
    have hcase := hexI_is c n2
    unfold hexI at hcase
    rw [hz] at hcase
    unfold hexB at HI
    clear hz hd n3 hS h
    dsimp only
    rcases hcase with ⟨ho, rfl⟩ | ⟨n, ho, hn, rfl⟩ | ⟨n, ho, hn0, hn, rfl⟩
    · rw [ho]
      dsimp only
      clear ho
      have a1 : IntKind.i32.wrap (-1) = -1 := by decide
      have b1 : decide ((-1 : Int) < (lo : Int)) = true := decide_eq_true (by omega)
      have b3 : (-1 : Int) < (lo : Int) := by omega
      go_enter Tryz.func182, Tryz.ntmps182
      go_wp2_with fail
      refine HA.out.mono ?_
      rintro e w1 ⟨rfl, nd, hw1⟩
      have H1 : Hid (Rr g S p d w1 ∧ Only g w w1) := Hid.mk' (by rw [hw1]; exact ⟨HR.out.drewN nd, (Only.refl _ _).drewN nd⟩)
      obtain ⟨c0, c1, c2, f1, f2⟩ := H1.out.1.cells
      clear hw1 HA
      go_wp2_with fail
      go_quiet ((go_at_call 93; exact Calls.quiet_of_same (HI.out _)))
      have H2 : Hid (Rr g S p d (w1.drewN nq) ∧ Only g w (w1.drewN nq)) := Hid.mk' ⟨H1.out.1.drewN nq, H1.out.2.drewN nq⟩
      generalize w1.drewN nq = w2 at H2 ⊢
      clear c0 c1 c2 f1 f2 H1
      obtain ⟨c0, c1, c2, f1, f2⟩ := H2.out.1.cells
      go_wp2_with fail
      refine (cant_any g S p d _ H2.out.1).mono ?_
      rintro e w3 ⟨rfl, hw⟩
      have hw2 := hw.symm
      subst hw2
      clear hw
      exact ⟨rfl, rfl, H2.out.2⟩
    · rw [ho]
      dsimp only
      clear ho
      have a1 : IntKind.i32.wrap (n : Int) = (n : Int) := by rw [IntKind.wrap_i32]; omega
      have a2 : decide (15 < (n : Int)) = false := decide_eq_false (by omega)
      have a3 : decide (15 < n) = false := decide_eq_false (by omega)
      have a4 : ¬ 15 < n := by omega
      by_cases h1 : lo ≤ n
      · have b1 : decide ((n : Int) < (lo : Int)) = false := decide_eq_false (by omega)
        have b2 : decide (n < lo) = false := decide_eq_false (by omega)
        have b3 : ¬ n < lo := by omega
        by_cases h2 : n ≤ hi
        · rw [if_pos ⟨h1, h2⟩]
          have e1 : decide ((hi : Int) < (n : Int)) = false := decide_eq_false (by omega)
          have e2 : decide (hi < n) = false := decide_eq_false (by omega)
          have e3 : ¬ hi < n := by omega
          clear h1 h2 hhi hlo
          go_enter Tryz.func182, Tryz.ntmps182
          go_wp2_with fail
          refine HA.out.mono ?_
          rintro e w1 ⟨rfl, nd, hw1⟩
          have H1 : Hid (Rr g S p d w1 ∧ Only g w w1) := Hid.mk' (by rw [hw1]; exact ⟨HR.out.drewN nd, (Only.refl _ _).drewN nd⟩)
          obtain ⟨c0, c1, c2, f1, f2⟩ := H1.out.1.cells
          clear hw1 HA
          go_wp2_with fail
          go_quiet ((go_at_call 93; exact Calls.quiet_of_same (HI.out _)))
          have H2 : Hid (Rr g S p d (w1.drewN nq) ∧ Only g w (w1.drewN nq)) := Hid.mk' ⟨H1.out.1.drewN nq, H1.out.2.drewN nq⟩
          generalize w1.drewN nq = w2 at H2 ⊢
          clear c0 c1 c2 f1 f2 H1
          obtain ⟨c0, c1, c2, f1, f2⟩ := H2.out.1.cells
          go_wp2_with fail
          go_ret
          have q := H2.out.1.step HN1.out
          exact ⟨rfl, q.1, H2.out.2.trans q.2⟩
        · rw [if_neg (fun h => h2 h.2)]
          have e1 : decide ((hi : Int) < (n : Int)) = true := decide_eq_true (by omega)
          have e2 : decide (hi < n) = true := decide_eq_true (by omega)
          have e3 : hi < n := by omega
          clear h1 h2 hhi hlo
          go_enter Tryz.func182, Tryz.ntmps182
          go_wp2_with fail
          refine HA.out.mono ?_
          rintro e w1 ⟨rfl, nd, hw1⟩
          have H1 : Hid (Rr g S p d w1 ∧ Only g w w1) := Hid.mk' (by rw [hw1]; exact ⟨HR.out.drewN nd, (Only.refl _ _).drewN nd⟩)
          obtain ⟨c0, c1, c2, f1, f2⟩ := H1.out.1.cells
          clear hw1 HA
          go_wp2_with fail
          go_quiet ((go_at_call 93; exact Calls.quiet_of_same (HI.out _)))
          have H2 : Hid (Rr g S p d (w1.drewN nq) ∧ Only g w (w1.drewN nq)) := Hid.mk' ⟨H1.out.1.drewN nq, H1.out.2.drewN nq⟩
          generalize w1.drewN nq = w2 at H2 ⊢
          clear c0 c1 c2 f1 f2 H1
          obtain ⟨c0, c1, c2, f1, f2⟩ := H2.out.1.cells
          go_wp2_with fail
          refine (cant_any g S p d _ H2.out.1).mono ?_
          rintro e w3 ⟨rfl, hw⟩
          have hw2 := hw.symm
          subst hw2
          clear hw
          exact ⟨rfl, rfl, H2.out.2⟩
      · rw [if_neg (fun h => h1 h.1)]
        have b1 : decide ((n : Int) < (lo : Int)) = true := decide_eq_true (by omega)
        have b2 : decide (n < lo) = true := decide_eq_true (by omega)
        have b3 : n < lo := by omega
        clear h1 hhi hlo
        go_enter Tryz.func182, Tryz.ntmps182
        go_wp2_with fail
        refine HA.out.mono ?_
        rintro e w1 ⟨rfl, nd, hw1⟩
        have H1 : Hid (Rr g S p d w1 ∧ Only g w w1) := Hid.mk' (by rw [hw1]; exact ⟨HR.out.drewN nd, (Only.refl _ _).drewN nd⟩)
        obtain ⟨c0, c1, c2, f1, f2⟩ := H1.out.1.cells
        clear hw1 HA
        go_wp2_with fail
        go_quiet ((go_at_call 93; exact Calls.quiet_of_same (HI.out _)))
        have H2 : Hid (Rr g S p d (w1.drewN nq) ∧ Only g w (w1.drewN nq)) := Hid.mk' ⟨H1.out.1.drewN nq, H1.out.2.drewN nq⟩
        generalize w1.drewN nq = w2 at H2 ⊢
        clear c0 c1 c2 f1 f2 H1
        obtain ⟨c0, c1, c2, f1, f2⟩ := H2.out.1.cells
        go_wp2_with fail
        refine (cant_any g S p d _ H2.out.1).mono ?_
        rintro e w3 ⟨rfl, hw⟩
        have hw2 := hw.symm
        subst hw2
        clear hw
        exact ⟨rfl, rfl, H2.out.2⟩
    · rw [ho]
      dsimp only
      clear ho
      have a1 : IntKind.i32.wrap ((n : Int) + 6) = (n : Int) + 6 := by rw [IntKind.wrap_i32]; omega
      have a2 : decide (15 < (n : Int) + 6) = true := decide_eq_true (by omega)
      have a4 : (15 : Int) < (n : Int) + 6 := by omega
      have a5 : IntKind.i32.wrap (n : Int) = (n : Int) := by rw [IntKind.wrap_i32]; omega
      have a6 : IntKind.i32.wrap ((n : Int) + 6 - 6) = (n : Int) := by rw [IntKind.wrap_i32]; omega
      by_cases h1 : lo ≤ n
      · have b1 : decide ((n : Int) < (lo : Int)) = false := decide_eq_false (by omega)
        have b2 : decide (n < lo) = false := decide_eq_false (by omega)
        have b3 : ¬ n < lo := by omega
        by_cases h2 : n ≤ hi
        · rw [if_pos ⟨h1, h2⟩]
          have e1 : decide ((hi : Int) < (n : Int)) = false := decide_eq_false (by omega)
          have e2 : decide (hi < n) = false := decide_eq_false (by omega)
          have e3 : ¬ hi < n := by omega
          clear h1 h2 hhi hlo
          go_enter Tryz.func182, Tryz.ntmps182
          go_wp2_with fail
          refine HA.out.mono ?_
          rintro e w1 ⟨rfl, nd, hw1⟩
          have H1 : Hid (Rr g S p d w1 ∧ Only g w w1) := Hid.mk' (by rw [hw1]; exact ⟨HR.out.drewN nd, (Only.refl _ _).drewN nd⟩)
          obtain ⟨c0, c1, c2, f1, f2⟩ := H1.out.1.cells
          clear hw1 HA
          go_wp2_with fail
          go_quiet ((go_at_call 93; exact Calls.quiet_of_same (HI.out _)))
          have H2 : Hid (Rr g S p d (w1.drewN nq) ∧ Only g w (w1.drewN nq)) := Hid.mk' ⟨H1.out.1.drewN nq, H1.out.2.drewN nq⟩
          generalize w1.drewN nq = w2 at H2 ⊢
          clear c0 c1 c2 f1 f2 H1
          obtain ⟨c0, c1, c2, f1, f2⟩ := H2.out.1.cells
          go_wp2_with fail
          go_ret
          have q := H2.out.1.step HN1.out
          exact ⟨rfl, q.1, H2.out.2.trans q.2⟩
        · rw [if_neg (fun h => h2 h.2)]
          have e1 : decide ((hi : Int) < (n : Int)) = true := decide_eq_true (by omega)
          have e2 : decide (hi < n) = true := decide_eq_true (by omega)
          have e3 : hi < n := by omega
          clear h1 h2 hhi hlo
          go_enter Tryz.func182, Tryz.ntmps182
          go_wp2_with fail
          refine HA.out.mono ?_
          rintro e w1 ⟨rfl, nd, hw1⟩
          have H1 : Hid (Rr g S p d w1 ∧ Only g w w1) := Hid.mk' (by rw [hw1]; exact ⟨HR.out.drewN nd, (Only.refl _ _).drewN nd⟩)
          obtain ⟨c0, c1, c2, f1, f2⟩ := H1.out.1.cells
          clear hw1 HA
          go_wp2_with fail
          go_quiet ((go_at_call 93; exact Calls.quiet_of_same (HI.out _)))
          have H2 : Hid (Rr g S p d (w1.drewN nq) ∧ Only g w (w1.drewN nq)) := Hid.mk' ⟨H1.out.1.drewN nq, H1.out.2.drewN nq⟩
          generalize w1.drewN nq = w2 at H2 ⊢
          clear c0 c1 c2 f1 f2 H1
          obtain ⟨c0, c1, c2, f1, f2⟩ := H2.out.1.cells
          go_wp2_with fail
          refine (cant_any g S p d _ H2.out.1).mono ?_
          rintro e w3 ⟨rfl, hw⟩
          have hw2 := hw.symm
          subst hw2
          clear hw
          exact ⟨rfl, rfl, H2.out.2⟩
      · rw [if_neg (fun h => h1 h.1)]
        have b1 : decide ((n : Int) < (lo : Int)) = true := decide_eq_true (by omega)
        have b2 : decide (n < lo) = true := decide_eq_true (by omega)
        have b3 : n < lo := by omega
        clear h1 hhi hlo
        go_enter Tryz.func182, Tryz.ntmps182
        go_wp2_with fail
        refine HA.out.mono ?_
        rintro e w1 ⟨rfl, nd, hw1⟩
        have H1 : Hid (Rr g S p d w1 ∧ Only g w w1) := Hid.mk' (by rw [hw1]; exact ⟨HR.out.drewN nd, (Only.refl _ _).drewN nd⟩)
        obtain ⟨c0, c1, c2, f1, f2⟩ := H1.out.1.cells
        clear hw1 HA
        go_wp2_with fail
        go_quiet ((go_at_call 93; exact Calls.quiet_of_same (HI.out _)))
        have H2 : Hid (Rr g S p d (w1.drewN nq) ∧ Only g w (w1.drewN nq)) := Hid.mk' ⟨H1.out.1.drewN nq, H1.out.2.drewN nq⟩
        generalize w1.drewN nq = w2 at H2 ⊢
        clear c0 c1 c2 f1 f2 H1
        obtain ⟨c0, c1, c2, f1, f2⟩ := H2.out.1.cells
        go_wp2_with fail
        refine (cant_any g S p d _ H2.out.1).mono ?_
        rintro e w3 ⟨rfl, hw⟩
        have hw2 := hw.symm
        subst hw2
        clear hw
        exact ⟨rfl, rfl, H2.out.2⟩
end Go.Proofs.YtkplbggefiemdaaGreatDoor

namespace Go.Proofs.YtkplbggefiemdaaGreatDoor
open Go.RowKit
set_option linter.unusedVariables false
set_option linter.unusedSimpArgs false
theorem or_hex (n a : Nat) (hn : n < 16777216) (ha : a < 16) : bits .or .i32 ((n : Int) * 16) (a : Int) = ((n * 16 + a : Nat) : Int) := by
  have e : (n : Int) * 16 = ((n * 16 : Nat) : Int) := by omega
  have h1 : (BitVec.ofInt 32 ((n * 16 : Nat) : Int)).toNat = n * 16 := by
    rw [BitVec.ofInt_natCast, BitVec.toNat_ofNat]; exact Nat.mod_eq_of_lt (by omega)
  have h2 : (BitVec.ofInt 32 (a : Int)).toNat = a := by
    rw [BitVec.ofInt_natCast, BitVec.toNat_ofNat]; exact Nat.mod_eq_of_lt (by omega)
  have h3 : n * 16 ||| a = n * 16 + a := by
    have := Nat.shiftLeft_add_eq_or_of_lt (i := 4) (b := a) (by omega) n
    rw [Nat.shiftLeft_eq] at this
    exact this.symm
  rw [e]
  show IntKind.i32.wrap ((BitVec.ofInt 32 ((n * 16 : Nat) : Int) ||| BitVec.ofInt 32 (a : Int)).toNat : Int) = _
  rw [BitVec.toNat_or, h1, h2, h3, IntKind.wrap_i32]
  omega
/-- so many more digits behind a number -/
def morP (L : List Nat) : Nat → Nat → Nat → Rv Nat
  | 0, n, p => .ok n p
  | k + 1, n, p => (sixP 0 15 L p).bind fun a q => morP L k (n * 16 + a) q
theorem sixP_ok {lo hi : Nat} {L : List Nat} {p a q : Nat} (h : sixP lo hi L p = .ok a q) : lo ≤ a ∧ a ≤ hi ∧ q = p + 1 := by
  unfold sixP at h
  split at h
  · cases h
  · split at h
    · cases h
    · split at h
      · injection h with h1 h2
        subst h1
        rename_i hh
        exact ⟨hh.1, hh.2, h2.symm⟩
      · cases h
theorem Rv.PostI.only {r : Rv Nat} {g : Nat} {S : ByteArray} {d : Nat} {w w1 : World} {e : Ending} {w' : World} (h : r.PostI g S d w1 e w') (ho : Only g w w1) : r.PostI g S d w e w' := by
  cases r with
  | ok a q => exact ⟨h.1, h.2.1, ho.trans h.2.2⟩
  | no c q => exact ⟨h.1, ho.trans h.2⟩
set_option maxRecDepth 100000 in
set_option maxHeartbeats 4000000 in
theorem twoMore_any (g : Nat) (S : ByteArray) (p d n : Nat) (w : World) (h : Rr g S p d w) (hS : S.size ≤ 65536) (hn : n < 256) :
    Calls Tryz.prog 183 #[.pointer (some ⟨g, 0, none⟩), .int .i32 (n : Int)] w ((morP (Sums.bl S) 2 n p).PostI g S d w) := by
  have HS := Hid.mk' hS
  have HR := Hid.mk' h
  obtain ⟨R, hR⟩ : ∃ R, morP (Sums.bl S) 2 n p = R := ⟨_, rfl⟩
  rw [hR]
  have HRR := Hid.mk' hR
  clear h hS hR
  go_enter Tryz.func183, Tryz.ntmps183
  go_wp2_with fail
  go_loopw [1, 5] (fun nv iv wr => ∃ m k q : Nat, nv = .int .i32 (m : Int) ∧ iv = .int .i64 (k : Int) ∧ k ≤ 2 ∧ m < 256 * 16 ^ k ∧ Hid (morP (Sums.bl S) (2 - k) m q = R) ∧ Hid (Rr g S q d wr ∧ Only g w wr)) (fun nv iv _ => 2 - (intOf iv).toNat)
  case atStart => exact ⟨n, 0, p, rfl, rfl, by omega, by omega, HRR, Hid.mk' ⟨HR.out, Only.refl _ _⟩⟩
  case round =>
    obtain ⟨m, k, q, rfl, rfl, hk, hm, HM, HW⟩ := hrel
    rename World => wr
    clear HRR HR
    by_cases hk2 : k < 2
    · have hkI : (k : Int) < 2 := by omega
      have hmb : m < 4096 := by
        rcases (show k = 0 ∨ k = 1 by omega) with rfl | rfl <;> omega
      have hm2 : ∀ a, a < 16 → m * 16 + a < 256 * 16 ^ (k + 1) := by
        intro a ha
        rw [Nat.pow_succ]
        omega
      have HM2 := Hid.mk' hm2
      have a1 : IntKind.i32.wrap ((m : Int) * 16) = (m : Int) * 16 := by rw [IntKind.wrap_i32]; omega
      have a2 : IntKind.i32.wrap ((m : Int) * 2 ^ 4) = (m : Int) * 16 := by rw [IntKind.wrap_i32]; omega
      have hst := HM.out
      rw [show 2 - k = (2 - (k + 1)) + 1 by omega, morP] at hst
      have HX := Hid.mk' (sixteenth_any g S q d 0 15 wr HW.out.1 HS.out (by omega) (by omega))
      cases hsx : sixP 0 15 (Sums.bl S) q with
      | no c z =>
        rw [hsx] at HX hst
        have hRn : Rv.no c z = R := hst
        subst hRn
        clear hst hsx HM hm hm2 HM2
        go_wp2_with fail
        refine HX.out.mono ?_
        rintro e w1 ⟨rfl, ho⟩
        exact ⟨rfl, rfl, HW.out.2.trans ho⟩
      | ok a z =>
        obtain ⟨_, ha, _⟩ := sixP_ok hsx
        rw [hsx] at HX hst
        have HRn : Hid (morP (Sums.bl S) (2 - (k + 1)) (m * 16 + a) z = R) := Hid.mk' hst
        have a3 := or_hex m a (by omega) (by omega)
        have hma := hm2 a (by omega)
        clear hst hsx HM hm hm2
        go_wp2_with fail
        refine HX.out.mono ?_
        rintro e w1 ⟨rfl, hr1, ho⟩
        have HW1 : Hid (Rr g S z d w1 ∧ Only g w w1) := Hid.mk' ⟨hr1, HW.out.2.trans ho⟩
        clear hr1 ho HW HX
        go_wp2_with fail
        go_roundw
        case rel => exact ⟨m * 16 + a, k + 1, z, by go_num, by go_num, by omega, hma, HRn, HW1⟩
        case measure => simp [intOf]; omega
    · obtain rfl : k = 2 := by omega
      have hst : Rv.ok m q = R := HM.out
      subst hst
      clear HM
      go_wp2_with fail
      go_ret
      exact ⟨rfl, HW.out.1, HW.out.2⟩
end Go.Proofs.YtkplbggefiemdaaGreatDoor

namespace Go.Proofs.YtkplbggefiemdaaGreatDoor
open Go.RowKit
set_option linter.unusedVariables false
set_option linter.unusedSimpArgs false
theorem morP_ok (L : List Nat) : ∀ (k n p m q : Nat), morP L k n p = .ok m q → n * 16 ^ k ≤ m ∧ m < (n + 1) * 16 ^ k ∧ q = p + k
  | 0, n, p, m, q, h => by
    rw [morP] at h
    injection h with h1 h2
    subst h1 h2
    omega
  | k + 1, n, p, m, q, h => by
    rw [morP] at h
    cases hs : sixP 0 15 L p with
    | no c z => rw [hs] at h; cases h
    | ok a z =>
      rw [hs] at h
      obtain ⟨_, ha, hz⟩ := sixP_ok hs
      obtain ⟨h1, h2, h3⟩ := morP_ok L k (n * 16 + a) z m q h
      have e : 16 ^ (k + 1) = 16 * 16 ^ k := by rw [Nat.pow_succ]; omega
      rw [e]
      generalize 16 ^ k = X at h1 h2
      refine ⟨?_, ?_, by omega⟩
      · have : n * (16 * X) ≤ (n * 16 + a) * X := by rw [← Nat.mul_assoc]; exact Nat.mul_le_mul_right X (by omega)
        omega
      · have : (n * 16 + a + 1) * X ≤ (n + 1) * (16 * X) := by rw [← Nat.mul_assoc]; exact Nat.mul_le_mul_right X (by omega)
        omega
/-- the second half of a pair -/
def halP (L : List Nat) (n p : Nat) : Rv Nat :=
  if rngO 92 92 (L.drop p) = true then
    if rngO 117 117 (L.drop (p + 1)) = true then
      (sixP 13 13 L (p + 2)).bind fun a q => (sixP 12 15 L q).bind fun b z => (morP L 2 (a * 16 + b) z).bind fun m y => .ok (65536 + (n - 55296) * 1024 + (m - 56320)) y
    else .no 130 (p + 1)
  else .no 130 p
/-- a number that was read: a character's, or the first half of a pair -/
def numE (L : List Nat) (n y : Nat) : Rv Nat := if n < 55296 ∨ 56320 ≤ n then .ok n y else halP L n y
/-- a character by its number -/
def numP (L : List Nat) (p : Nat) : Rv Nat :=
  (sixP 0 15 L p).bind fun a q => (sixP 0 (if a = 13 then 11 else 15) L q).bind fun b z => (morP L 2 (a * 16 + b) z).bind (numE L)
set_option maxRecDepth 100000 in
set_option maxHeartbeats 8000000 in
theorem numbered_any (g : Nat) (S : ByteArray) (p d : Nat) (w : World) (h : Rr g S p d w) (hS : S.size ≤ 65536) :
    Calls Tryz.prog 179 #[.pointer (some ⟨g, 0, none⟩)] w ((numP (Sums.bl S) p).PostI g S d w) := by
  have HS := Hid.mk' hS
  have HR := Hid.mk' h
  have H1 := Hid.mk' (sixteenth_any g S p d 0 15 w h hS (by omega) (by omega))
  obtain ⟨R, hR⟩ : ∃ R, numP (Sums.bl S) p = R := ⟨_, rfl⟩
  rw [hR]
  have E1 := Hid.mk' hR
  clear h hS hR
  cases h1 : sixP 0 15 (Sums.bl S) p with
  | no c z =>
    rw [h1] at H1
    have hRn : Rv.no c z = R := by have h := E1.out; unfold numP at h; rw [h1] at h; exact h
    subst hRn
    clear h1 E1
    go_enter Tryz.func179, Tryz.ntmps179
    go_wp2_with fail
    refine H1.out.mono ?_
    rintro e w1 ⟨rfl, ho⟩
    exact ⟨rfl, rfl, ho⟩
  | ok a q1 =>
    obtain ⟨_, ha, hq1⟩ := sixP_ok h1
    rw [h1] at H1
    by_cases h13 : a = 13
    · have E2 : Hid ((sixP 0 11 (Sums.bl S) q1).bind (fun b z => (morP (Sums.bl S) 2 (a * 16 + b) z).bind (numE (Sums.bl S))) = R) := Hid.mk' (by have h := E1.out; unfold numP at h; rw [h1] at h; have h2 : (sixP 0 (if a = 13 then 11 else 15) (Sums.bl S) q1).bind (fun b z => (morP (Sums.bl S) 2 (a * 16 + b) z).bind (numE (Sums.bl S))) = R := h; rw [if_pos h13] at h2; exact h2)
      clear h1 E1
      have t0 : ((a : Int) == 13) = true := by simp [h13]
      have t00 : (a == 13) = true := by simp [h13]
      clear h13
      go_enter Tryz.func179, Tryz.ntmps179
      go_wp2_with fail
      refine H1.out.mono ?_
      rintro e w1 ⟨rfl, hr1, ho1⟩
      have W1 : Hid (Rr g S q1 d w1 ∧ Only g w w1) := Hid.mk' ⟨hr1, ho1⟩
      clear hr1 ho1 H1
      have H2 := Hid.mk' (sixteenth_any g S q1 d 0 11 w1 W1.out.1 HS.out (by omega) (by omega))
      cases h2 : sixP 0 11 (Sums.bl S) q1 with
      | no c z =>
        rw [h2] at H2
        have hRn : Rv.no c z = R := by have h := E2.out; rw [h2] at h; exact h
        subst hRn
        clear h2 E2
        go_wp2_with fail
        refine H2.out.mono ?_
        rintro e w2 ⟨rfl, ho⟩
        exact ⟨rfl, rfl, W1.out.2.trans ho⟩
      | ok b q2 =>
        obtain ⟨_, hb, hq2⟩ := sixP_ok h2
        rw [h2] at H2
        have a3 := or_hex a b (by omega) (by omega)
        have a1 : IntKind.i32.wrap ((a : Int) * 16) = (a : Int) * 16 := by rw [IntKind.wrap_i32]; omega
        have E3 : Hid ((morP (Sums.bl S) 2 (a * 16 + b) q2).bind (numE (Sums.bl S)) = R) := Hid.mk' (by have h := E2.out; rw [h2] at h; exact h)
        clear h2 E2
        go_wp2_with fail
        refine H2.out.mono ?_
        rintro e w2 ⟨rfl, hr, ho⟩
        have W2 : Hid (Rr g S q2 d w2 ∧ Only g w w2) := Hid.mk' ⟨hr, W1.out.2.trans ho⟩
        clear hr ho H2
        have H3 := Hid.mk' (twoMore_any g S q2 d (a * 16 + b) w2 W2.out.1 HS.out (by omega))
        cases h3 : morP (Sums.bl S) 2 (a * 16 + b) q2 with
        | no c z =>
          rw [h3] at H3
          have hRn : Rv.no c z = R := by have h := E3.out; rw [h3] at h; exact h
          subst hRn
          clear h3 E3
          go_wp2_with fail
          refine H3.out.mono ?_
          rintro e w3 ⟨rfl, ho⟩
          exact ⟨rfl, rfl, W2.out.2.trans ho⟩
        | ok n q3 =>
          have hn := morP_ok _ _ _ _ _ _ h3
          rw [h3] at H3
          have hnb : n < 65536 := by omega
          have E4 : Hid (numE (Sums.bl S) n q3 = R) := Hid.mk' (by have h := E3.out; rw [h3] at h; exact h)
          clear h3 E3
          clear hn
          go_wp2_with fail
          refine H3.out.mono ?_
          rintro e w3 ⟨rfl, hr, ho⟩
          have W3 : Hid (Rr g S q3 d w3 ∧ Only g w w3) := Hid.mk' ⟨hr, W2.out.2.trans ho⟩
          clear hr ho H3
          by_cases hlo : n < 55296
          · have hRn : Rv.ok n q3 = R := by have h := E4.out; unfold numE at h; rw [if_pos (.inl hlo)] at h; exact h
            subst hRn
            clear E4
            have t1 : decide ((n : Int) < 55296) = true := decide_eq_true (by omega)
            have t2 : decide (n < 55296) = true := decide_eq_true hlo
            go_wp2_with fail
            go_ret
            exact ⟨rfl, W3.out.1, W3.out.2⟩
          · have t1 : decide ((n : Int) < 55296) = false := decide_eq_false (by omega)
            have t2 : decide (n < 55296) = false := decide_eq_false hlo
            by_cases hhi : 56320 ≤ n
            · have hRn : Rv.ok n q3 = R := by have h := E4.out; unfold numE at h; rw [if_pos (.inr hhi)] at h; exact h
              subst hRn
              clear E4
              have t3 : decide (56320 ≤ (n : Int)) = true := decide_eq_true (by omega)
              have t4 : decide (56320 ≤ n) = true := decide_eq_true hhi
              go_wp2_with fail
              go_ret
              exact ⟨rfl, W3.out.1, W3.out.2⟩
            · have E5 : Hid (halP (Sums.bl S) n q3 = R) := Hid.mk' (by have h := E4.out; unfold numE at h; rw [if_neg (by omega)] at h; exact h)
              clear E4
              have t3 : decide (56320 ≤ (n : Int)) = false := decide_eq_false (by omega)
              have t4 : decide (56320 ≤ n) = false := decide_eq_false hhi
              have H4 := Hid.mk' (need_any g S q3 d 92 _ w3 W3.out.1 HS.out rfl)
              cases hr4 : rngO 92 92 ((Sums.bl S).drop q3)
              · rw [hr4] at H4
                have hRn : Rv.no 130 q3 = R := by have h := E5.out; unfold halP at h; rw [hr4] at h; exact h
                subst hRn
                go_wp2_with fail
                refine H4.out.mono ?_
                rintro e w4 ⟨rfl, hr, ho⟩
                exact ⟨rfl, rfl, W3.out.2.trans ho⟩
              · rw [hr4] at H4
                go_wp2_with fail
                refine H4.out.mono ?_
                rintro e w4 ⟨he, hr, ho⟩
                have he2 : e = .returned (.tuple #[]) := he
                subst he2
                have W4 : Hid (Rr g S (q3 + 1) d w4 ∧ Only g w w4) := Hid.mk' ⟨hr, W3.out.2.trans ho⟩
                clear hr ho he H4
                have H5 := Hid.mk' (need_any g S (q3 + 1) d 117 _ w4 W4.out.1 HS.out rfl)
                cases hr5 : rngO 117 117 ((Sums.bl S).drop (q3 + 1))
                · rw [hr5] at H5
                  have hRn : Rv.no 130 (q3 + 1) = R := by have h := E5.out; unfold halP at h; rw [hr4, hr5] at h; exact h
                  subst hRn
                  clear E5 hr4 hr5
                  go_wp2_with fail
                  refine H5.out.mono ?_
                  rintro e w5 ⟨rfl, hr, ho⟩
                  exact ⟨rfl, rfl, W4.out.2.trans ho⟩
                · rw [hr5] at H5
                  have E6 : Hid ((sixP 13 13 (Sums.bl S) (q3 + 2)).bind (fun a q => (sixP 12 15 (Sums.bl S) q).bind fun b z => (morP (Sums.bl S) 2 (a * 16 + b) z).bind fun m y => .ok (65536 + (n - 55296) * 1024 + (m - 56320)) y) = R) := Hid.mk' (by have h := E5.out; unfold halP at h; rw [hr4, hr5] at h; exact h)
                  clear E5 hr4 hr5
                  go_wp2_with fail
                  refine H5.out.mono ?_
                  rintro e w5 ⟨he, hr, ho⟩
                  have he2 : e = .returned (.tuple #[]) := he
                  subst he2
                  have W5 : Hid (Rr g S (q3 + 2) d w5 ∧ Only g w w5) := Hid.mk' ⟨hr, W4.out.2.trans ho⟩
                  clear hr ho he H5
                  have H6 := Hid.mk' (sixteenth_any g S (q3 + 2) d 13 13 w5 W5.out.1 HS.out (by omega) (by omega))
                  cases h6 : sixP 13 13 (Sums.bl S) (q3 + 2) with
                  | no c z =>
                    rw [h6] at H6
                    have hRn : Rv.no c z = R := by have h := E6.out; rw [h6] at h; exact h
                    subst hRn
                    clear h6 E6
                    go_wp2_with fail
                    refine H6.out.mono ?_
                    rintro e w6 ⟨rfl, ho⟩
                    exact ⟨rfl, rfl, W5.out.2.trans ho⟩
                  | ok a2 q6 =>
                    obtain ⟨ha0, ha1, _⟩ := sixP_ok h6
                    rw [h6] at H6
                    have b1 : IntKind.i32.wrap ((a2 : Int) * 16) = (a2 : Int) * 16 := by rw [IntKind.wrap_i32]; omega
                    have E7 : Hid ((sixP 12 15 (Sums.bl S) q6).bind (fun b z => (morP (Sums.bl S) 2 (a2 * 16 + b) z).bind fun m y => .ok (65536 + (n - 55296) * 1024 + (m - 56320)) y) = R) := Hid.mk' (by have h := E6.out; rw [h6] at h; exact h)
                    clear h6 E6
                    go_wp2_with fail
                    refine H6.out.mono ?_
                    rintro e w6 ⟨rfl, hr, ho⟩
                    have W6 : Hid (Rr g S q6 d w6 ∧ Only g w w6) := Hid.mk' ⟨hr, W5.out.2.trans ho⟩
                    clear hr ho H6
                    have H7 := Hid.mk' (sixteenth_any g S q6 d 12 15 w6 W6.out.1 HS.out (by omega) (by omega))
                    cases h7 : sixP 12 15 (Sums.bl S) q6 with
                    | no c z =>
                      rw [h7] at H7
                      have hRn : Rv.no c z = R := by have h := E7.out; rw [h7] at h; exact h
                      subst hRn
                      clear h7 E7
                      go_wp2_with fail
                      refine H7.out.mono ?_
                      rintro e w7 ⟨rfl, ho⟩
                      exact ⟨rfl, rfl, W6.out.2.trans ho⟩
                    | ok b2 q7 =>
                      obtain ⟨hb0, hb1, _⟩ := sixP_ok h7
                      rw [h7] at H7
                      have b3 := or_hex a2 b2 (by omega) (by omega)
                      have E8 : Hid ((morP (Sums.bl S) 2 (a2 * 16 + b2) q7).bind (fun m y => .ok (65536 + (n - 55296) * 1024 + (m - 56320)) y) = R) := Hid.mk' (by have h := E7.out; rw [h7] at h; exact h)
                      clear h7 E7
                      go_wp2_with fail
                      refine H7.out.mono ?_
                      rintro e w7 ⟨rfl, hr, ho⟩
                      have W7 : Hid (Rr g S q7 d w7 ∧ Only g w w7) := Hid.mk' ⟨hr, W6.out.2.trans ho⟩
                      clear hr ho H7
                      have H8 := Hid.mk' (twoMore_any g S q7 d (a2 * 16 + b2) w7 W7.out.1 HS.out (by omega))
                      cases h8 : morP (Sums.bl S) 2 (a2 * 16 + b2) q7 with
                      | no c z =>
                        rw [h8] at H8
                        have hRn : Rv.no c z = R := by have h := E8.out; rw [h8] at h; exact h
                        subst hRn
                        clear h8 E8
                        go_wp2_with fail
                        refine H8.out.mono ?_
                        rintro e w8 ⟨rfl, ho⟩
                        exact ⟨rfl, rfl, W7.out.2.trans ho⟩
                      | ok m q8 =>
                        have hm := morP_ok _ _ _ _ _ _ h8
                        rw [h8] at H8
                        have hm0 : 56320 ≤ m := by omega
                        have hm1 : m < 57344 := by omega
                        have hRn : Rv.ok (65536 + (n - 55296) * 1024 + (m - 56320)) q8 = R := by have h := E8.out; rw [h8] at h; exact h
                        subst hRn
                        clear h8 hm E8
                        go_wp2_with fail
                        refine H8.out.mono ?_
                        rintro e w8 ⟨rfl, hr, ho⟩
                        have W8 : Hid (Rr g S q8 d w8 ∧ Only g w w8) := Hid.mk' ⟨hr, W7.out.2.trans ho⟩
                        clear hr ho H8 b1 b3
                        have e1 : IntKind.i32.wrap ((n : Int) - 55296) = (n : Int) - 55296 := by rw [IntKind.wrap_i32]; omega
                        have e2 : IntKind.i32.wrap (((n : Int) - 55296) * 1024) = ((n : Int) - 55296) * 1024 := by rw [IntKind.wrap_i32]; omega
                        have e3 : IntKind.i32.wrap (65536 + ((n : Int) - 55296) * 1024) = 65536 + ((n : Int) - 55296) * 1024 := by rw [IntKind.wrap_i32]; omega
                        have e4 : IntKind.i32.wrap (65536 + ((n : Int) - 55296) * 1024 + (m : Int)) = 65536 + ((n : Int) - 55296) * 1024 + (m : Int) := by rw [IntKind.wrap_i32]; omega
                        have e5 : IntKind.i32.wrap (65536 + ((n : Int) - 55296) * 1024 + (m : Int) - 56320) = 65536 + ((n : Int) - 55296) * 1024 + (m : Int) - 56320 := by rw [IntKind.wrap_i32]; omega
                        have HE : Hid (65536 + ((n : Int) - 55296) * 1024 + (m : Int) - 56320 = ((65536 + (n - 55296) * 1024 + (m - 56320) : Nat) : Int)) := Hid.mk' (by omega)
                        go_wp2_with fail
                        go_ret
                        exact ⟨congrArg (fun x : Int => Ending.returned (.int .i32 x)) HE.out, W8.out.1, W8.out.2⟩
    · have E2 : Hid ((sixP 0 15 (Sums.bl S) q1).bind (fun b z => (morP (Sums.bl S) 2 (a * 16 + b) z).bind (numE (Sums.bl S))) = R) := Hid.mk' (by have h := E1.out; unfold numP at h; rw [h1] at h; have h2 : (sixP 0 (if a = 13 then 11 else 15) (Sums.bl S) q1).bind (fun b z => (morP (Sums.bl S) 2 (a * 16 + b) z).bind (numE (Sums.bl S))) = R := h; rw [if_neg h13] at h2; exact h2)
      clear h1 E1
      have t0 : ((a : Int) == 13) = false := beq_eq_false_iff_ne.2 (by omega)
      have t00 : (a == 13) = false := beq_eq_false_iff_ne.2 h13
      clear h13
      go_enter Tryz.func179, Tryz.ntmps179
      go_wp2_with fail
      refine H1.out.mono ?_
      rintro e w1 ⟨rfl, hr1, ho1⟩
      have W1 : Hid (Rr g S q1 d w1 ∧ Only g w w1) := Hid.mk' ⟨hr1, ho1⟩
      clear hr1 ho1 H1
      have H2 := Hid.mk' (sixteenth_any g S q1 d 0 15 w1 W1.out.1 HS.out (by omega) (by omega))
      cases h2 : sixP 0 15 (Sums.bl S) q1 with
      | no c z =>
        rw [h2] at H2
        have hRn : Rv.no c z = R := by have h := E2.out; rw [h2] at h; exact h
        subst hRn
        clear h2 E2
        go_wp2_with fail
        refine H2.out.mono ?_
        rintro e w2 ⟨rfl, ho⟩
        exact ⟨rfl, rfl, W1.out.2.trans ho⟩
      | ok b q2 =>
        obtain ⟨_, hb, hq2⟩ := sixP_ok h2
        rw [h2] at H2
        have a3 := or_hex a b (by omega) (by omega)
        have a1 : IntKind.i32.wrap ((a : Int) * 16) = (a : Int) * 16 := by rw [IntKind.wrap_i32]; omega
        have E3 : Hid ((morP (Sums.bl S) 2 (a * 16 + b) q2).bind (numE (Sums.bl S)) = R) := Hid.mk' (by have h := E2.out; rw [h2] at h; exact h)
        clear h2 E2
        go_wp2_with fail
        refine H2.out.mono ?_
        rintro e w2 ⟨rfl, hr, ho⟩
        have W2 : Hid (Rr g S q2 d w2 ∧ Only g w w2) := Hid.mk' ⟨hr, W1.out.2.trans ho⟩
        clear hr ho H2
        have H3 := Hid.mk' (twoMore_any g S q2 d (a * 16 + b) w2 W2.out.1 HS.out (by omega))
        cases h3 : morP (Sums.bl S) 2 (a * 16 + b) q2 with
        | no c z =>
          rw [h3] at H3
          have hRn : Rv.no c z = R := by have h := E3.out; rw [h3] at h; exact h
          subst hRn
          clear h3 E3
          go_wp2_with fail
          refine H3.out.mono ?_
          rintro e w3 ⟨rfl, ho⟩
          exact ⟨rfl, rfl, W2.out.2.trans ho⟩
        | ok n q3 =>
          have hn := morP_ok _ _ _ _ _ _ h3
          rw [h3] at H3
          have hnb : n < 65536 := by omega
          have E4 : Hid (numE (Sums.bl S) n q3 = R) := Hid.mk' (by have h := E3.out; rw [h3] at h; exact h)
          clear h3 E3
          clear hn
          go_wp2_with fail
          refine H3.out.mono ?_
          rintro e w3 ⟨rfl, hr, ho⟩
          have W3 : Hid (Rr g S q3 d w3 ∧ Only g w w3) := Hid.mk' ⟨hr, W2.out.2.trans ho⟩
          clear hr ho H3
          by_cases hlo : n < 55296
          · have hRn : Rv.ok n q3 = R := by have h := E4.out; unfold numE at h; rw [if_pos (.inl hlo)] at h; exact h
            subst hRn
            clear E4
            have t1 : decide ((n : Int) < 55296) = true := decide_eq_true (by omega)
            have t2 : decide (n < 55296) = true := decide_eq_true hlo
            go_wp2_with fail
            go_ret
            exact ⟨rfl, W3.out.1, W3.out.2⟩
          · have t1 : decide ((n : Int) < 55296) = false := decide_eq_false (by omega)
            have t2 : decide (n < 55296) = false := decide_eq_false hlo
            by_cases hhi : 56320 ≤ n
            · have hRn : Rv.ok n q3 = R := by have h := E4.out; unfold numE at h; rw [if_pos (.inr hhi)] at h; exact h
              subst hRn
              clear E4
              have t3 : decide (56320 ≤ (n : Int)) = true := decide_eq_true (by omega)
              have t4 : decide (56320 ≤ n) = true := decide_eq_true hhi
              go_wp2_with fail
              go_ret
              exact ⟨rfl, W3.out.1, W3.out.2⟩
            · have E5 : Hid (halP (Sums.bl S) n q3 = R) := Hid.mk' (by have h := E4.out; unfold numE at h; rw [if_neg (by omega)] at h; exact h)
              clear E4
              have t3 : decide (56320 ≤ (n : Int)) = false := decide_eq_false (by omega)
              have t4 : decide (56320 ≤ n) = false := decide_eq_false hhi
              have H4 := Hid.mk' (need_any g S q3 d 92 _ w3 W3.out.1 HS.out rfl)
              cases hr4 : rngO 92 92 ((Sums.bl S).drop q3)
              · rw [hr4] at H4
                have hRn : Rv.no 130 q3 = R := by have h := E5.out; unfold halP at h; rw [hr4] at h; exact h
                subst hRn
                go_wp2_with fail
                refine H4.out.mono ?_
                rintro e w4 ⟨rfl, hr, ho⟩
                exact ⟨rfl, rfl, W3.out.2.trans ho⟩
              · rw [hr4] at H4
                go_wp2_with fail
                refine H4.out.mono ?_
                rintro e w4 ⟨he, hr, ho⟩
                have he2 : e = .returned (.tuple #[]) := he
                subst he2
                have W4 : Hid (Rr g S (q3 + 1) d w4 ∧ Only g w w4) := Hid.mk' ⟨hr, W3.out.2.trans ho⟩
                clear hr ho he H4
                have H5 := Hid.mk' (need_any g S (q3 + 1) d 117 _ w4 W4.out.1 HS.out rfl)
                cases hr5 : rngO 117 117 ((Sums.bl S).drop (q3 + 1))
                · rw [hr5] at H5
                  have hRn : Rv.no 130 (q3 + 1) = R := by have h := E5.out; unfold halP at h; rw [hr4, hr5] at h; exact h
                  subst hRn
                  clear E5 hr4 hr5
                  go_wp2_with fail
                  refine H5.out.mono ?_
                  rintro e w5 ⟨rfl, hr, ho⟩
                  exact ⟨rfl, rfl, W4.out.2.trans ho⟩
                · rw [hr5] at H5
                  have E6 : Hid ((sixP 13 13 (Sums.bl S) (q3 + 2)).bind (fun a q => (sixP 12 15 (Sums.bl S) q).bind fun b z => (morP (Sums.bl S) 2 (a * 16 + b) z).bind fun m y => .ok (65536 + (n - 55296) * 1024 + (m - 56320)) y) = R) := Hid.mk' (by have h := E5.out; unfold halP at h; rw [hr4, hr5] at h; exact h)
                  clear E5 hr4 hr5
                  go_wp2_with fail
                  refine H5.out.mono ?_
                  rintro e w5 ⟨he, hr, ho⟩
                  have he2 : e = .returned (.tuple #[]) := he
                  subst he2
                  have W5 : Hid (Rr g S (q3 + 2) d w5 ∧ Only g w w5) := Hid.mk' ⟨hr, W4.out.2.trans ho⟩
                  clear hr ho he H5
                  have H6 := Hid.mk' (sixteenth_any g S (q3 + 2) d 13 13 w5 W5.out.1 HS.out (by omega) (by omega))
                  cases h6 : sixP 13 13 (Sums.bl S) (q3 + 2) with
                  | no c z =>
                    rw [h6] at H6
                    have hRn : Rv.no c z = R := by have h := E6.out; rw [h6] at h; exact h
                    subst hRn
                    clear h6 E6
                    go_wp2_with fail
                    refine H6.out.mono ?_
                    rintro e w6 ⟨rfl, ho⟩
                    exact ⟨rfl, rfl, W5.out.2.trans ho⟩
                  | ok a2 q6 =>
                    obtain ⟨ha0, ha1, _⟩ := sixP_ok h6
                    rw [h6] at H6
                    have b1 : IntKind.i32.wrap ((a2 : Int) * 16) = (a2 : Int) * 16 := by rw [IntKind.wrap_i32]; omega
                    have E7 : Hid ((sixP 12 15 (Sums.bl S) q6).bind (fun b z => (morP (Sums.bl S) 2 (a2 * 16 + b) z).bind fun m y => .ok (65536 + (n - 55296) * 1024 + (m - 56320)) y) = R) := Hid.mk' (by have h := E6.out; rw [h6] at h; exact h)
                    clear h6 E6
                    go_wp2_with fail
                    refine H6.out.mono ?_
                    rintro e w6 ⟨rfl, hr, ho⟩
                    have W6 : Hid (Rr g S q6 d w6 ∧ Only g w w6) := Hid.mk' ⟨hr, W5.out.2.trans ho⟩
                    clear hr ho H6
                    have H7 := Hid.mk' (sixteenth_any g S q6 d 12 15 w6 W6.out.1 HS.out (by omega) (by omega))
                    cases h7 : sixP 12 15 (Sums.bl S) q6 with
                    | no c z =>
                      rw [h7] at H7
                      have hRn : Rv.no c z = R := by have h := E7.out; rw [h7] at h; exact h
                      subst hRn
                      clear h7 E7
                      go_wp2_with fail
                      refine H7.out.mono ?_
                      rintro e w7 ⟨rfl, ho⟩
                      exact ⟨rfl, rfl, W6.out.2.trans ho⟩
                    | ok b2 q7 =>
                      obtain ⟨hb0, hb1, _⟩ := sixP_ok h7
                      rw [h7] at H7
                      have b3 := or_hex a2 b2 (by omega) (by omega)
                      have E8 : Hid ((morP (Sums.bl S) 2 (a2 * 16 + b2) q7).bind (fun m y => .ok (65536 + (n - 55296) * 1024 + (m - 56320)) y) = R) := Hid.mk' (by have h := E7.out; rw [h7] at h; exact h)
                      clear h7 E7
                      go_wp2_with fail
                      refine H7.out.mono ?_
                      rintro e w7 ⟨rfl, hr, ho⟩
                      have W7 : Hid (Rr g S q7 d w7 ∧ Only g w w7) := Hid.mk' ⟨hr, W6.out.2.trans ho⟩
                      clear hr ho H7
                      have H8 := Hid.mk' (twoMore_any g S q7 d (a2 * 16 + b2) w7 W7.out.1 HS.out (by omega))
                      cases h8 : morP (Sums.bl S) 2 (a2 * 16 + b2) q7 with
                      | no c z =>
                        rw [h8] at H8
                        have hRn : Rv.no c z = R := by have h := E8.out; rw [h8] at h; exact h
                        subst hRn
                        clear h8 E8
                        go_wp2_with fail
                        refine H8.out.mono ?_
                        rintro e w8 ⟨rfl, ho⟩
                        exact ⟨rfl, rfl, W7.out.2.trans ho⟩
                      | ok m q8 =>
                        have hm := morP_ok _ _ _ _ _ _ h8
                        rw [h8] at H8
                        have hm0 : 56320 ≤ m := by omega
                        have hm1 : m < 57344 := by omega
                        have hRn : Rv.ok (65536 + (n - 55296) * 1024 + (m - 56320)) q8 = R := by have h := E8.out; rw [h8] at h; exact h
                        subst hRn
                        clear h8 hm E8
                        go_wp2_with fail
                        refine H8.out.mono ?_
                        rintro e w8 ⟨rfl, hr, ho⟩
                        have W8 : Hid (Rr g S q8 d w8 ∧ Only g w w8) := Hid.mk' ⟨hr, W7.out.2.trans ho⟩
                        clear hr ho H8 b1 b3
                        have e1 : IntKind.i32.wrap ((n : Int) - 55296) = (n : Int) - 55296 := by rw [IntKind.wrap_i32]; omega
                        have e2 : IntKind.i32.wrap (((n : Int) - 55296) * 1024) = ((n : Int) - 55296) * 1024 := by rw [IntKind.wrap_i32]; omega
                        have e3 : IntKind.i32.wrap (65536 + ((n : Int) - 55296) * 1024) = 65536 + ((n : Int) - 55296) * 1024 := by rw [IntKind.wrap_i32]; omega
                        have e4 : IntKind.i32.wrap (65536 + ((n : Int) - 55296) * 1024 + (m : Int)) = 65536 + ((n : Int) - 55296) * 1024 + (m : Int) := by rw [IntKind.wrap_i32]; omega
                        have e5 : IntKind.i32.wrap (65536 + ((n : Int) - 55296) * 1024 + (m : Int) - 56320) = 65536 + ((n : Int) - 55296) * 1024 + (m : Int) - 56320 := by rw [IntKind.wrap_i32]; omega
                        have HE : Hid (65536 + ((n : Int) - 55296) * 1024 + (m : Int) - 56320 = ((65536 + (n - 55296) * 1024 + (m - 56320) : Nat) : Int)) := Hid.mk' (by omega)
                        go_wp2_with fail
                        go_ret
                        exact ⟨congrArg (fun x : Int => Ending.returned (.int .i32 x)) HE.out, W8.out.1, W8.out.2⟩
end Go.Proofs.YtkplbggefiemdaaGreatDoor

namespace Go.Proofs.YtkplbggefiemdaaGreatDoor
open Go.RowKit
set_option linter.unusedVariables false
set_option linter.unusedSimpArgs false
def sgnB : ByteArray := ⟨#[34, 92, 98, 116, 110, 102, 114]⟩
def mrkB : ByteArray := ⟨#[34, 92, 8, 9, 10, 12, 13]⟩
/-- the signs behind a stroke, and what they mean -/
def sgnL : List (Nat × Nat) := [(34, 34), (92, 92), (98, 8), (116, 9), (110, 10), (102, 12), (114, 13)]
def sgnP (L : List Nat) (p : Nat) : List (Nat × Nat) → Rv Nat
  | [] => if rngO 47 47 (L.drop p) = true then .ok 47 (p + 1) else if rngO 117 117 (L.drop p) = true then numP L (p + 1) else .no 130 p
  | x :: r => if rngO x.1 x.1 (L.drop p) = true then .ok x.2 (p + 1) else sgnP L p r
/-- what stands behind a stroke: the character that it means -/
def escP (L : List Nat) (p : Nat) : Rv Nat := sgnP L p sgnL
theorem sgn_at (i : Nat) (hi : i < 7) : ∃ s m, sgnL.drop i = (s, m) :: sgnL.drop (i + 1) ∧ m < 128 ∧ (∀ W, (Instr.index 9 (.string sgnB) (.int .i64 (i : Int))).run Tryz.prog W = .ok (.int .u8 (s : Int)) W) ∧ (∀ W, (Instr.index 9 (.string mrkB) (.int .i64 (i : Int))).run Tryz.prog W = .ok (.int .u8 (m : Int)) W) := by
  rcases (show i = 0 ∨ i = 1 ∨ i = 2 ∨ i = 3 ∨ i = 4 ∨ i = 5 ∨ i = 6 by omega) with rfl | rfl | rfl | rfl | rfl | rfl | rfl
  · exact ⟨34, 34, rfl, by decide, fun W => ob_idx sgnB 0 34 [92, 98, 116, 110, 102, 114] rfl W, fun W => ob_idx mrkB 0 34 [92, 8, 9, 10, 12, 13] rfl W⟩
  · exact ⟨92, 92, rfl, by decide, fun W => ob_idx sgnB 1 92 [98, 116, 110, 102, 114] rfl W, fun W => ob_idx mrkB 1 92 [8, 9, 10, 12, 13] rfl W⟩
  · exact ⟨98, 8, rfl, by decide, fun W => ob_idx sgnB 2 98 [116, 110, 102, 114] rfl W, fun W => ob_idx mrkB 2 8 [9, 10, 12, 13] rfl W⟩
  · exact ⟨116, 9, rfl, by decide, fun W => ob_idx sgnB 3 116 [110, 102, 114] rfl W, fun W => ob_idx mrkB 3 9 [10, 12, 13] rfl W⟩
  · exact ⟨110, 10, rfl, by decide, fun W => ob_idx sgnB 4 110 [102, 114] rfl W, fun W => ob_idx mrkB 4 10 [12, 13] rfl W⟩
  · exact ⟨102, 12, rfl, by decide, fun W => ob_idx sgnB 5 102 [114] rfl W, fun W => ob_idx mrkB 5 12 [13] rfl W⟩
  · exact ⟨114, 13, rfl, by decide, fun W => ob_idx sgnB 6 114 [] rfl W, fun W => ob_idx mrkB 6 13 [] rfl W⟩
set_option maxRecDepth 100000 in
set_option maxHeartbeats 8000000 in
theorem escaped_any (g : Nat) (S : ByteArray) (p d : Nat) (w : World) (h : Rr g S p d w) (hS : S.size ≤ 65536) :
    Calls Tryz.prog 157 #[.pointer (some ⟨g, 0, none⟩)] w ((escP (Sums.bl S) p).PostI g S d w) := by
  have HS := Hid.mk' hS
  have HR := Hid.mk' h
  obtain ⟨R, hR⟩ : ∃ R, escP (Sums.bl S) p = R := ⟨_, rfl⟩
  rw [hR]
  have E0 : Hid (sgnP (Sums.bl S) p (sgnL.drop 0) = R) := Hid.mk' hR
  clear h hS hR
  go_enter Tryz.func157, Tryz.ntmps157
  go_wp2_with fail
  go_loopw [3, 4] (fun nv iv wr => ∃ i : Nat, iv = .int .i64 (i : Int) ∧ i ≤ 7 ∧ Hid (sgnP (Sums.bl S) p (sgnL.drop i) = R) ∧ Hid (Rr g S p d wr ∧ Only g w wr)) (fun nv iv _ => 7 - (intOf iv).toNat)
  case atStart => exact ⟨0, rfl, by omega, E0, Hid.mk' ⟨HR.out, Only.refl _ _⟩⟩
  case round =>
    obtain ⟨i, rfl, hi, HE, HW⟩ := hrel
    rename World => wr
    clear E0 HR
    by_cases hi7 : i < 7
    · have hiI : (i : Int) < 7 := by omega
      obtain ⟨s, m, hdr, hm, x1, x2⟩ := sgn_at i hi7
      have HT := Hid.mk' (take_any g S p d s _ wr HW.out.1 HS.out rfl)
      have hst := HE.out
      rw [hdr, sgnP] at hst
      have a1 : IntKind.i32.wrap (m : Int) = (m : Int) := by rw [IntKind.wrap_i32]; omega
      unfold sgnB at x1
      unfold mrkB at x2
      cases hr : rngO s s ((Sums.bl S).drop p)
      · rw [hr] at HT hst
        have HE2 : Hid (sgnP (Sums.bl S) p (sgnL.drop (i + 1)) = R) := Hid.mk' hst
        clear hst hdr HE hr
        go_wp2_with fail
        refine HT.out.mono ?_
        rintro e w1 ⟨rfl, hr1, ho⟩
        have HW1 : Hid (Rr g S p d w1 ∧ Only g w w1) := Hid.mk' ⟨hr1, HW.out.2.trans ho⟩
        clear hr1 ho HW HT
        go_wp2_with fail
        go_roundw
        case rel => exact ⟨i + 1, by go_num, by omega, HE2, HW1⟩
        case measure => simp [intOf]; omega
      · rw [hr] at HT hst
        have hRn : Rv.ok m (p + 1) = R := hst
        subst hRn
        clear hst hdr HE hr
        go_wp2_with fail
        refine HT.out.mono ?_
        rintro e w1 ⟨rfl, hr1, ho⟩
        have HW1 : Hid (Rr g S (p + 1) d w1 ∧ Only g w w1) := Hid.mk' ⟨hr1, HW.out.2.trans ho⟩
        clear hr1 ho HW HT
        go_wp2_with fail
        go_ret
        exact ⟨rfl, HW1.out.1, HW1.out.2⟩
    · obtain rfl : i = 7 := by omega
      have hst : (if rngO 47 47 ((Sums.bl S).drop p) = true then Rv.ok 47 (p + 1) else if rngO 117 117 ((Sums.bl S).drop p) = true then numP (Sums.bl S) (p + 1) else .no 130 p) = R := HE.out
      have HT := Hid.mk' (take_any g S p d 47 _ wr HW.out.1 HS.out rfl)
      clear HE
      cases hr : rngO 47 47 ((Sums.bl S).drop p)
      · rw [hr, if_neg (by decide)] at hst
        rw [hr] at HT
        have HE2 := Hid.mk' hst
        clear hst hr
        go_wp2_with fail
        refine HT.out.mono ?_
        rintro e w1 ⟨rfl, hr1, ho⟩
        have HW1 : Hid (Rr g S p d w1 ∧ Only g w w1) := Hid.mk' ⟨hr1, HW.out.2.trans ho⟩
        clear hr1 ho HW HT
        have HN := Hid.mk' (need_any g S p d 117 _ w1 HW1.out.1 HS.out rfl)
        cases hr2 : rngO 117 117 ((Sums.bl S).drop p)
        · have hRn : Rv.no 130 p = R := by have h := HE2.out; rw [hr2] at h; exact h
          rw [hr2] at HN
          subst hRn
          clear HE2 hr2
          go_wp2_with fail
          refine HN.out.mono ?_
          rintro e w2 ⟨rfl, hr, ho⟩
          exact ⟨rfl, rfl, HW1.out.2.trans ho⟩
        · have hRn : numP (Sums.bl S) (p + 1) = R := by have h := HE2.out; rw [hr2] at h; exact h
          rw [hr2] at HN
          clear HE2 hr2
          go_wp2_with fail
          refine HN.out.mono ?_
          rintro e w2 ⟨he, hr, ho⟩
          have he2 : e = .returned (.tuple #[]) := he
          subst he2
          have HW2 : Hid (Rr g S (p + 1) d w2 ∧ Only g w w2) := Hid.mk' ⟨hr, HW1.out.2.trans ho⟩
          have HM := Hid.mk' (numbered_any g S (p + 1) d w2 HW2.out.1 HS.out)
          rw [hRn] at HM
          clear hr ho he HN HW1 hRn
          cases R with
          | no c z =>
            go_wp2_with fail
            refine HM.out.mono ?_
            rintro e w3 ⟨rfl, ho⟩
            exact ⟨rfl, rfl, HW2.out.2.trans ho⟩
          | ok n z =>
            go_wp2_with fail
            refine HM.out.mono ?_
            rintro e w3 ⟨rfl, hr, ho⟩
            have HW3 : Hid (Rr g S z d w3 ∧ Only g w w3) := Hid.mk' ⟨hr, HW2.out.2.trans ho⟩
            clear hr ho HM
            go_wp2_with fail
            go_ret
            exact ⟨rfl, HW3.out.1, HW3.out.2⟩
      · rw [hr, if_pos rfl] at hst
        rw [hr] at HT
        have hRn := hst
        subst hRn
        clear hst hr
        go_wp2_with fail
        refine HT.out.mono ?_
        rintro e w1 ⟨rfl, hr1, ho⟩
        have HW1 : Hid (Rr g S (p + 1) d w1 ∧ Only g w w1) := Hid.mk' ⟨hr1, HW.out.2.trans ho⟩
        clear hr1 ho HW HT
        go_wp2_with fail
        go_ret
        exact ⟨rfl, HW1.out.1, HW1.out.2⟩
end Go.Proofs.YtkplbggefiemdaaGreatDoor

namespace Go.Proofs.YtkplbggefiemdaaGreatDoor
open Go.RowKit
set_option linter.unusedVariables false
set_option linter.unusedSimpArgs false
def rowL : List (Nat × Nat × Nat × Nat × Nat) := [(194, 223, 128, 191, 0), (224, 224, 160, 191, 1), (225, 236, 128, 191, 1), (237, 237, 128, 159, 1), (238, 239, 128, 191, 1), (240, 240, 144, 191, 2), (241, 243, 128, 191, 2), (244, 244, 128, 143, 2)]
/-- so many bytes that come behind -/
def mulP (L : List Nat) : Nat → Nat → Rv Bool
  | 0, p => .ok true p
  | k + 1, p => if rngO 128 191 (L.drop p) = true then mulP L k (p + 1) else .no 130 p
def sevR (L : List Nat) (p : Nat) : List (Nat × Nat × Nat × Nat × Nat) → Rv Bool
  | [] => .ok false p
  | x :: r => if rngO x.1 x.2.1 (L.drop p) = true then (if rngO x.2.2.1 x.2.2.2.1 (L.drop (p + 1)) = true then mulP L x.2.2.2.2 (p + 2) else .no 130 (p + 1)) else sevR L p r
/-- a character of several bytes, if one begins here -/
def sevP (L : List Nat) (p : Nat) : Rv Bool := sevR L p rowL
def Rv.PostB (r : Rv Bool) (g : Nat) (S : ByteArray) (d : Nat) (w : World) (e : Ending) (w' : World) : Prop :=
  match r with
  | .ok b p => e = .returned (.bool b) ∧ Rr g S p d w' ∧ Only g w w'
  | .no c p => e = .panicked (flt c p) ∧ Only g w w'
theorem row_at (i : Nat) (h : i < 8) : ∃ a b c d m : Nat, rowL.drop i = (a, b, c, d, m) :: rowL.drop (i + 1) ∧ m ≤ 2 ∧ ∀ W, (Instr.index 180 (.agg rowsC) (.int .i64 (i : Int))).run Tryz.prog W = .ok (.agg #[.int .u8 (a : Int), .int .u8 (b : Int), .int .u8 (c : Int), .int .u8 (d : Int), .int .i64 (m : Int)]) W := by
  rcases (show i = 0 ∨ i = 1 ∨ i = 2 ∨ i = 3 ∨ i = 4 ∨ i = 5 ∨ i = 6 ∨ i = 7 by omega) with rfl | rfl | rfl | rfl | rfl | rfl | rfl | rfl
  · exact ⟨194, 223, 128, 191, 0, rfl, by decide, ri0⟩
  · exact ⟨224, 224, 160, 191, 1, rfl, by decide, ri1⟩
  · exact ⟨225, 236, 128, 191, 1, rfl, by decide, ri2⟩
  · exact ⟨237, 237, 128, 159, 1, rfl, by decide, ri3⟩
  · exact ⟨238, 239, 128, 191, 1, rfl, by decide, ri4⟩
  · exact ⟨240, 240, 144, 191, 2, rfl, by decide, ri5⟩
  · exact ⟨241, 243, 128, 191, 2, rfl, by decide, ri6⟩
  · exact ⟨244, 244, 128, 143, 2, rfl, by decide, ri7⟩
set_option maxRecDepth 100000 in
set_option maxHeartbeats 8000000 in
theorem several_any (g : Nat) (S : ByteArray) (p d : Nat) (w : World) (h : Rr g S p d w) (hS : S.size ≤ 65536) (hg : g ≠ 6) (ht : RwT w) :
    Calls Tryz.prog 155 #[.pointer (some ⟨g, 0, none⟩)] w ((sevP (Sums.bl S) p).PostB g S d w) := by
  have HS := Hid.mk' hS
  have HR := Hid.mk' h
  obtain ⟨t, f, hrow⟩ := ht.ex
  have HM := Hid.mk' hrow
  obtain ⟨R, hR⟩ : ∃ R, sevP (Sums.bl S) p = R := ⟨_, rfl⟩
  rw [hR]
  have E0 : Hid (sevR (Sums.bl S) p (rowL.drop 0) = R) := Hid.mk' hR
  clear h hS ht hrow hR
  go_enter Tryz.func155, Tryz.ntmps155
  go_wp2_with (first | (refine wpList_load_row rfl 180 _ rfl 6 rfl _ rowsC _ _ HM.out Tryz.underlying180 rfl (by kernel_rfl) ?_) | fail)
  go_loopw [6] (fun iv wr => ∃ i : Nat, iv = .int .i64 ((i : Nat) : Int) ∧ i ≤ 8 ∧ Hid (sevR (Sums.bl S) p (rowL.drop i) = R) ∧ Hid (Rr g S p d wr ∧ Only g w wr)) (fun iv _ => 8 - (intOf iv).toNat)
  case atStart => exact ⟨0, rfl, by omega, E0, ⟨HR.out, Only.refl _ _⟩⟩
  case round =>
    obtain ⟨i, rfl, hi, HE, H⟩ := hrel
    rename World => wr
    clear E0
    by_cases hi8 : i < 8
    · have hiI : (i : Int) < 8 := by omega
      obtain ⟨a, b, c, dd, m, hdr, hm2, hidx⟩ := row_at i hi8
      have hst := HE.out
      rw [hdr, sevR] at hst
      dsimp only at hst
      have HA : Hid (∀ o : Obj, Rr g S p d (wr.alloc o) ∧ Only g w (wr.alloc o)) := Hid.mk' (fun o => ⟨H.out.1.below ((Below.refl wr.heap.size wr).alloc (Nat.le_refl _) _) H.out.1.lt, H.out.2.alloc o⟩)
      have HNW : Hid (∀ o : Obj, (wr.alloc o).heap[wr.heap.size]? = some o ∧ wr.heap.size < (wr.alloc o).heap.size) := Hid.mk' (fun o => ⟨heap_alloc_new wr o, by rw [World.size_alloc]; omega⟩)
      have HGL : Hid (g < wr.heap.size) := Hid.mk' H.out.1.lt
      have HC := Hid.mk' (fun w h => takeOf_any g S p d a b _ w h HS.out rfl)
      cases hr : rngO a b ((Sums.bl S).drop p)
      · rw [hr, if_neg (by decide)] at hst
        rw [hr] at HC
        have HE2 := Hid.mk' hst
        clear hst hdr HE hr HR HM HNW HGL
        go_wp2_with fail
        refine (HC.out _ (HA.out _).1).mono ?_
        rintro e w2 ⟨rfl, hr1, ho1⟩
        have H2 : Hid (Rr g S p d w2 ∧ Only g w w2) := ⟨hr1, (HA.out _).2.trans ho1⟩
        clear hr1 ho1 HC HA
        go_wp2_with fail
        go_roundw
        case rel => exact ⟨i + 1, by simp, by omega, HE2, H2⟩
        case measure => simp [intOf]; omega
      · rw [hr, if_pos rfl] at hst
        rw [hr] at HC
        have HE2 := Hid.mk' hst
        clear hst hdr HE hr HR HM
        go_wp2_with fail
        obtain ⟨b0, hb0⟩ : ∃ b0, wr.heap.size = b0 := ⟨_, rfl⟩
        refine (HC.out _ (HA.out _).1).mono ?_
        rintro e w2 ⟨rfl, hr1, ho1⟩
        have hnew := (ho1.block _ (HNW.out _).2 (by have := HGL.out; omega)).trans (HNW.out _).1
        have H2 : Hid (Rr g S (p + 1) d w2 ∧ Only g w w2) := ⟨hr1, (HA.out _).2.trans ho1⟩
        rw [hb0] at hnew ⊢
        have HGB : Hid (g < b0) := Hid.mk' (by rw [← hb0]; exact HGL.out)
        have HNB := Hid.mk' hnew
        have c2 : w2.cell? ⟨b0, 2, none⟩ = some (.int .u8 (c : Int)) := by simp [World.cell?, hnew]
        have c3 : w2.cell? ⟨b0, 3, none⟩ = some (.int .u8 (dd : Int)) := by simp [World.cell?, hnew]
        clear hr1 ho1 HC HA hnew HNW HGL hb0
        have HN := Hid.mk' (needOf_any g S (p + 1) d c dd _ w2 H2.out.1 HS.out rfl)
        cases hr2 : rngO c dd ((Sums.bl S).drop (p + 1))
        · rw [hr2] at HN
          have hRn : Rv.no 130 (p + 1) = R := by have h := HE2.out; rw [hr2] at h; exact h
          subst hRn
          clear HE2 hr2
          go_wp2_with fail
          refine HN.out.mono ?_
          rintro e w3 ⟨rfl, hr, ho⟩
          exact ⟨rfl, rfl, H2.out.2.trans ho⟩
        · rw [hr2] at HN
          have HE3 : Hid (mulP (Sums.bl S) m (p + 2) = R) := Hid.mk' (by have h := HE2.out; rw [hr2] at h; exact h)
          clear HE2 hr2
          go_wp2_with fail
          refine HN.out.mono ?_
          rintro e w3 ⟨he, hr, ho⟩
          have he2 : e = .returned (.tuple #[]) := he
          subst he2
          have H3 : Hid (Rr g S (p + 2) d w3 ∧ Only g w w3) := ⟨hr, H2.out.2.trans ho⟩
          have hnew := (ho.block b0 (Array.getElem?_eq_some_iff.1 HNB.out).1 (by have := HGB.out; omega)).trans HNB.out
          have c4 : w3.cell? ⟨b0, 4, none⟩ = some (.int .i64 (m : Int)) := by simp [World.cell?, hnew]
          have hmI : (m : Int) ≤ 2 := by omega
          clear hr ho he HN c2 c3 hnew HNB HGB H2
          go_wp2_with fail
          go_loopw [23] (fun jv wx => ∃ k q : Nat, jv = .int .i64 (k : Int) ∧ k ≤ m ∧ Hid (mulP (Sums.bl S) (m - k) q = R) ∧ Hid (Rr g S q d wx ∧ Only g w wx)) (fun jv _ => m - (intOf jv).toNat)
          case atStart => exact ⟨0, p + 2, rfl, by omega, HE3, H3⟩
          case round =>
            obtain ⟨k, q, rfl, hk, HQ, HW⟩ := hrel
            rename World => wx
            clear HE3 H3 c4
            by_cases hkm : k < m
            · have hkI : (k : Int) < (m : Int) := by omega
              have hq := HQ.out
              rw [show m - k = (m - (k + 1)) + 1 by omega, mulP] at hq
              have HN := Hid.mk' (needOf_any g S q d 128 191 _ wx HW.out.1 HS.out rfl)
              cases hr3 : rngO 128 191 ((Sums.bl S).drop q)
              · rw [hr3] at HN hq
                have hRn : Rv.no 130 q = R := hq
                subst hRn
                clear hq HQ hr3
                go_wp2_with fail
                refine HN.out.mono ?_
                rintro e w4 ⟨rfl, hr, ho⟩
                exact ⟨rfl, rfl, HW.out.2.trans ho⟩
              · rw [hr3] at HN hq
                have HQ2 : Hid (mulP (Sums.bl S) (m - (k + 1)) (q + 1) = R) := Hid.mk' hq
                clear hq HQ hr3
                go_wp2_with fail
                refine HN.out.mono ?_
                rintro e w4 ⟨he, hr, ho⟩
                have he2 : e = .returned (.tuple #[]) := he
                subst he2
                have HW4 : Hid (Rr g S (q + 1) d w4 ∧ Only g w w4) := ⟨hr, HW.out.2.trans ho⟩
                clear hr ho he HN HW
                go_wp2_with fail
                go_roundw
                case rel => exact ⟨k + 1, q + 1, by go_num, by omega, HQ2, HW4⟩
                case measure => simp [intOf]; omega
            · obtain rfl : k = m := by omega
              have hq := HQ.out
              rw [Nat.sub_self, mulP] at hq
              subst hq
              clear HQ
              go_wp2_with fail
              go_ret
              exact ⟨rfl, HW.out.1, HW.out.2⟩
    · obtain rfl : i = 8 := by omega
      have hst : Rv.ok false p = R := HE.out
      subst hst
      clear HE
      go_wp2_with fail
      go_ret
      exact ⟨rfl, H.out⟩
end Go.Proofs.YtkplbggefiemdaaGreatDoor

namespace Go.Proofs.YtkplbggefiemdaaGreatDoor
open Go.RowKit
set_option linter.unusedVariables false
set_option linter.unusedSimpArgs false
/-- a character's bytes -/
def encU (n : Nat) : List Nat := (Lib.encodeRuneZ (n : Int)).map Int.toNat
theorem encU_byt (n : Nat) : ∀ x ∈ encU n, x < 256 := fun x hx => by
  unfold encU at hx
  obtain ⟨y, hy, rfl⟩ := List.mem_map.1 hx
  have := Lib.encodeRuneZ_byte n y hy
  omega
theorem encU_cells (n : Nat) : Lib.runeCells (n : Int) = byv (encU n) := by
  unfold Lib.runeCells byv encU
  rw [List.map_map]
  refine List.map_congr_left fun y hy => ?_
  have := Lib.encodeRuneZ_byte n y hy
  have e : ((Int.toNat y : Nat) : Int) = y := by omega
  simp [e]
theorem encU_len (n : Nat) : 1 ≤ (encU n).length ∧ (encU n).length ≤ 4 := by
  unfold encU
  rw [List.length_map]
  exact Lib.encodeRuneZ_length n
theorem encU_one (n : Nat) (h : n < 128) : encU n = [n] := by
  unfold encU
  rw [Lib.encodeRuneZ_one (by omega) (by omega)]
  rfl
theorem mulP_ok (L : List Nat) : ∀ (k p : Nat) (b : Bool) (q : Nat), mulP L k p = .ok b q → b = true ∧ q = p + k
  | 0, p, b, q, h => by rw [mulP] at h; injection h with h1 h2; exact ⟨h1.symm, by omega⟩
  | k + 1, p, b, q, h => by
    rw [mulP] at h
    split at h
    · have := mulP_ok L k (p + 1) b q h; exact ⟨this.1, by omega⟩
    · cases h
theorem sevR_ok (L : List Nat) (p : Nat) : ∀ (rs : List (Nat × Nat × Nat × Nat × Nat)) (b : Bool) (q : Nat), sevR L p rs = .ok b q → (b = false ∧ q = p) ∨ (b = true ∧ p + 2 ≤ q)
  | [], b, q, h => by rw [sevR] at h; injection h with h1 h2; exact .inl ⟨h1.symm, h2.symm⟩
  | x :: r, b, q, h => by
    rw [sevR] at h
    split at h
    · split at h
      · have := mulP_ok L _ _ b q h; exact .inr ⟨this.1, by omega⟩
      · cases h
    · exact sevR_ok L p r b q h
/-- how far characters that mean themselves stand -/
def runP (L : List Nat) : Nat → Nat → Rv Bool
  | 0, p => .no 0 0
  | n + 1, p => if sgl (L.drop p) = true then runP L n (p + 1) else (sevP L p).bind fun b q => if b = true then runP L n q else .ok true q
theorem runP_ok (L : List Nat) : ∀ (n p : Nat) (b : Bool) (q : Nat), runP L n p = .ok b q → p ≤ q
  | 0, p, b, q, h => by rw [runP] at h; cases h
  | n + 1, p, b, q, h => by
    rw [runP] at h
    split at h
    · have := runP_ok L n _ b q h; omega
    · cases hs : sevP L p with
      | no c z => rw [hs] at h; cases h
      | ok b2 z =>
        rw [hs] at h
        have h2 : (if b2 = true then runP L n z else .ok true z) = .ok b q := h
        rcases sevR_ok L p _ _ _ hs with ⟨rfl, rfl⟩ | ⟨rfl, hz⟩
        · rw [if_neg (by decide)] at h2
          injection h2 with h3 h4
          omega
        · rw [if_pos rfl] at h2
          have := runP_ok L n _ b q h2
          omega
/-- what stands between the marks, and what is meant so far -/
def qbP (L : List Nat) : Nat → List Nat → Nat → Rv (List Nat)
  | 0, m, p => .no 0 0
  | n + 1, m, p => (runP L (L.length + 1) p).bind fun _ q => if rngO 34 34 (L.drop q) = true then .ok (m ++ (L.drop p).take (q - p)) (q + 1) else if rngO 92 92 (L.drop q) = true then (escP L (q + 1)).bind fun r z => qbP L n (m ++ (L.drop p).take (q - p) ++ encU r) z else .no 130 q
/-- a quoted text -/
def qtP (L : List Nat) (p : Nat) : Rv (List Nat) := if rngO 34 34 (L.drop p) = true then qbP L (L.length + 1) [] (p + 1) else .no 130 p
def pqG (S : ByteArray) (a : Nat) : Rv ByteArray := (qtP (Sums.bl S) a).bind fun m z => .ok (nums m) z
theorem halP_ok {L : List Nat} {n p m q : Nat} (h : halP L n p = .ok m q) (hn : 55296 ≤ n ∧ n < 56320) : 65536 ≤ m ∧ m ≤ 1114111 ∧ p + 6 ≤ q := by
  unfold halP at h
  split at h
  · split at h
    · cases h1 : sixP 13 13 L (p + 2) with
      | no c z => rw [h1] at h; cases h
      | ok a z =>
        rw [h1] at h
        obtain ⟨a0, a1, a2⟩ := sixP_ok h1
        have h' : ((sixP 12 15 L z).bind fun b z => (morP L 2 (a * 16 + b) z).bind fun m y => .ok (65536 + (n - 55296) * 1024 + (m - 56320)) y) = .ok m q := h
        cases h2 : sixP 12 15 L z with
        | no c y => rw [h2] at h'; cases h'
        | ok b y =>
          rw [h2] at h'
          obtain ⟨b0, b1, b2⟩ := sixP_ok h2
          have h'' : ((morP L 2 (a * 16 + b) y).bind fun m y => .ok (65536 + (n - 55296) * 1024 + (m - 56320)) y) = .ok m q := h'
          cases h3 : morP L 2 (a * 16 + b) y with
          | no c x => rw [h3] at h''; cases h''
          | ok k x =>
            rw [h3] at h''
            have h4 := morP_ok _ _ _ _ _ _ h3
            injection h'' with e1 e2
            omega
    · cases h
  · cases h
theorem numP_ok {L : List Nat} {p n q : Nat} (h : numP L p = .ok n q) : n ≤ 1114111 ∧ (n < 55296 ∨ 57343 < n) ∧ p + 4 ≤ q := by
  unfold numP at h
  cases h1 : sixP 0 15 L p with
  | no c z => rw [h1] at h; cases h
  | ok a z =>
    rw [h1] at h
    obtain ⟨a0, a1, a2⟩ := sixP_ok h1
    have h' : ((sixP 0 (if a = 13 then 11 else 15) L z).bind fun b z => (morP L 2 (a * 16 + b) z).bind (numE L)) = .ok n q := h
    cases h2 : sixP 0 (if a = 13 then 11 else 15) L z with
    | no c y => rw [h2] at h'; cases h'
    | ok b y =>
      rw [h2] at h'
      obtain ⟨b0, b1, b2⟩ := sixP_ok h2
      have h'' : (morP L 2 (a * 16 + b) y).bind (numE L) = .ok n q := h'
      cases h3 : morP L 2 (a * 16 + b) y with
      | no c x => rw [h3] at h''; cases h''
      | ok k x =>
        rw [h3] at h''
        have h4 := morP_ok _ _ _ _ _ _ h3
        have h5 : numE L k x = .ok n q := h''
        unfold numE at h5
        have hk : k < 56320 ∨ 57343 < k := by
          by_cases h13 : a = 13
          · rw [if_pos h13] at b1; omega
          · rw [if_neg h13] at b1; omega
        split at h5
        · injection h5 with e1 e2
          rename_i hh
          subst e1 e2
          have hb : b ≤ 15 := by split at b1 <;> omega
          refine ⟨by omega, ?_, by omega⟩
          rcases hh with hh | hh
          · exact .inl hh
          · right; omega
        · have h6 := halP_ok h5 (by omega)
          omega
theorem sgnP_ok {L : List Nat} {p n q : Nat} : ∀ (l : List (Nat × Nat)), (∀ x ∈ l, x.2 < 128) → sgnP L p l = .ok n q → (n < 128 ∧ q = p + 1) ∨ (n ≤ 1114111 ∧ (n < 55296 ∨ 57343 < n) ∧ p + 5 ≤ q)
  | [], _, h => by
    rw [sgnP] at h
    split at h
    · injection h with e1 e2; omega
    · split at h
      · have := numP_ok h; omega
      · cases h
  | x :: r, hl, h => by
    rw [sgnP] at h
    split at h
    · injection h with e1 e2
      have := hl x (by simp)
      omega
    · exact sgnP_ok r (fun y hy => hl y (List.mem_cons_of_mem _ hy)) h
theorem escP_ok {L : List Nat} {p n q : Nat} (h : escP L p = .ok n q) : p < q ∧ n ≤ 1114111 ∧ (n < 55296 ∨ 57343 < n) ∧ (encU n).length ≤ q - p := by
  rcases sgnP_ok sgnL (by decide) h with ⟨h1, h2⟩ | ⟨h1, h2, h3⟩
  · rw [encU_one n h1]
    simp
    omega
  · have := encU_len n
    omega
theorem qbP_ok (L : List Nat) : ∀ (n : Nat) (m : List Nat) (p : Nat) (t : List Nat) (q : Nat), (∀ x ∈ L, x < 256) → (∀ x ∈ m, x < 256) → m.length ≤ p → qbP L n m p = .ok t q → p < q ∧ t.length ≤ q ∧ q ≤ L.length ∧ ∀ x ∈ t, x < 256
  | 0, m, p, t, q, _, _, _, h => by rw [qbP] at h; cases h
  | n + 1, m, p, t, q, hL, hm, hp, h => by
    rw [qbP] at h
    cases hr : runP L (L.length + 1) p with
    | no c z => rw [hr] at h; cases h
    | ok b z =>
      rw [hr] at h
      have hz := runP_ok L _ _ _ _ hr
      have h' : (if rngO 34 34 (L.drop z) = true then Rv.ok (m ++ (L.drop p).take (z - p)) (z + 1) else if rngO 92 92 (L.drop z) = true then (escP L (z + 1)).bind fun r y => qbP L n (m ++ (L.drop p).take (z - p) ++ encU r) y else .no 130 z) = .ok t q := h
      have hb2 : ∀ x ∈ m ++ (L.drop p).take (z - p), x < 256 := fun x hx => by
        rcases List.mem_append.1 hx with e | e
        · exact hm x e
        · exact hL x (List.mem_of_mem_drop (List.mem_of_mem_take e))
      have hl2 : (m ++ (L.drop p).take (z - p)).length ≤ z := by rw [List.length_append, List.length_take]; omega
      split at h'
      · injection h' with e1 e2
        rename_i h34
        have hzl : z < L.length := by
          rcases Nat.lt_or_ge z L.length with q | q
          · exact q
          · rw [List.drop_eq_nil_of_le q] at h34; cases h34
        subst e1 e2
        exact ⟨by omega, by omega, by omega, hb2⟩
      · split at h'
        · rename_i h92
          cases he : escP L (z + 1) with
          | no c y => rw [he] at h'; cases h'
          | ok r y =>
            rw [he] at h'
            obtain ⟨e1, e2, e3, e4⟩ := escP_ok he
            have h2 : qbP L n (m ++ (L.drop p).take (z - p) ++ encU r) y = .ok t q := h'
            have := qbP_ok L n _ y t q hL (fun x hx => by
              rcases List.mem_append.1 hx with e | e
              · exact hb2 x e
              · exact encU_byt r x e) (by rw [List.length_append]; omega) h2
            exact ⟨by omega, this.2⟩
        · cases h'
theorem pqG_lt {S : ByteArray} (hS : S.size ≤ 65536) (a : Nat) (t : ByteArray) (b : Nat) (h : pqG S a = .ok t b) : a < b ∧ t.size ≤ 65536 := by
  unfold pqG qtP at h
  split at h
  · cases hq : qbP (Sums.bl S) ((Sums.bl S).length + 1) [] (a + 1) with
    | no c z => rw [hq] at h; cases h
    | ok m z =>
      rw [hq] at h
      have := qbP_ok _ _ _ _ _ _ (Sums.bl_byt S) (fun x hx => by cases hx) (by simp) hq
      injection h with e1 e2
      subst e1 e2
      rw [nums_size]
      rw [Sums.bl_length] at this
      omega
  · cases h
end Go.Proofs.YtkplbggefiemdaaGreatDoor

namespace Go.Proofs.YtkplbggefiemdaaGreatDoor
open Go.RowKit
set_option linter.unusedVariables false
set_option linter.unusedSimpArgs false
theorem Only.grown {g B : Nat} {w w1 w2 : World} {row : Option Nat} (h : Only g w w1) (hg : w1.grownBy w2 row) (hr : ∀ k, row = some k → w.heap.size ≤ k) : Only g w w2 := by
  refine ⟨hg.os.trans h.os, hg.tape.trans h.tape, hg.output.trans h.output, Nat.le_trans h.size hg.size, fun k hk hne => ?_⟩
  exact (hg.block k (by have := h.size; omega) (fun e => by have := hr k e.symm; omega)).trans (h.block k hk hne)
set_option maxRecDepth 100000 in
set_option maxHeartbeats 8000000 in
theorem quoted_any (g : Nat) (S : ByteArray) (p d : Nat) (w : World) (h : Rr g S p d w) (hS : S.size ≤ 65536) (hg : g ≠ 6) (ht : RwT w) :
    Calls Tryz.prog 128 #[.pointer (some ⟨g, 0, none⟩)] w ((pqG S p).PostT g S d w) := by
  have HS := Hid.mk' hS
  have HT := Hid.mk' (need_any g S p d 34 _ w h hS rfl)
  have HG := Hid.mk' hg
  have HW := Hid.mk' ht
  have HGL := Hid.mk' h.lt
  have HPL := Hid.mk' h.le
  obtain ⟨N, hN⟩ : ∃ N, w.heap.size = N := ⟨_, rfl⟩
  have HNN := Hid.mk' hN
  obtain ⟨R, hR⟩ : ∃ R, pqG S p = R := ⟨_, rfl⟩
  rw [hR]
  unfold pqG qtP at hR
  have hSl : (Sums.bl S).length = S.size := Sums.bl_length S
  have HSL := Hid.mk' hSl
  clear h hS hg ht hN hSl
  cases h34 : rngO 34 34 ((Sums.bl S).drop p)
  · rw [h34, if_neg (by decide)] at hR
    rw [h34] at HT
    have hRn : Rv.no 130 p = R := hR
    subst hRn
    clear hR h34
    go_enter Tryz.func128, Tryz.ntmps128
    go_wp2_with fail
    refine HT.out.mono ?_
    rintro e w1 ⟨rfl, hr, ho⟩
    exact ⟨rfl, rfl, ho⟩
  · rw [h34, if_pos rfl] at hR
    rw [h34] at HT
    have E0 : Hid ((qbP (Sums.bl S) ((Sums.bl S).length + 1) [] (p + 1)).bind (fun m z => .ok (nums m) z) = R) := Hid.mk' hR
    clear hR h34
    go_enter Tryz.func128, Tryz.ntmps128
    go_wp2_with fail
    refine HT.out.mono ?_
    rintro e w1 ⟨he, hr1, ho1⟩
    have he2 : e = .returned (.tuple #[]) := he
    subst he2
    have H1 : Hid (Rr g S (p + 1) d w1 ∧ Only g w w1) := Hid.mk' ⟨hr1, ho1⟩
    clear hr1 ho1 HT he
    go_wp2_with fail
    go_loopg [3] ((Sums.bl S).length + 1) (fun k mv wr => ∃ (m : List Nat) (q : Nat), Hid ((qbP (Sums.bl S) k m q).bind (fun m z => .ok (nums m) z) = R) ∧ Hid (S.size < k + q) ∧ Hid (m.length ≤ q) ∧ Hid (wr.ownsRow N 5 1 mv m.length (byv m)) ∧ Hid (Rr g S q d wr ∧ Only g w wr))
    case atStart => exact ⟨[], p + 1, E0, Hid.mk' (by have := HSL.out; omega), Hid.mk' (by simp), Hid.mk' ⟨rfl, .inl ⟨rfl, rfl⟩⟩, H1⟩
    case round =>
      obtain ⟨m, q, HE, HK, HML, HO, H2⟩ := hrel
      clear H1 E0
      rename World => wo
      have hqS := H2.out.1.le
      obtain ⟨n, rfl⟩ : ∃ n, gk = n + 1 := ⟨gk - 1, by have := HK.out; omega⟩
      have HK2 : Hid (S.size < n + 1 + q) := HK
      have hE := HE.out
      rw [qbP] at hE
      obtain ⟨RR, hRR⟩ : ∃ RR, runP (Sums.bl S) ((Sums.bl S).length + 1) q = RR := ⟨_, rfl⟩
      rw [hRR] at hE
      have HE2 := Hid.mk' hE
      have HRR := Hid.mk' hRR
      have HQS := Hid.mk' hqS
      clear hE hRR HE HK hqS
      obtain ⟨c0, c1, c2, f1, f2⟩ := H2.out.1.cells
      go_wp2_with fail
      clear c0 c1 c2 f1 f2
      go_loopg [] ((Sums.bl S).length + 1) (fun k wr => ∃ z, Hid (runP (Sums.bl S) k z = RR) ∧ Hid (S.size < k + z) ∧ Hid (q ≤ z) ∧ Hid (Rr g S z d wr ∧ Only g wo wr))
      case atStart => exact ⟨q, HRR, Hid.mk' (by have := HSL.out; omega), Hid.mk' (Nat.le_refl _), Hid.mk' ⟨H2.out.1, Only.refl _ _⟩⟩
      case round =>
        obtain ⟨z, HR1, HKK, HQZ, H3⟩ := hrel
        rename World => wi
        clear HRR
        obtain ⟨k2, rfl⟩ : ∃ k2, gk = k2 + 1 := ⟨gk - 1, by have := HKK.out; have := H3.out.1.le; omega⟩
        have hr := HR1.out
        rw [runP] at hr
        cases hs : sgl ((Sums.bl S).drop z)
        · rw [hs, if_neg (by decide)] at hr
          have HR2 := Hid.mk' hr
          have HSG := Hid.mk' hs
          clear hr hs HR1
          go_wp2_with fail
          refine (single_any g S z d false _ H3.out.1 HS.out HSG.out).mono ?_
          rintro e w2 ⟨rfl, hr1, ho1⟩
          have H4 : Hid (Rr g S z d w2 ∧ Only g wo w2) := Hid.mk' ⟨hr1, H3.out.2.trans ho1⟩
          clear hr1 ho1 H3
          have HV := Hid.mk' (several_any g S z d w2 H4.out.1 HS.out HG.out (HW.out.only (H2.out.2.trans H4.out.2) HG.out))
          cases hsv : sevP (Sums.bl S) z with
          | no c y =>
            rw [hsv] at HV
            have hRn : Rv.no c y = RR := by have h := HR2.out; rw [hsv] at h; exact h
            subst hRn
            have hRn : Rv.no c y = R := HE2.out
            subst hRn
            clear HR2 hsv HE2
            go_wp2_with fail
            refine HV.out.mono ?_
            rintro e w3 ⟨rfl, ho⟩
            exact ⟨rfl, rfl, (H2.out.2.trans H4.out.2).trans ho⟩
          | ok b y =>
            have hy := sevR_ok _ _ _ _ _ hsv
            rw [hsv] at HV
            have HR3 : Hid ((if b = true then runP (Sums.bl S) k2 y else .ok true y) = RR) := Hid.mk' (by have h := HR2.out; rw [hsv] at h; exact h)
            have HY := Hid.mk' hy
            clear HR2 hsv hy
            cases b
            · have hyz : y = z := by rcases HY.out with e | e
                                     · exact e.2
                                     · cases e.1
              subst hyz
              have hRn : Rv.ok true y = RR := HR3.out
              subst hRn
              have HE3 : Hid ((if rngO 34 34 ((Sums.bl S).drop y) = true then Rv.ok (m ++ ((Sums.bl S).drop q).take (y - q)) (y + 1) else if rngO 92 92 ((Sums.bl S).drop y) = true then (escP (Sums.bl S) (y + 1)).bind fun r z => qbP (Sums.bl S) n (m ++ ((Sums.bl S).drop q).take (y - q) ++ encU r) z else .no 130 y).bind (fun m z => .ok (nums m) z) = R) := HE2
              clear HR3 HY HE2 HKK HSG
              go_wp2_with fail
              refine HV.out.mono ?_
              rintro e w3 ⟨rfl, hr1, ho1⟩
              have H5 : Hid (Rr g S y d w3 ∧ Only g wo w3) := Hid.mk' ⟨hr1, H4.out.2.trans ho1⟩
              clear hr1 ho1 H4 HV
              go_wp2_with fail
              have hyS := H5.out.1.le
              have hqy := HQZ.out
              obtain ⟨c0, c1, c2, f1, f2⟩ := H5.out.1.cells
              obtain ⟨t, htx⟩ : ∃ t, S.extract q y = t := ⟨_, rfl⟩
              have HTB : Hid (Sums.bl t = ((Sums.bl S).drop q).take (y - q)) := Hid.mk' (by
                rw [← htx]
                unfold Sums.bl
                rw [ByteArray.data_extract]
                simp [List.take_drop, List.map_drop, List.map_take]
                try omega)
              have hsl : ∀ W, (Instr.slice 9 (.string S) (some (.int .i64 (q : Int))) (some (.int .i64 (y : Int))) none).run Tryz.prog W = .ok (.string t) W := fun W => by rw [← htx]; exact ob_slice S q y W hqy hyS
              have hts : t.size = y - q := by rw [← htx, ByteArray.size_extract]; omega
              have hts2 : t.size ≤ 65536 := by have := HS.out; omega
              have HTS := Hid.mk' hts
              have hqyI : (q : Int) ≤ (y : Int) := by omega
              have hySI : (y : Int) ≤ (S.size : Int) := by omega
              have HLT3 : Hid (g < w3.heap.size) := Hid.mk' H5.out.1.lt
              have HNE : Hid (∀ k, u3.ownBlock = some k → g ≠ k) := Hid.mk' (fun k e hk => by have h1 := (HO.out.lt k e).1; have h2 := HGL.out; have h3 := HNN.out; omega)
              have HNG : Hid (u3.ownBlock ≠ some g) := Hid.mk' (fun e => HNE.out g e rfl)
              have HNG2 : Hid (some g ≠ u3.ownBlock) := Hid.mk' (fun e => HNG.out e.symm)
              have HO3 : Hid (w3.drew.ownsRow N 5 1 u3 m.length (byv m)) := Hid.mk' (own_keptO HO.out (fun k hk => H5.out.2.block k (HO.out.lt k hk).2 (fun e => HNE.out k hk e.symm)))
              have HNB : Hid (N ≤ w3.drew.heap.size) := Hid.mk' (by have h1 := H5.out.2.size; have h2 := H2.out.2.size; have h3 := HNN.out; show N ≤ w3.heap.size; omega)
              have HMB : Hid (m.length ≤ 65536) := Hid.mk' (by have := HML.out; have := HQS.out; have := HS.out; omega)
              obtain ⟨i0, hi, hz0, hz1, hz2⟩ : ∃ i, Tryz.prog.info? 5 = some i ∧ i.zero = some (.int .u8 0) ∧ i.size = 1 ∧ i.bytes = 1 := ⟨_, rfl, rfl, rfl, rfl⟩
              clear htx hts hqy
              go_region_held3 (fun w' => w'.cell? ⟨g, 0, none⟩ = some (.string S) ∧ w'.cell? ⟨g, 1, none⟩ = some (.int .i64 (y : Int))) (first | go_keep | exact ⟨k0, k1⟩)
                ((refine step_append_str (by rfl) _ _ _ _ (by rfl) N 5 i0 Tryz.underlying101 Tryz.underlying9 hi hz0 hz1 hz2 u3 m.length (byv m) (by rfl) (by exact HO3.out) t (by rfl) (by unfold maxLen; have := HMB.out; omega) (by have := HMB.out; omega) (by exact HNB.out) ?_; intro v5 w5 hown5 hgrow5; have k0 : w5.cell? ⟨g, 0, none⟩ = some (.string S) := (hgrow5.cell_far ⟨g, 0, none⟩ (by exact HLT3.out) (by first | exact HNG.out | exact HNG2.out)).trans c0; have k1 : w5.cell? ⟨g, 1, none⟩ = some (.int .i64 (y : Int)) := (hgrow5.cell_far ⟨g, 1, none⟩ (by exact HLT3.out) (by first | exact HNG.out | exact HNG2.out)).trans c1; have HO5 := Hid.mk' hown5; have HG5 := Hid.mk' hgrow5; clear hown5 hgrow5))
              have H6 : Hid (Rr g S y d w5 ∧ Only g w w5) := Hid.mk' (by
                have hbl := HG5.out.block g HLT3.out (by first | exact HNG.out | exact HNG2.out)
                refine ⟨⟨hbl.trans H5.out.1.row, H5.out.1.le⟩, ?_⟩
                have hod : Only g w w3.drew := ⟨(H2.out.2.trans H5.out.2).os, (H2.out.2.trans H5.out.2).tape, (H2.out.2.trans H5.out.2).output, (H2.out.2.trans H5.out.2).size, (H2.out.2.trans H5.out.2).block⟩
                exact Only.grown (B := N) hod HG5.out (fun k e => by have := (HO.out.lt k e).1; have := HNN.out; omega))
              have hml : (m ++ ((Sums.bl S).drop q).take (y - q)).length = m.length + t.size := by rw [List.length_append, ← HTB.out, Sums.bl_length]
              have HR5 : Hid (w5.ownsRow N 5 1 v5 (m ++ ((Sums.bl S).drop q).take (y - q)).length (byv (m ++ ((Sums.bl S).drop q).take (y - q)))) := Hid.mk' (by
                have h := HO5.out
                rw [strCells_byvO] at h
                rw [hml]
                have e : byv (m ++ ((Sums.bl S).drop q).take (y - q)) = byv m ++ byv (Sums.bl t) := by rw [← HTB.out]; unfold byv; rw [List.map_append]
                rw [e]
                exact h)
              have HM2 : Hid ((m ++ ((Sums.bl S).drop q).take (y - q)).length ≤ y) := Hid.mk' (by rw [hml]; have h1 := HML.out; have h2 := HTS.out; have h3 := HQZ.out; omega)
              have HE4 := HE3
              clear HO5 HG5 k0 k1 c0 c1 c2 f1 f2 hsl hml HE3 HTB HTS HLT3 HNE HNG HNG2 HO3 HMB HO HML hts2
              generalize m ++ ((Sums.bl S).drop q).take (y - q) = m2 at HR5 HM2 HE4
              go_wp2_with fail
              have HTK := Hid.mk' (take_any g S y d 34 _ w5 H6.out.1 HS.out rfl)
              cases hr34 : rngO 34 34 ((Sums.bl S).drop y)
              · have hE := HE4.out
                rw [hr34, if_neg (by decide)] at hE
                rw [hr34] at HTK
                have HE5 := Hid.mk' hE
                clear hE HE4 hr34
                refine HTK.out.mono ?_
                rintro e w6 ⟨rfl, hr1, ho1⟩
                have H7 : Hid (Rr g S y d w6 ∧ Only g w w6) := Hid.mk' ⟨hr1, H6.out.2.trans ho1⟩
                have HR6 : Hid (w6.ownsRow N 5 1 v5 m2.length (byv m2)) := Hid.mk' (own_keptO HR5.out (fun k hk => ho1.block k (HR5.out.lt k hk).2 (by have h1 := (HR5.out.lt k hk).1; have h2 := HGL.out; have h3 := HNN.out; omega)))
                clear hr1 ho1 HTK H6 HR5
                have HND := Hid.mk' (need_any g S y d 92 _ w6 H7.out.1 HS.out rfl)
                cases hr92 : rngO 92 92 ((Sums.bl S).drop y)
                · have hE := HE5.out
                  rw [hr92, if_neg (by decide)] at hE
                  rw [hr92] at HND
                  have hRn : Rv.no 130 y = R := hE
                  subst hRn
                  clear hE HE5 hr92
                  go_wp2_with fail
                  refine HND.out.mono ?_
                  rintro e w7 ⟨rfl, hr, ho⟩
                  exact ⟨rfl, rfl, H7.out.2.trans ho⟩
                · have hE := HE5.out
                  rw [hr92, if_pos rfl] at hE
                  rw [hr92] at HND
                  have HE6 := Hid.mk' hE
                  clear hE HE5 hr92
                  go_wp2_with fail
                  refine HND.out.mono ?_
                  rintro e w7 ⟨he, hr1, ho1⟩
                  have he2 : e = .returned (.tuple #[]) := he
                  subst he2
                  have H8 : Hid (Rr g S (y + 1) d w7 ∧ Only g w w7) := Hid.mk' ⟨hr1, H7.out.2.trans ho1⟩
                  have HR7 : Hid (w7.ownsRow N 5 1 v5 m2.length (byv m2)) := Hid.mk' (own_keptO HR6.out (fun k hk => ho1.block k (HR6.out.lt k hk).2 (by have h1 := (HR6.out.lt k hk).1; have h2 := HGL.out; have h3 := HNN.out; omega)))
                  clear hr1 ho1 he HND H7 HR6
                  have HES := Hid.mk' (escaped_any g S (y + 1) d w7 H8.out.1 HS.out)
                  cases hesc : escP (Sums.bl S) (y + 1) with
                  | no c z =>
                    rw [hesc] at HES
                    have hRn : Rv.no c z = R := by have h := HE6.out; rw [hesc] at h; exact h
                    subst hRn
                    clear HE6 hesc
                    go_wp2_with fail
                    refine HES.out.mono ?_
                    rintro e w8 ⟨rfl, ho⟩
                    exact ⟨rfl, rfl, H8.out.2.trans ho⟩
                  | ok r z =>
                    obtain ⟨x1, x2, x3, x4⟩ := escP_ok hesc
                    rw [hesc] at HES
                    have HE7 : Hid ((qbP (Sums.bl S) n (m2 ++ encU r) z).bind (fun m z => .ok (nums m) z) = R) := Hid.mk' (by have h := HE6.out; rw [hesc] at h; exact h)
                    have HX := Hid.mk' (And.intro x1 (And.intro x2 x4))
                    have hrI : (r : Int) ≤ 1114111 := by omega
                    clear HE6 hesc x1 x3 x4
                    go_wp2_with fail
                    refine HES.out.mono ?_
                    rintro e w8 ⟨rfl, hr1, ho1⟩
                    have H9 : Hid (Rr g S z d w8 ∧ Only g w w8) := Hid.mk' ⟨hr1, H8.out.2.trans ho1⟩
                    have HR8 : Hid (w8.ownsRow N 5 1 v5 m2.length (byv m2)) := Hid.mk' (own_keptO HR7.out (fun k hk => ho1.block k (HR7.out.lt k hk).2 (by have h1 := (HR7.out.lt k hk).1; have h2 := HGL.out; have h3 := HNN.out; omega)))
                    clear hr1 ho1 HES H8 HR7
                    have HAP := Hid.mk' (Any.utf8_AppendRune_plain YtkplbggefiemdaaGreatDoor.lays242 (by kernel_rfl) N v5 m2.length (byv m2) (r : Int) (by omega) (by omega) w8 HR8.out (by have h1 := HM2.out; have h2 := HS.out; have h3 := H9.out.1.le; have h4 := HX.out.1; omega) (by have h1 := H9.out.2.size; have h2 := HNN.out; omega))
                    go_wp2_with fail
                    refine HAP.out.mono ?_
                    rintro e w9 ⟨v9, rfl, hown9, o9, hg9⟩
                    have H10 : Hid (Rr g S z d w9 ∧ Only g w w9) := Hid.mk' (by
                      have hne : ∀ k, v5.ownBlock = some k → w.heap.size ≤ k := fun k e => by have h1 := (HR8.out.lt k e).1; have h3 := HNN.out; omega
                      have hgl := H9.out.1.lt
                      have hb1 : (w8.alloc o9).heap[g]? = w8.heap[g]? := Below.heap_alloc _ _ _ hgl
                      have hb2 := hg9.block g (by rw [World.size_alloc]; omega) (fun e => by have h1 := hne g e.symm; have h2 := HGL.out; omega)
                      exact ⟨⟨(hb2.trans hb1).trans H9.out.1.row, H9.out.1.le⟩, Only.grown (B := N) (H9.out.2.alloc o9) hg9 hne⟩)
                    have HO9 : Hid (w9.ownsRow N 5 1 v9 (m2 ++ encU r).length (byv (m2 ++ encU r))) := Hid.mk' (by
                      have h := hown9
                      rw [encU_cells] at h
                      have e : byv (m2 ++ encU r) = byv m2 ++ byv (encU r) := by unfold byv; rw [List.map_append]
                      rw [e, List.length_append]
                      have e2 : (byv (encU r)).length = (encU r).length := by unfold byv; rw [List.length_map]
                      rw [e2] at h
                      exact h)
                    clear hown9 hg9 HAP H9 HR8
                    go_wp2_with fail
                    go_roundg n
                    case measure => omega
                    case rel => exact ⟨m2 ++ encU r, z, HE7, Hid.mk' (by have h1 := HX.out.1; have h2 := HK2.out; have h3 := HQZ.out; omega), Hid.mk' (by rw [List.length_append]; have h1 := HX.out.1; have h2 := HX.out.2.2; have h3 := HM2.out; omega), HO9, H10⟩
              · have hE := HE4.out
                rw [hr34, if_pos rfl] at hE
                rw [hr34] at HTK
                have hRn : Rv.ok (nums m2) (y + 1) = R := hE
                subst hRn
                clear hE HE4 hr34
                refine HTK.out.mono ?_
                rintro e w6 ⟨rfl, hr1, ho1⟩
                have H7 : Hid (Rr g S (y + 1) d w6 ∧ Only g w w6) := Hid.mk' ⟨hr1, H6.out.2.trans ho1⟩
                have hcv := conv_own N m2.length m2 w6 v5 rfl (own_keptO HR5.out (fun k hk => ho1.block k (HR5.out.lt k hk).2 (by have h1 := (HR5.out.lt k hk).1; have h2 := HGL.out; have h3 := HNN.out; omega)))
                clear hr1 ho1 HTK H6 HR5
                go_wp2_with fail
                go_ret
                exact ⟨rfl, H7.out⟩
            · have hy2 : z + 2 ≤ y := by rcases HY.out with e | e
                                         · cases e.1
                                         · exact e.2
              have HR4 : Hid (runP (Sums.bl S) k2 y = RR) := Hid.mk' HR3.out
              have HK4 : Hid (S.size < k2 + y) := Hid.mk' (by have := HKK.out; omega)
              have HQ4 : Hid (q ≤ y) := Hid.mk' (by have := HQZ.out; omega)
              clear HR3 HY hy2
              go_wp2_with fail
              refine HV.out.mono ?_
              rintro e w3 ⟨rfl, hr1, ho1⟩
              have H5 : Hid (Rr g S y d w3 ∧ Only g wo w3) := Hid.mk' ⟨hr1, H4.out.2.trans ho1⟩
              clear hr1 ho1 H4 HV
              go_wp2_with fail
              go_roundg k2
              case measure => omega
              case rel => exact ⟨y, HR4, HK4, HQ4, H5⟩
        · rw [hs, if_pos rfl] at hr
          have HR2 := Hid.mk' hr
          have HSG := Hid.mk' hs
          clear hr hs HR1
          go_wp2_with fail
          refine (single_any g S z d true _ H3.out.1 HS.out HSG.out).mono ?_
          rintro e w2 ⟨rfl, hr1, ho1⟩
          have H4 : Hid (Rr g S (z + 1) d w2 ∧ Only g wo w2) := Hid.mk' ⟨hr1, H3.out.2.trans ho1⟩
          clear hr1 ho1 H3
          go_wp2_with fail
          go_roundg k2
          case measure => omega
          case rel => exact ⟨z + 1, HR2, Hid.mk' (by have := HKK.out; omega), Hid.mk' (by have := HQZ.out; omega), H4⟩
end Go.Proofs.YtkplbggefiemdaaGreatDoor
