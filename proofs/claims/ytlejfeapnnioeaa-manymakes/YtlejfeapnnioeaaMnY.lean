/-
  The document's States. Conditions: as it says.
-/
import Derived.Test.YtlejfeapnnioeaaMnX
namespace Mn
/-- has none of the first j words the beginning of k bytes that x has? -/
def frF (D : List ByteArray) (x : ByteArray) (k j : Nat) : Bool := !(D.take j).any fun y => decide (k ≤ y.size ∧ y.extract 0 k = x.extract 0 k)
theorem frF_next (D : List ByteArray) (x : ByteArray) (k j : Nat) (hj : j < D.length) : frF D x k (j + 1) = (frF D x k j && !decide (k ≤ (D.getD j ByteArray.empty).size ∧ (D.getD j ByteArray.empty).extract 0 k = x.extract 0 k)) := by
  unfold frF
  rw [List.take_add_one, List.getElem?_eq_getElem hj, Option.toList_some, List.any_append, List.any_cons, List.any_nil, Bool.or_false, List.getD_eq_getElem?_getD, List.getElem?_eq_getElem hj, Bool.not_or]
  rfl
def cK (D : List ByteArray) (x : ByteArray) (i : Nat) : Nat → Nat
  | 0 => 0
  | m + 1 => cK D x i m + if frF D x (m + 1) i = true then 1 else 0
theorem cK_le (D : List ByteArray) (x : ByteArray) (i : Nat) : ∀ m, cK D x i m ≤ m
  | 0 => Nat.le_refl _
  | m + 1 => by
    have := cK_le D x i m
    unfold cK
    split <;> omega
/-- how many beginnings the first i words have -/
def stN (D : List ByteArray) : Nat → Nat
  | 0 => 1
  | i + 1 => stN D i + cK D (D.getD i ByteArray.empty) i (D.getD i ByteArray.empty).size
theorem stN_le (D : List ByteArray) (hD : ∀ x ∈ D, x.size ≤ 256) : ∀ i, i ≤ D.length → stN D i ≤ 1 + i * 256
  | 0, _ => Nat.le_refl _
  | i + 1, hi => by
    have h1 := stN_le D hD i (by omega)
    have h2 := cK_le D (D.getD i ByteArray.empty) i (D.getD i ByteArray.empty).size
    have h3 := hD (D.getD i ByteArray.empty) (by
      rw [List.getD_eq_getElem?_getD, List.getElem?_eq_getElem (by omega)]
      exact List.getElem_mem _)
    unfold stN
    omega
end Mn
namespace Go.Proofs.Ytlejfeapnnioeaa
open Go.RowKit Go.Shelf
set_option linter.unusedVariables false
theorem sl0_run (s : ByteArray) (z : Nat) (h : z ≤ s.size) (W : World) : (Instr.slice 9 (.string s) none (some (.int .i64 (z : Int))) none).run Try.prog W = .ok (.string (s.extract 0 z)) W := by
  have e3 : (z : Int) ≤ (s.size : Int) := by omega
  simp [go_sem, Instr.slice, h]
theorem at_of {w w' : World} {p : Option Addr} {D : List ByteArray} (h : StrAt w p D) (e : ∃ j, w' = w.drewN j) : StrAt w' p D := by
  obtain ⟨j, rfl⟩ := e
  exact h
set_option maxRecDepth 100000 in
set_option maxHeartbeats 2000000 in
theorem refStates_any (g : Nat) (q : Option Addr) (c : Nat) (fold : Bool) (D : List ByteArray) (w : World) (hst : w.heap[g]? = some (.cells #[.slice q D.length c, .bool fold] 64 (0, 0))) (h : StrAt w q D) (h64 : D.length ≤ 64) (hsz : ∀ x ∈ D, x.size ≤ 256) :
    Calls Try.prog 13 #[.pointer (some ⟨g, 0, none⟩)] w fun e w' => e = .returned (.int .i64 (Mn.stN D D.length : Int)) ∧ ∃ j, w' = w.drewN j := by
  obtain ⟨n, hn⟩ : ∃ n, D.length = n := ⟨_, rfl⟩
  rw [hn] at h64 hst ⊢
  have HX := Hid.mk' (And.intro hn h)
  have HZ := Hid.mk' hsz
  have c0 : w.cell? ⟨g, 0, none⟩ = some (.slice q n c) := by simp [World.cell?, hst]
  have HC := Hid.mk' c0
  clear hn h hsz hst c0
  go_enter Try.func13, Try.ntmps13
  go_wp2
  go_loopw [3, 4] (fun sv iv wr => ∃ (i S : Nat), sv = .int .i64 (S : Int) ∧ iv = .int .i64 (i : Int) ∧ i ≤ n ∧ Hid (S = Mn.stN D i) ∧ Hid (∃ j, wr = w.drewN j)) (fun _ iv _ => n - (intOf iv).toNat)
  case atStart => exact ⟨0, 1, rfl, rfl, Nat.zero_le _, rfl, 0, rfl⟩
  case round =>
    obtain ⟨i, S, rfl, rfl, hi, hS, hdr⟩ := hrel
    rename World => wr
    have c1 := cell_of hdr.out HC.out
    by_cases hin : i < n
    · have hinI : (i : Int) < (n : Int) := by omega
      obtain ⟨x, hx⟩ : ∃ x, D.getD i ByteArray.empty = x := ⟨_, rfl⟩
      have hxs : x.size ≤ 256 := HZ.out x (by
        rw [← hx, List.getD_eq_getElem?_getD, List.getElem?_eq_getElem (by have := HX.out.1; omega)]
        exact List.getElem_mem _)
      have hSb : S ≤ 1 + i * 256 := by
        rw [hS.out]
        exact Mn.stN_le D HZ.out i (by have := HX.out.1; omega)
      have HXX := Hid.mk' hx
      clear hx
      go_wp2
      go_loopw [3, 5] (fun sv kv wx => ∃ (k S2 : Nat), sv = .int .i64 (S2 : Int) ∧ kv = .int .i64 ((k : Int) + 1) ∧ k ≤ x.size ∧ S2 ≤ 1 + i * 256 + k ∧ Hid (S2 = S + Mn.cK D x i k) ∧ Hid (∃ j, wx = w.drewN j)) (fun _ kv _ => x.size + 1 - (intOf kv).toNat)
      case atStart => exact ⟨0, S, rfl, rfl, Nat.zero_le _, by omega, rfl, hdr⟩
      case round =>
        obtain ⟨k, S2, rfl, rfl, hk, hS2b, hS2, hdr2⟩ := hrel
        rename World => wx
        have d1 := cell_of hdr2.out HC.out
        obtain ⟨gq, off, rfl, hcx0⟩ := HX.out.2 i (by have := HX.out.1; omega)
        rw [HXX.out] at hcx0
        have d2 := cell_of hdr2.out hcx0
        by_cases hkx : k < x.size
        · have hkxI : (k : Int) + 1 ≤ (x.size : Int) := by omega
          have HSX : ∀ W, (Instr.slice 9 (.string x) none (some (.int .i64 ((k : Int) + 1))) none).run Try.prog W = .ok (.string (x.extract 0 (k + 1))) W := fun W => by
            have := sl0_run x (k + 1) (by omega) W
            simpa using this
          obtain ⟨X1, hX1⟩ : ∃ X1, x.extract 0 (k + 1) = X1 := ⟨_, rfl⟩
          rw [hX1] at HSX
          have HX1 := Hid.mk' hX1
          clear hX1
          go_wp2
          go_loopw [6, 7] (fun fv jv wy => ∃ j : Nat, jv = .int .i64 (j : Int) ∧ j ≤ i ∧ Hid (fv = .bool (Mn.frF D x (k + 1) j)) ∧ Hid (∃ z, wy = w.drewN z)) (fun _ jv _ => i - (intOf jv).toNat)
          case atStart => exact ⟨0, rfl, Nat.zero_le _, by simp [Hid, Mn.frF], hdr2⟩
          case round =>
            obtain ⟨j, rfl, hj, hfv, hdr3⟩ := hrel
            rename World => wy
            have e1 := cell_of hdr3.out HC.out
            have e2 := cell_of hdr3.out hcx0
            by_cases hji : j < i
            · have hjI : (j : Int) < (i : Int) := by omega
              have hjn : (j : Int) < (n : Int) := by omega
              obtain ⟨t, ht⟩ : ∃ t, D.getD j ByteArray.empty = t := ⟨_, rfl⟩
              obtain ⟨g4, o4, h4, hct⟩ := HX.out.2 j (by have := HX.out.1; omega)
              cases h4
              rw [ht] at hct
              have e3 := cell_of hdr3.out hct
              have HNX := Hid.mk' (Mn.frF_next D x (k + 1) j (by have := HX.out.1; omega))
              rw [ht, HX1.out] at HNX
              obtain ⟨f, hf⟩ : ∃ f, Mn.frF D x (k + 1) j = f := ⟨_, rfl⟩
              rw [hf] at hfv HNX
              have hfv2 := hfv.out
              subst hfv2
              clear hf hfv ht hct
              by_cases hkt : k + 1 ≤ t.size
              · have hktI : (k : Int) + 1 ≤ (t.size : Int) := by omega
                have HST : ∀ W, (Instr.slice 9 (.string t) none (some (.int .i64 ((k : Int) + 1))) none).run Try.prog W = .ok (.string (t.extract 0 (k + 1))) W := fun W => by
                  have := sl0_run t (k + 1) hkt W
                  simpa using this
                obtain ⟨T1, hT1⟩ : ∃ T1, t.extract 0 (k + 1) = T1 := ⟨_, rfl⟩
                rw [hT1] at HST HNX
                clear hT1
                by_cases hTX : T1 = X1
                · subst hTX
                  have HFF : Hid (Mn.frF D x (k + 1) (j + 1) = false) := by
                    rw [HNX.out]
                    simp [Hid, hkt]
                  go_wp2_with fail
                  go_quiet (fail)
                  go_wp2
                  go_roundw
                  case rel => exact ⟨j + 1, by simp, by omega, by rw [HFF.out]; exact rfl, by obtain ⟨z, rfl⟩ := hdr3.out; exact ⟨z + nq, by rw [World.drewN_drewN]⟩⟩
                  case measure =>
                    simp [intOf]
                    omega
                · have hne := toL_ne hTX
                  have hneB : (T1.toList == X1.toList) = false := by simp [hne]
                  have HFF : Hid (Mn.frF D x (k + 1) (j + 1) = f) := by
                    rw [HNX.out]
                    simp [Hid, hTX]
                  go_wp2_with fail
                  go_quiet (fail)
                  go_wp2
                  go_roundw
                  case rel => exact ⟨j + 1, by simp, by omega, by rw [HFF.out]; exact rfl, by obtain ⟨z, rfl⟩ := hdr3.out; exact ⟨z + nq, by rw [World.drewN_drewN]⟩⟩
                  case measure =>
                    simp [intOf]
                    omega
              · have hktI : ¬ (k : Int) + 1 ≤ (t.size : Int) := by omega
                have hktD : decide ((k : Int) + 1 ≤ (t.size : Int)) = false := decide_eq_false hktI
                have HFF : Hid (Mn.frF D x (k + 1) (j + 1) = f) := by
                  rw [HNX.out]
                  simp [Hid, hkt]
                go_wp2_with fail
                go_quiet (fail)
                go_wp2
                go_roundw
                case rel => exact ⟨j + 1, by simp, by omega, by rw [HFF.out]; exact rfl, by obtain ⟨z, rfl⟩ := hdr3.out; exact ⟨z + nq, by rw [World.drewN_drewN]⟩⟩
                case measure =>
                  simp [intOf]
                  omega
            · obtain rfl : j = i := by omega
              have hjI : ¬ (j : Int) < (j : Int) := by omega
              obtain ⟨f, hf⟩ : ∃ f, Mn.frF D x (k + 1) j = f := ⟨_, rfl⟩
              have HK : Hid (Mn.cK D x j (k + 1) = Mn.cK D x j k + if f = true then 1 else 0) := by
                rw [← hf]
                exact rfl
              rw [hf] at hfv
              have hfv2 := hfv.out
              subst hfv2
              clear hf hfv
              cases f
              · go_wp2
                go_roundw
                case rel => exact ⟨k + 1, S2, rfl, by simp, by omega, by omega, by rw [HK.out, hS2.out]; exact rfl, hdr3⟩
                case measure =>
                  simp [intOf]
                  omega
              · have hS64 : (S2 : Int) ≤ 100000 := by omega
                go_wp2
                go_roundw
                case rel => exact ⟨k + 1, S2 + 1, by simp, by simp, by omega, by omega, by rw [HK.out, hS2.out]; exact rfl, hdr3⟩
                case measure =>
                  simp [intOf]
                  omega
        · have hkxI : ¬ (k : Int) + 1 ≤ (x.size : Int) := by omega
          obtain rfl : k = x.size := by omega
          have HSN : Hid (Mn.stN D (i + 1) = S2) := by
            have e9 : Mn.stN D (i + 1) = Mn.stN D i + Mn.cK D (D.getD i ByteArray.empty) i (D.getD i ByteArray.empty).size := rfl
            rw [e9, HXX.out, hS2.out, hS.out]
            exact rfl
          go_wp2
          go_roundw
          case rel => exact ⟨i + 1, S2, rfl, by simp, by omega, HSN.out.symm, hdr2⟩
          case measure =>
            simp [intOf]
            omega
    · obtain rfl : i = n := by omega
      have hinI : ¬ (i : Int) < (i : Int) := by omega
      go_wp2
      go_ret
      refine ⟨?_, hdr.out⟩
      rw [hS.out]
      rfl
end Go.Proofs.Ytlejfeapnnioeaa
