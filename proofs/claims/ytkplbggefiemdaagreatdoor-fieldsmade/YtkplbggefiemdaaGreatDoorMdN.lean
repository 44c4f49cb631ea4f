/-
  The law's own name, and its pick: of any text, any int. Conditions: a text's size as it says.
-/
import Derived.Test.YtkplbggefiemdaaGreatDoorMdP
namespace Go.Proofs.YtkplbggefiemdaaGreatDoor
open Go.RowKit
set_option linter.unusedVariables false
set_option linter.unusedSimpArgs false
def ofB : ByteArray := ⟨#[97, 98, 99, 100, 101, 102, 103, 104, 105, 106, 107, 108, 109, 110, 111, 112, 113, 114, 115, 116, 117, 118, 119, 120, 121, 122, 65, 66, 67, 68, 69, 70, 71, 72, 73, 74, 75, 76, 77, 78, 79, 80, 81, 82, 83, 84, 85, 86, 87, 88, 89, 90, 95, 48, 49, 50, 51, 52, 53, 54, 55, 56, 57, 46, 45, 91, 93]⟩
def ofN : List Nat := [97, 98, 99, 100, 101, 102, 103, 104, 105, 106, 107, 108, 109, 110, 111, 112, 113, 114, 115, 116, 117, 118, 119, 120, 121, 122, 65, 66, 67, 68, 69, 70, 71, 72, 73, 74, 75, 76, 77, 78, 79, 80, 81, 82, 83, 84, 85, 86, 87, 88, 89, 90, 95, 48, 49, 50, 51, 52, 53, 54, 55, 56, 57, 46, 45, 91, 93]
/-- a name's byte, out of a text's -/
def chrN (j c : Nat) : Nat := ofN.getD (if j = 0 then c % 53 else c % 67) 0
def nmT (l : List Nat) (i : Nat) : List Nat := (List.range i).map fun j => chrN j (l.getD j 0)
/-- a name, out of a text -/
def nmX (l : List Nat) : List Nat := if l.length = 0 then [97] else nmT l (min l.length 64)
theorem chr_ok (j c : Nat) : nmB (chrN j c) = true ∧ chrN j c < 256 ∧ (j = 0 → hdB [chrN j c] = true) := by
  have h : ∀ k : Fin 67, nmB (ofN.getD k.val 0) = true ∧ ofN.getD k.val 0 < 256 ∧ (k.val < 53 → hdB [ofN.getD k.val 0] = true) := by decide +kernel
  unfold chrN
  by_cases h0 : j = 0
  · rw [if_pos h0]
    have h1 := h ⟨c % 53, by omega⟩
    exact ⟨h1.1, h1.2.1, fun _ => h1.2.2 (by have := Nat.mod_lt c (show 0 < 53 by decide); simpa using this)⟩
  · rw [if_neg h0]
    have h1 := h ⟨c % 67, by omega⟩
    exact ⟨h1.1, h1.2.1, fun e => absurd e h0⟩
theorem nmT_step (l : List Nat) (i : Nat) : nmT l (i + 1) = nmT l i ++ [chrN i (l.getD i 0)] := by
  unfold nmT
  rw [List.range_succ, List.map_append]
  rfl
theorem nmX_ok (l : List Nat) : nameF (nmX l) = true ∧ ∀ x ∈ nmX l, x < 256 := by
  unfold nmX
  by_cases h0 : l.length = 0
  · rw [if_pos h0]; decide
  · rw [if_neg h0]
    obtain ⟨i, hi⟩ : ∃ i, min l.length 64 = i + 1 := ⟨min l.length 64 - 1, by omega⟩
    have hall : ∀ x ∈ nmT l (min l.length 64), nmB x = true ∧ x < 256 := by
      intro x hx
      unfold nmT at hx
      obtain ⟨j, _, rfl⟩ := List.mem_map.1 hx
      exact ⟨(chr_ok j _).1, (chr_ok j _).2.1⟩
    refine ⟨?_, fun x hx => (hall x hx).2⟩
    have hlen : (nmT l (min l.length 64)).length = min l.length 64 := by unfold nmT; rw [List.length_map, List.length_range]
    have hr : rwS nmB (nmT l (min l.length 64)) = (nmT l (min l.length 64)).length := by
      have := rws_app nmB [] (fun x r e => by cases e) (nmT l (min l.length 64)) (fun x hx => (hall x hx).1)
      rwa [List.append_nil] at this
    have hh : hdB (nmT l (min l.length 64)) = true := by
      rw [hi]
      unfold nmT
      rw [List.range_succ_eq_map, List.map_cons]
      exact (chr_ok 0 _).2.2 rfl
    unfold nameF
    rw [hr, hh, hlen]
    simp
    omega
theorem of_cut : ∀ k, k < 67 → Sums.bl (ofB.extract k (k + 1)) = [ofN.getD k 0] := by
  intro k hk
  have e : Sums.bl (ofB.extract k (k + 1)) = ((Sums.bl ofB).drop k).take 1 := by
    unfold Sums.bl
    simp [ByteArray.data_extract, List.take_drop]
  have h : ∀ k : Fin 67, ((Sums.bl ofB).drop k.val).take 1 = [ofN.getD k.val 0] := by decide +kernel
  rw [e]
  exact h ⟨k, hk⟩
theorem sl_at1 (s : ByteArray) (a : Nat) (h : a < s.size) (W : World) : (Instr.slice 9 (.string s) (some (.int .i64 (a : Int))) (some (.int .i64 ((a : Int) + 1))) none).run Tryz.prog W = .ok (.string (s.extract a (a + 1))) W := by
  have e1 : ((a : Int) + 1).toNat = a + 1 := by omega
  have e3 : (a : Int) + 1 ≤ (s.size : Int) := by omega
  have e4 : (0 : Int) ≤ (a : Int) + 1 := by omega
  simp [go_sem, Instr.slice, e1, e3, e4]
theorem toList_ne (S : ByteArray) (h : S.size ≠ 0) : S.toList.isEmpty = false ∧ ¬ S.toList = [] := by
  have hti : S.toList.isEmpty = false := by
    rw [ByteArray.toList_eq]
    cases hd : S.data.toList with
    | nil =>
      have : S.size = 0 := by
        show S.data.size = 0
        rw [← Array.length_toList, hd]
        rfl
      omega
    | cons a b => rfl
  exact ⟨hti, fun e => by rw [e] at hti; cases hti⟩
set_option maxRecDepth 100000 in
set_option maxHeartbeats 4000000 in
theorem mdName_any (S : ByteArray) (w : World) (hS : S.size ≤ 140737488351232) : Calls Tryz.prog 14 #[.string S] w fun e w' => e = .returned (.string (nums (nmX (Sums.bl S)))) ∧ w' = w := by
  have hSI : (S.size : Int) ≤ 140737488351232 := by omega
  have hofs : ofB.size = 67 := rfl
  have HOF := Hid.mk' of_cut
  go_enter Tryz.func14, Tryz.ntmps14
  go_wp2_with fail
  go_loopw [3, 4, 5] (fun ov iv kv wr => ∃ (i : Nat) (B : ByteArray), ov = .string B ∧ iv = .int .i64 (i : Int) ∧ i ≤ S.size ∧ i ≤ 64 ∧ B.size = i ∧ Hid (Sums.bl B = nmT (Sums.bl S) i) ∧ Hid (wr = w)) (fun ov iv kv _ => S.size - (intOf iv).toNat)
  case atStart => exact ⟨0, ByteArray.empty, rfl, rfl, by omega, by omega, rfl, Hid.mk' rfl, Hid.mk' rfl⟩
  case round =>
    obtain ⟨i, B, rfl, rfl, hi, hi64, hBi, HB, HW⟩ := hrel
    rename World => wr
    by_cases hgo : i < S.size ∧ i < 64
    · obtain ⟨hlt, h64⟩ := hgo
      obtain ⟨c, rest, hd⟩ : ∃ c rest, (Sums.bl S).drop i = c :: rest := by
        cases hd : (Sums.bl S).drop i with
        | nil => have := ob_nil S i (by omega) hd; omega
        | cons c rest => exact ⟨c, rest, rfl⟩
      have hidx := ob_idx S i c rest hd
      obtain ⟨_, hc256, _⟩ := ob_facts S i c rest hd
      have hcI : (c : Int) < 256 := by omega
      have g1 : decide ((i : Int) < (S.size : Int)) = true := decide_eq_true (by omega)
      have g2 : decide ((i : Int) < 64) = true := decide_eq_true (by omega)
      have hgd : (Sums.bl S).getD i 0 = c := by
        have h : ((Sums.bl S).drop i)[0]? = some c := by rw [hd]; rfl
        rw [List.getElem?_drop, Nat.add_zero] at h
        rw [List.getD_eq_getElem?_getD, h]; rfl
      have hw0 : IntKind.i64.wrap (c : Int) = (c : Int) := by rw [IntKind.wrap_i64]; omega
      by_cases h0 : i = 0
      · obtain ⟨k, hk⟩ : ∃ k, c % 53 = k := ⟨_, rfl⟩
        have hkm : k < 53 := by omega
        have hkI : (c : Int) % 53 = (k : Int) := by omega
        have hm : (c : Int).tmod 53 = (c : Int) % 53 := Int.tmod_eq_emod_of_nonneg (by omega)
        obtain ⟨q, hq⟩ : ∃ q, c % 67 = q := ⟨_, rfl⟩
        have hqI : (c : Int) % 67 = (q : Int) := by omega
        have hmq : (c : Int).tmod 67 = (c : Int) % 67 := Int.tmod_eq_emod_of_nonneg (by omega)
        have hqw : IntKind.i64.wrap (q : Int) = (q : Int) := by rw [IntKind.wrap_i64]; omega
        clear hq
        have hkw : IntKind.i64.wrap (k : Int) = (k : Int) := by rw [IntKind.wrap_i64]; omega
        have hkw1 : IntKind.i64.wrap ((k : Int) + 1) = (k : Int) + 1 := by rw [IntKind.wrap_i64]; omega
        have hsl := fun W => sl_at1 ofB k (by rw [hofs]; omega) W
        have hx1 := HOF.out k (by omega)
        have HB2 : Hid (Sums.bl (B ++ ofB.extract k (k + 1)) = nmT (Sums.bl S) (i + 1)) := Hid.mk' (by rw [Sums.bl_append, hx1, HB.out, nmT_step, hgd]; congr 2; unfold chrN; rw [if_pos h0]; rw [hk])
        have hDs : (ofB.extract k (k + 1)).size = 1 := by have := Sums.bl_length (ofB.extract k (k + 1)); rw [hx1] at this; exact this.symm
        have g3 : ((i : Int) == 0) = true := by simp [h0]
        have g4 : (i == 0) = true := by simp [h0]
        generalize ofB.extract k (k + 1) = D at hsl HB2 hDs hx1
        unfold ofB at hsl
        clear hk h0 hd hx1 hgd HB
        go_wp2_with fail
        go_roundw
        case rel => exact ⟨i + 1, B ++ D, rfl, by go_num, by omega, by omega, by rw [ByteArray.size_append, hBi, hDs], HB2, HW⟩
        case measure => simp [intOf]; omega
      · obtain ⟨k, hk⟩ : ∃ k, c % 67 = k := ⟨_, rfl⟩
        have hkm : k < 67 := by omega
        have hkI : (c : Int) % 67 = (k : Int) := by omega
        have hm : (c : Int).tmod 67 = (c : Int) % 67 := Int.tmod_eq_emod_of_nonneg (by omega)
        have hkw : IntKind.i64.wrap (k : Int) = (k : Int) := by rw [IntKind.wrap_i64]; omega
        have hkw1 : IntKind.i64.wrap ((k : Int) + 1) = (k : Int) + 1 := by rw [IntKind.wrap_i64]; omega
        have hsl := fun W => sl_at1 ofB k (by rw [hofs]; omega) W
        have hx1 := HOF.out k (by omega)
        have HB2 : Hid (Sums.bl (B ++ ofB.extract k (k + 1)) = nmT (Sums.bl S) (i + 1)) := Hid.mk' (by rw [Sums.bl_append, hx1, HB.out, nmT_step, hgd]; congr 2; unfold chrN; rw [if_neg h0]; rw [hk])
        have hDs : (ofB.extract k (k + 1)).size = 1 := by have := Sums.bl_length (ofB.extract k (k + 1)); rw [hx1] at this; exact this.symm
        have g3 : ((i : Int) == 0) = false := beq_eq_false_iff_ne.2 (by omega)
        have g4 : (i == 0) = false := beq_eq_false_iff_ne.2 h0
        generalize ofB.extract k (k + 1) = D at hsl HB2 hDs hx1
        unfold ofB at hsl
        clear hk h0 hd hx1 hgd HB
        go_wp2_with fail
        go_roundw
        case rel => exact ⟨i + 1, B ++ D, rfl, by go_num, by omega, by omega, by rw [ByteArray.size_append, hBi, hDs], HB2, HW⟩
        case measure => simp [intOf]; omega
    · by_cases h0 : i = 0
      · have HN0 : Hid (nums (nmX (Sums.bl S)) = ⟨#[97]⟩) := Hid.mk' (by
          unfold nmX
          rw [if_pos (by rw [Sums.bl_length]; omega)]
          rfl)
        have e : B = ByteArray.empty := Sums.bl_inj ((List.eq_nil_of_length_eq_zero (by rw [Sums.bl_length]; omega)).trans rfl)
        have g1 : decide ((i : Int) < (S.size : Int)) = false := decide_eq_false (by omega)
        have hni : ¬ i < S.size := by omega
        subst e
        clear HB hBi hgo h0 HOF
        go_wp2_with fail
        go_ret
        exact ⟨by rw [HN0.out]; rfl, HW.out⟩
      · have HR : Hid (B = nums (nmX (Sums.bl S))) := Hid.mk' (by
          apply Sums.bl_inj
          rw [bl_nums _ (nmX_ok _).2, HB.out]
          unfold nmX
          rw [if_neg (by rw [Sums.bl_length]; omega), Sums.bl_length, show min S.size 64 = i by omega])
        obtain ⟨ht1, ht2⟩ := toList_ne B (by omega)
        by_cases hlt : i < S.size
        · have g1 : decide ((i : Int) < (S.size : Int)) = true := decide_eq_true (by omega)
          have g2 : decide ((i : Int) < 64) = false := decide_eq_false (by omega)
          have hni : ¬ i < 64 := by omega
          clear HB hgo h0 HOF
          go_wp2_with fail
          go_ret
          exact ⟨by rw [← HR.out]; rfl, HW.out⟩
        · have g1 : decide ((i : Int) < (S.size : Int)) = false := decide_eq_false (by omega)
          clear HB hgo h0 HOF
          go_wp2_with fail
          go_ret
          exact ⟨by rw [← HR.out]; rfl, HW.out⟩
/-- which of k things -/
def pkF (c : Int) (k : Nat) : Nat := (if c < 0 then (-(c + 1)).toNat else c.toNat) % k
theorem pickX (c : Int) (k : Nat) (w : World) (h0 : -9223372036854775808 ≤ c) (h1 : c ≤ 9223372036854775807) (hk : 1 ≤ k) (hkb : k ≤ 9223372036854775807) :
    Calls Tryz.prog 12 #[.int .i64 c, .int .i64 (k : Int)] w fun e w' => e = .returned (.int .i64 (pkF c k : Int)) ∧ w' = w := by
  have hk0 : ¬ (k : Int) = 0 := by omega
  have hk1 : 1 ≤ (k : Int) := by omega
  obtain ⟨z, hz⟩ : ∃ z, pkF c k = z := ⟨_, rfl⟩
  rw [hz]
  unfold pkF at hz
  by_cases hc : c < 0
  · obtain ⟨d, hd⟩ : ∃ d : Nat, -(c + 1) = (d : Int) := ⟨(-(c + 1)).toNat, by omega⟩
    have hdb : (d : Int) ≤ 9223372036854775807 := by omega
    rw [if_pos hc, show (-(c + 1)).toNat = d by omega] at hz
    have hm : (d : Int) % (k : Int) = (z : Int) := by rw [← hz]; simp
    have HZ := Hid.mk' hm
    clear hz
    go_enter Tryz.func12, Tryz.ntmps12
    go_wp2
    go_ret
    exact ⟨by first | exact congrArg (fun x : Int => Ending.returned (.int .i64 x)) HZ.out | rfl, rfl⟩
  · obtain ⟨d, rfl⟩ := Int.eq_ofNat_of_zero_le (show 0 ≤ c by omega)
    rw [if_neg hc, show ((d : Int)).toNat = d by omega] at hz
    have hm : (d : Int) % (k : Int) = (z : Int) := by rw [← hz]; simp
    have HZ := Hid.mk' hm
    clear hz
    go_enter Tryz.func12, Tryz.ntmps12
    go_wp2
    go_ret
    exact ⟨by first | exact congrArg (fun x : Int => Ending.returned (.int .i64 x)) HZ.out | rfl, rfl⟩
end Go.Proofs.YtkplbggefiemdaaGreatDoor
