/-
  The walk of the law CodePlain: whatever texts it is given it returns true, and of what was there nothing turns. Conditions: texts of at most 1048576 bytes.
-/
import Derived.Test.YthmaaeibdcoemabKnown
import Derived.Test.YthmaaeibdcoemabCodeC
namespace Go.Proofs.Ythmaaeibdcoemab
open Go.RowKit
set_option linter.unusedVariables false
theorem arm_all (l : List Nat) (h : ∀ z ∈ l, z < 256) : ∀ z ∈ Code.arm 0 0 l, z < 256 := by
  intro z hz
  obtain ⟨n, hn, rfl⟩ := Code.arm_byt l 0 0 (by decide) h z hz
  exact Code.ch_lt n hn
theorem toList_inj {a b : ByteArray} (h : a.toList = b.toList) : a = b := by
  rw [ByteArray.toList_eq, ByteArray.toList_eq] at h
  exact ByteArray.ext (Array.toList_inj.1 h)
set_option maxRecDepth 100000 in
set_option maxHeartbeats 4000000 in
theorem codePlain_any (s t : ByteArray) (w : World) (hs : s.size ≤ 1048576) (ht : t.size ≤ 1048576) :
    Calls Try.prog 3 #[.string s, .string t] w fun e w' => e = .returned (.bool true) ∧ Below w.heap.size w w' := by
  have HBS := Hid.mk' (arm_all (Sums.bl s) (Sums.bl_byt s))
  obtain ⟨a, HA⟩ : ∃ a, Hid (a = nums (Code.arm 0 0 (Sums.bl s))) := ⟨_, Hid.mk' rfl⟩
  have HBA : Hid (Sums.bl a = Code.arm 0 0 (Sums.bl s)) := by unfold Hid; rw [HA.out]; exact bl_nums _ HBS.out
  have HLA : Hid (a.size = s.size / 3 * 4 + s.size % 3 + (s.size % 3 + 1) / 2) := by
    unfold Hid
    rw [← Sums.bl_length, HBA.out, Code.arm_eq, List.length_map, Code.armN_len, Sums.bl_length]
  have HCH : Hid (∀ i, i < a.size → ∃ n, n < 64 ∧ (Sums.bl a).getD i 0 = Code.ch n) := by
    intro i hi
    have hl : i < (Sums.bl a).length := by rw [Sums.bl_length]; exact hi
    have hm := List.getElem_mem hl
    have e : (Sums.bl a).getD i 0 = (Sums.bl a)[i] := by rw [List.getD_eq_getElem?_getD, List.getElem?_eq_getElem hl]; rfl
    rw [e]
    have h := Code.arm_byt (Sums.bl s) 0 0 (by decide) (Sums.bl_byt s) (Sums.bl a)[i] (by rw [← HBA.out]; exact hm)
    exact h
  have HPA : Hid (Code.plain (Sums.bl a) = (Sums.bl s, 0, 0)) := by unfold Hid; rw [HBA.out]; exact Code.plain_arm _ (Sums.bl_byt s)
  have HLS : Hid (a.size ≤ 2097153) := by unfold Hid; have := HLA.out; omega
  have HS := Hid.mk' hs
  have HT := Hid.mk' ht
  have la : (a.size : Int) ≤ 2097153 := by have := HLS.out; omega
  have ls : (s.size : Int) ≤ 1048576 := by omega
  have lt : (t.size : Int) ≤ 1048576 := by omega
  clear hs ht
  go_enter Try.func3, Try.ntmps3
  go_wp2_with fail
  refine (known_any w).mono ?_
  rintro e w1 ⟨rfl, hb1⟩
  have HB1 := Hid.mk' hb1
  clear hb1
  go_wp2_with fail
  refine (armor_any s w1 (by have := HS.out; omega)).mono ?_
  rintro e w2 ⟨rfl, hb2⟩
  rw [← HA.out]
  have HB2 : Hid (Below w.heap.size w w2) := HB1.out.trans (hb2.mono HB1.out.size)
  clear hb2 HA
  go_wp2_with fail
  refine (plain_any a w2 (by have := HLS.out; omega)).mono ?_
  rintro e w3 ⟨he, hb3⟩
  rw [HPA.out] at he
  subst he
  rw [nums_bl]
  have HB3 : Hid (Below w.heap.size w w3) := HB2.out.trans (hb3.mono HB2.out.size)
  clear hb3 HPA HB1 HB2
  simp only [Int.cast_ofNat_Int]
  go_wp2_with fail
  go_loop [10] (fun i' => ∃ i : Nat, i' = .int .i64 (i : Int) ∧ i ≤ a.size) (fun i' => a.size - (intOf i').toNat)
  case atStart => exact ⟨0, rfl, by omega⟩
  case round =>
    obtain ⟨i, rfl, hi⟩ := hrel
    by_cases hlt : i < a.size
    · have hlt2 : (i : Int) < (a.size : Int) := by omega
      have n0 : (0 : Int) ≤ (i : Int) := by omega
      have n1 : (i : Int) < (a.size : Int) := by omega
      have HG := Hid.mk' (Sums.bl_get a i hlt)
      obtain ⟨n, hn, hc⟩ := HCH.out i hlt
      have hcl := Code.ch_is n hn
      obtain ⟨c, HC⟩ : ∃ c, Hid (c = a[i].toNat) := ⟨_, Hid.mk' rfl⟩
      have hc2 : c = Code.ch n := by rw [HC.out, ← HG.out]; exact hc
      rw [← hc2] at hcl
      have HL := Hid.mk' hlt
      have hidx : ∀ W : World, (Instr.index 9 (.string a) (.int .i64 (i : Int))).run Try.prog W = .ok (.int .u8 (c : Int)) W := fun W => by
        rw [run_index_string W 9 _ .i64 (i : Int) Try.underlying9, dif_pos ⟨n0, n1⟩]
        simp only [Int.toNat_natCast]
        rw [HC.out]
      clear hn hc hc2 HG hi HC hlt n0 n1 HCH HBS HBA HLA HLS HS HT
      rcases hcl with ⟨h1, h2⟩ | ⟨h1, h2⟩ | ⟨h1, h2⟩ | h1 | h1
      · have q1 : decide ((c : Int) < 65) = false := decide_eq_false (by omega)
        have q2 : decide ((90 : Int) < (c : Int)) = false := decide_eq_false (by omega)
        have q3 : ¬ (c : Int) < 65 := by omega
        have q4 : ¬ (90 : Int) < (c : Int) := by omega
        clear h1 h2
        go_wp2_with fail
        go_round
        case rel => exact ⟨i + 1, by go_num, HL.out⟩
        case measure => have := HL.out; simp [intOf]; omega
      · have q1 : ¬ (c : Int) < 65 := by omega
        have q2 : (90 : Int) < (c : Int) := by omega
        have q3 : ¬ (c : Int) < 97 := by omega
        have q4 : ¬ (122 : Int) < (c : Int) := by omega
        clear h1 h2
        go_wp2_with fail
        go_round
        case rel => exact ⟨i + 1, by go_num, HL.out⟩
        case measure => have := HL.out; simp [intOf]; omega
      · have q1 : (c : Int) < 65 := by omega
        have q2 : (c : Int) < 97 := by omega
        have q3 : ¬ (c : Int) < 48 := by omega
        have q4 : ¬ (57 : Int) < (c : Int) := by omega
        clear h1 h2
        go_wp2_with fail
        go_round
        case rel => exact ⟨i + 1, by go_num, HL.out⟩
        case measure => have := HL.out; simp [intOf]; omega
      · have q1 : (c : Int) < 65 := by omega
        have q2 : (c : Int) < 97 := by omega
        have q3 : (c : Int) < 48 := by omega
        have q4 : ((c : Int) != 45) = false := by rw [h1]; rfl
        clear h1
        go_wp2_with fail
        go_round
        case rel => exact ⟨i + 1, by go_num, HL.out⟩
        case measure => have := HL.out; simp [intOf]; omega
      · have q1 : ¬ (c : Int) < 65 := by omega
        have q2 : (90 : Int) < (c : Int) := by omega
        have q3 : (c : Int) < 97 := by omega
        have q4 : ¬ (c : Int) < 48 := by omega
        have q5 : (57 : Int) < (c : Int) := by omega
        have q6 : ((c : Int) != 45) = true := by rw [h1]; rfl
        have q7 : ((c : Int) != 95) = false := by rw [h1]; rfl
        clear h1
        go_wp2_with fail
        go_round
        case rel => exact ⟨i + 1, by go_num, HL.out⟩
        case measure => have := HL.out; simp [intOf]; omega
    · have hlt' : ¬ (i : Int) < (a.size : Int) := by omega
      clear hlt hi HCH
      have HBT := Sums.bl_byt t
      have hla : (a.size : Int) = (s.size : Int) / 3 * 4 + (s.size : Int) % 3 + ((s.size : Int) % 3 + 1) / 2 := by have := HLA.out; omega
      have hlb : ((a.size : Int) == (s.size : Int) / 3 * 4 + (s.size : Int) % 3 + ((s.size : Int) % 3 + 1) / 2) = true := beq_iff_eq.2 hla
      clear hla
      go_wp2_with fail
      refine (plain_any t w3 (by have := HT.out; omega)).mono ?_
      rintro e w4 ⟨rfl, hb4⟩
      have HB4 : Hid (Below w.heap.size w w4) := HB3.out.trans (hb4.mono HB3.out.size)
      clear hb4
      by_cases hE : (Code.plain (Sums.bl t)).2.1 = 0
      · have hok := Code.plain_ok_arm (Sums.bl t) HBT hE
        obtain ⟨q, HQ⟩ : ∃ q, Hid (q = nums (Code.plain (Sums.bl t)).1) := ⟨_, Hid.mk' rfl⟩
        have HQB : Hid (Sums.bl q = (Code.plain (Sums.bl t)).1) := by unfold Hid; rw [HQ.out]; exact bl_nums _ hok.2.2
        have HQA : Hid (nums (Code.arm 0 0 (Sums.bl q)) = t) := by unfold Hid; rw [HQB.out, hok.1, nums_bl]
        have HQL : Hid (q.size ≤ t.size) := by unfold Hid; have := Code.plain_len (Sums.bl t); rw [← HQB.out, Sums.bl_length, Sums.bl_length] at this; exact this
        rw [hE, hok.2.1, ← HQ.out]
        clear hE hok HQ
        simp only [Int.cast_ofNat_Int]
        go_wp2_with fail
        refine (armor_any q w4 (by have := HQL.out; have := HT.out; omega)).mono ?_
        rintro e w5 ⟨rfl, hb5⟩
        rw [HQA.out]
        have HB5 : Hid (Below w.heap.size w w5) := HB4.out.trans (hb5.mono HB4.out.size)
        clear hb5
        go_wp2_with fail
        go_ret
        exact ⟨rfl, HB5.out⟩
      · have her := Code.plain_err (Sums.bl t) hE
        obtain ⟨E, HE⟩ : ∃ E, Hid (E = (Code.plain (Sums.bl t)).2.1) := ⟨_, Hid.mk' rfl⟩
        obtain ⟨p, HP⟩ : ∃ p, Hid (p = (Code.plain (Sums.bl t)).2.2) := ⟨_, Hid.mk' rfl⟩
        rw [her.1, ← HE.out, ← HP.out, show nums [] = ⟨#[]⟩ from rfl]
        have q1 : ((E : Int) != 0) = true := by rw [HE.out]; simp; exact hE
        have q2 : ¬ (p : Int) < 0 := by omega
        have q3 : ¬ (t.size : Int) < (p : Int) := by have := her.2; rw [← HP.out, Sums.bl_length] at this; omega
        clear hE her HE HP
        go_wp2_with fail
        go_ret
        exact ⟨rfl, HB4.out⟩
end Go.Proofs.Ythmaaeibdcoemab
