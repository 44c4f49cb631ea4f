/-
  What the reference's IndexOf, Index and Last do, place by place. Conditions: the text is no longer than any text that is read can be, numbers are ints, bytes are bytes, lists lie in memory.
-/
import Derived.Test.YthiabdpihnjkcaaDoorIndexOf
import Derived.Test.YthiabdpihnjkcaaDoorWordsH
namespace Go.Proofs.YthiabdpihnjkcaaDoor
open Go.RowKit
set_option linter.unusedVariables false
theorem idxS_step (s : ByteArray) (zs : List Nat) (a : Nat) (h : a < s.size) : idxS s zs a = if Swar.bt s a ∈ zs then (a : Int) else idxS s zs (a + 1) := by
  unfold idxS
  obtain ⟨m, hm⟩ : ∃ m, s.size - a = m + 1 := ⟨s.size - a - 1, by omega⟩
  rw [hm, show s.size - (a + 1) = m by omega]
  by_cases hb : Swar.bt s a ∈ zs <;> simp [Swar.fnd, hb]
set_option maxHeartbeats 400000 in
theorem refIndexOf_nil (s : ByteArray) (f : Int) (ad : Option Addr) (cap : Nat) (w : World) (hs : s.size ≤ 1125899906842624) (hl : -9223372036854775808 ≤ f) (hh : f ≤ 9223372036854775807) :
    Calls Tryd.prog 26 #[.string s, .int .i64 f, .slice ad 0 cap] w fun e w' => e = .returned (.int .i64 (idxS s [] f.toNat)) ∧ w' = w := by
  have HE : Hid (idxS s [] f.toNat = -1) := by
    show _ = _
    unfold idxS
    exact Swar.fnd_none _ _ _ (fun i _ => by simp)
  go_enter Tryd.func26, Tryd.ntmps26
  go_wp2_with fail
  go_loop [7] (fun i => ∃ a : Nat, a ≤ 9223372036854775807 ∧ i = .int .i64 (a : Int)) (fun i => s.size - (intOf i).toNat)
  case atStart => exact ⟨f.toNat, by omega, by rw [max_zero]⟩
  case round =>
    obtain ⟨a, ha, rfl⟩ := hrel
    by_cases hlt : a < s.size
    · go_wp2_with fail
      refine wp_loop_rounds 1 ?_
      rw [rounds_succ]
      go_wp2_with fail
      go_round
      case rel => exact ⟨a + 1, by omega, by go_num⟩
      case measure => simp [intOf]; omega
    · have hlt' : ¬ (a : Int) < (s.size : Int) := by omega
      go_wp2_with fail
      go_ret
      exact ⟨ret_i64 (by rw [HE.out]), rfl⟩
set_option maxHeartbeats 1000000 in
theorem refIndexOf_any (s : ByteArray) (f : Int) (g off cap : Nat) (zs : List Nat) (w : World) (hs : s.size ≤ 1125899906842624) (hl : -9223372036854775808 ≤ f) (hh : f ≤ 9223372036854775807) (hzl : zs.length ≤ 1125899906842624)
    (hc : ∀ i, i < zs.length → w.cell? ⟨g, off + i, none⟩ = some (.int .u8 ((zs.getD i 0 : Nat) : Int))) :
    Calls Tryd.prog 26 #[.string s, .int .i64 f, .slice (some ⟨g, off, none⟩) zs.length cap] w fun e w' => e = .returned (.int .i64 (idxS s zs f.toNat)) ∧ ∃ n, w' = w.drewN n := by
  have HC : Hid (∀ i, i < zs.length → w.cell? ⟨g, off + i, none⟩ = some (.int .u8 ((zs.getD i 0 : Nat) : Int))) := hc
  clear hc
  go_enter Tryd.func26, Tryd.ntmps26
  go_wp2_with fail
  go_loopw [7, 8] (fun i _ wr => ∃ a n : Nat, a ≤ 9223372036854775807 ∧ i = .int .i64 (a : Int) ∧ Hid (idxS s zs f.toNat = idxS s zs a) ∧ wr = w.drewN n) (fun i _ _ => s.size - (intOf i).toNat)
  case atStart => exact ⟨f.toNat, 0, by omega, by rw [max_zero], rfl, rfl⟩
  case round =>
    obtain ⟨a, n, ha, rfl, HI, rfl⟩ := hrel
    by_cases hlt : a < s.size
    · have hst := idxS_step s zs a hlt
      have HST : Hid (idxS s zs a = if Swar.bt s a ∈ zs then (a : Int) else idxS s zs (a + 1)) := hst
      clear hst
      go_wp2_with fail
      go_loopw [8] (fun i wr => ∃ j k : Nat, j ≤ zs.length ∧ i = .int .i64 (j : Int) ∧ Hid (Swar.bt s a ∉ zs.take j) ∧ wr = w.drewN k) (fun i _ => zs.length - (intOf i).toNat)
      case atStart => exact ⟨0, n, by omega, rfl, by show ¬ _; simp, rfl⟩
      case round =>
        obtain ⟨j, k, hj, rfl, HJ, rfl⟩ := hrel
        by_cases hlj : j < zs.length
        · have hcj := HC.out j hlj
          have hget : zs.getD j 0 = zs[j] := by rw [List.getD_eq_getElem?_getD, List.getElem?_eq_getElem hlj]; rfl
          have htk : zs.take (j + 1) = zs.take j ++ [zs[j]] := List.take_succ_eq_append_getElem hlj
          have hmem : zs[j] ∈ zs := List.getElem_mem hlj
          rw [hget] at hcj
          by_cases he : Swar.bt s a = zs[j]
          · have HF : Hid (idxS s zs a = (a : Int)) := by show _ = _; rw [HST.out, if_pos (by rw [he]; exact hmem)]
            have g1 : (((s[a]'hlt).toNat : Int) == ((zs[j] : Nat) : Int)) = true := beq_iff_eq.2 (by rw [← Swar.bt_in hlt, he])
            generalize zs[j] = z at *
            clear hget htk hmem he HST HJ
            go_wp2_with fail
            go_quiet (fail)
            go_wp2_with fail
            go_ret
            exact ⟨ret_i64 (by rw [HI.out, HF.out]), k + nq, by rw [World.drewN_drewN]⟩
          · have HJ2 : Hid (Swar.bt s a ∉ zs.take (j + 1)) := by
              show ¬ _
              rw [htk, List.mem_append, List.mem_singleton]
              rintro (h | h)
              · exact HJ.out h
              · exact he h
            have g1 : (((s[a]'hlt).toNat : Int) == ((zs[j] : Nat) : Int)) = false := beq_eq_false_iff_ne.2 (by rw [← Swar.bt_in hlt]; omega)
            generalize zs[j] = z at *
            clear hget htk hmem he HST HJ
            go_wp2_with fail
            go_quiet (fail)
            go_wp2_with fail
            go_roundw
            case rel => exact ⟨j + 1, k + nq, by omega, by go_num, HJ2, rfl⟩
            case measure => simp [intOf]; omega
        · have HF : Hid (idxS s zs a = idxS s zs (a + 1)) := by
            show _ = _
            have h := HJ.out
            rw [List.take_of_length_le (by omega)] at h
            rw [HST.out, if_neg h]
          clear HST HJ
          go_wp2_with fail
          go_roundw
          case rel => exact ⟨a + 1, k, by omega, by go_num, by show _ = _; rw [HI.out, HF.out], rfl⟩
          case measure => simp [intOf]; omega
    · have HF : Hid (idxS s zs a = -1) := idxS_out s zs a (by omega)
      have hlt' : ¬ (a : Int) < (s.size : Int) := by omega
      go_wp2_with fail
      go_ret
      exact ⟨ret_i64 (by rw [HI.out, HF.out]), n, rfl⟩
theorem refIndexOf_gen (s : ByteArray) (f : Int) (ad : Option Addr) (cap : Nat) (L : List Nat) (w : World) (hs : s.size ≤ 1125899906842624) (hl : -9223372036854775808 ≤ f) (hh : f ≤ 9223372036854775807) (hzl : L.length ≤ 1125899906842624)
    (hc : ∀ i, i < L.length → ∃ g off, ad = some ⟨g, off, none⟩ ∧ w.cell? ⟨g, off + i, none⟩ = some (.int .u8 ((L.getD i 0 : Nat) : Int))) :
    Calls Tryd.prog 26 #[.string s, .int .i64 f, .slice ad L.length cap] w fun e w' => e = .returned (.int .i64 (idxS s L f.toNat)) ∧ ∃ n, w' = w.drewN n := by
  by_cases h0 : L.length = 0
  · obtain rfl : L = [] := List.length_eq_zero_iff.1 h0
    exact (refIndexOf_nil s f ad cap w hs hl hh).mono fun e w' ⟨he, hw⟩ => ⟨he, 0, hw⟩
  · obtain ⟨g, off, rfl, _⟩ := hc 0 (by omega)
    refine refIndexOf_any s f g off cap L w hs hl hh hzl (fun i hi => ?_)
    obtain ⟨g', off', h1, h2⟩ := hc i hi
    simp only [Option.some.injEq, Addr.mk.injEq, and_true] at h1
    obtain ⟨rfl, rfl⟩ := h1
    exact h2
theorem idxS_one (s : ByteArray) (c f : Nat) : idxS s [c] f = Swar.idxL s c f := by
  unfold idxS Swar.idxL
  refine Swar.fnd_congr _ _ _ _ (fun i _ => ?_)
  rw [Bool.eq_iff_iff]
  simp
theorem one_cell (c : Nat) (w : World) (T : TypeId) (i : Nat) (hi : i < [c].length) : (w.alloc (.cells #[.int .u8 (c : Int)] T)).cell? ⟨w.heap.size, 0 + i, none⟩ = some (.int .u8 (([c].getD i 0 : Nat) : Int)) := by
  obtain rfl : i = 0 := by simp at hi; omega
  simp [go_sem]
set_option maxHeartbeats 400000 in
theorem refIndex_any (s : ByteArray) (c : Nat) (f : Int) (w : World) (hs : s.size ≤ 1125899906842624) (hl : -9223372036854775808 ≤ f) (hh : f ≤ 9223372036854775807) :
    Calls Tryd.prog 28 #[.string s, .int .u8 (c : Int), .int .i64 f] w fun e w' => e = .returned (.int .i64 (Swar.idxL s c f.toNat)) ∧ Below w.heap.size w w' := by
  go_enter Tryd.func28, Tryd.ntmps28
  go_wp2_with fail
  refine (refIndexOf_any s f w.heap.size 0 1 [c] _ hs hl hh (by simp) (by exact fun i hi => one_cell c w 5 i hi)).mono ?_
  rintro e w' ⟨rfl, n, rfl⟩
  rw [idxS_one]
  go_wp2_with fail
  go_ret
  exact ⟨rfl, below_drewN ((Below.refl _ _).alloc (Nat.le_refl _) _) _⟩
set_option maxHeartbeats 400000 in
theorem refLast_any (s : ByteArray) (c : Nat) (f : Int) (w : World) (hs : s.size ≤ 1125899906842624) (hc : c < 256) (hl : -9223372036854775808 ≤ f) (hh : f ≤ 9223372036854775807) :
    Calls Tryd.prog 30 #[.string s, .int .u8 (c : Int), .int .i64 f] w fun e w' => e = .returned (.int .i64 (Swar.lstL s c (min f (s.size : Int)).toNat)) ∧ w' = w := by
  obtain ⟨M, hM⟩ : ∃ M : Nat, (min f (s.size : Int)).toNat = M := ⟨_, rfl⟩
  have hml : M ≤ s.size := by omega
  have HM : Hid ((min f (s.size : Int)).toNat = M) := hM
  have HX : Hid (max (min f (s.size : Int)) 0 = (M : Int)) := by show _ = _; omega
  have hb1 : -9223372036854775808 ≤ max (min f (s.size : Int)) 0 - 1 := by omega
  have hb2 : max (min f (s.size : Int)) 0 - 1 ≤ 9223372036854775807 := by omega
  clear hM
  go_enter Tryd.func30, Tryd.ntmps30
  go_wp2_with fail
  go_loop [7] (fun i => ∃ e : Nat, e ≤ s.size ∧ i = .int .i64 ((e : Int) - 1) ∧ Hid (Swar.lstL s c M = Swar.lstL s c e)) (fun i => (intOf i + 1).toNat)
  case atStart => exact ⟨M, hml, by rw [HX.out], rfl⟩
  case round =>
    obtain ⟨e, he, rfl, HI⟩ := hrel
    by_cases hlt : 0 < e
    · have hst := Swar.lst_step s c (e - 1)
      rw [show e - 1 + 1 = e by omega] at hst
      have e1 : (0 : Int) ≤ (e : Int) - 1 := by omega
      have e2 : e - 1 < s.size := by omega
      have e3 : (e : Int) - 1 < (s.size : Int) := by omega
      have hb := Swar.bt_in e2
      by_cases hh : Swar.bt s (e - 1) = c
      · rw [if_pos hh] at hst
        have HST : Hid (Swar.lstL s c e = ((e - 1 : Nat) : Int)) := hst
        have g : (((s[e - 1]'e2).toNat : Int) == (c : Int)) = true := beq_iff_eq.2 (by omega)
        clear hst hb hh
        go_wp2_with fail
        go_ret
        exact ⟨ret_i64 (by rw [HM.out, HI.out, HST.out]; omega), rfl⟩
      · rw [if_neg hh] at hst
        have HST : Hid (Swar.lstL s c e = Swar.lstL s c (e - 1)) := hst
        have g : (((s[e - 1]'e2).toNat : Int) == (c : Int)) = false := beq_eq_false_iff_ne.2 (by omega)
        clear hst hb hh
        go_wp2_with fail
        go_round
        case rel => exact ⟨e - 1, by omega, by go_num, by show _ = _; rw [HI.out, HST.out]⟩
        case measure => simp [intOf]; omega
    · obtain rfl : e = 0 := by omega
      go_wp2_with fail
      go_ret
      exact ⟨ret_i64 (by rw [HM.out, HI.out]; rfl), rfl⟩
end Go.Proofs.YthiabdpihnjkcaaDoor
