/-
  record: a Builder's Line. Conditions: as each says.
-/
import Derived.Test.YtobbobbfmiefeaaRcQ
namespace Go.Proofs.Ytobbobbfmiefeaa
open Go.RowKit
set_option linter.unusedVariables false
set_option linter.unusedSimpArgs false
set_option maxHeartbeats 1000000 in
set_option maxRecDepth 100000 in
theorem text2_any {B g : Nat} {S E : List Int} {T : List Nat} {sv ev tv : Value} {nu mi ma : Int} {w : World} (h : Bw B g S E T sv ev tv nu mi ma w) (n lo hi : Nat) (hn : n < E.length) (hE : E.length ≤ 1048576) (hT : T.length ≤ 1048576) (h1 : E.getD n 0 = (hi : Int)) (h2 : n = 0 → lo = 0) (h3 : 0 < n → E.getD (n - 1) 0 = (lo : Int)) (h4 : lo ≤ hi) (h5 : hi ≤ T.length) :
    Calls Try.prog 54 #[.pointer (some ⟨g, 0, none⟩), .int .i64 (n : Int)] w fun e w' => (∃ a, e = .returned (.slice a (hi - lo) (hi - lo)) ∧ (lo < hi → ∃ q c, tv = .slice (some ⟨q, 0, none⟩) T.length c ∧ a = some ⟨q, lo, none⟩) ∧ (lo = hi → a = none ∨ ∃ q, a = some ⟨q, 0, none⟩)) ∧ ∃ k, w' = w.drewN k := by
  obtain ⟨a1, cp1, rfl⟩ := row_shape h.he
  obtain ⟨q1, rfl, _, _, hcell⟩ := row_some h.he (by omega)
  obtain ⟨a2, cp2, HV, hcap, HQ⟩ : ∃ a2 cp2, Hid (tv = .slice a2 T.length cp2) ∧ T.length ≤ cp2 ∧ Hid (0 < T.length → ∃ q, a2 = some ⟨q, 0, none⟩) := by
    rcases h.ht.2 with ⟨rfl, h0⟩ | ⟨q, cap, cur, rfl, _, _, hcp, _⟩
    · exact ⟨none, 0, by rw [h0]; rfl, by omega, fun h => by omega⟩
    · exact ⟨_, cap, rfl, hcp, fun _ => ⟨q, rfl⟩⟩
  obtain ⟨a3, HA3⟩ : ∃ a3, Hid (a3 = if hi = lo then a2 else a2.map (·.add (lo * 1))) := ⟨_, rfl⟩
  have hsl : ∀ W, (Instr.slice 63 (.slice a2 T.length cp2) (some (.int .i64 (lo : Int))) (some (.int .i64 (hi : Int))) (some (.int .i64 (hi : Int)))).run Try.prog W = .ok (.slice a3 (hi - lo) (hi - lo)) W := by
    intro W
    obtain ⟨i0, hi0, _, hz1, _⟩ := info_parts infoB
    have he5 : Try.prog.elem 63 = 5 := by kernel_rfl
    rw [run_slice_lhm W 63 a2 T.length cp2 (by rw [he5]; exact Try.underlying63) .i64 .i64 .i64 (lo : Int) (hi : Int) (hi : Int) (by omega) (by omega) (by omega) (by omega), he5]
    have hsz : (sizeOf 5).run Try.prog W = .ok 1 W := by simp [sizeOf, typeInfo, hi0, hz1]
    rw [hsz, HA3.out]
    simp [Result.andThen, sliced]
  have e1 : w.cell? ⟨g, 1, none⟩ = some (.slice (some ⟨q1, 0, none⟩) E.length cp1) := by rw [h.cell]; rfl
  have e2 : w.cell? ⟨g, 2, none⟩ = some (.slice a2 T.length cp2) := by rw [h.cell, ← HV.out]; rfl
  have e3 : w.cell? ⟨q1, n, none⟩ = some (.int .i64 (hi : Int)) := by rw [hcell n hn, h1]
  have HF : Hid (lo < hi → ∃ q c, tv = .slice (some ⟨q, 0, none⟩) T.length c ∧ a3 = some ⟨q, lo, none⟩) := by
    intro hlt
    obtain ⟨q, hq⟩ := HQ.out (by omega)
    refine ⟨q, cp2, by rw [HV.out, hq], ?_⟩
    rw [HA3.out, if_neg (by omega), hq]
    by_cases h0 : lo = 0
    · simp [Addr.add, h0]
    · simp [Addr.add, h0]
  have he4 : 0 < n → w.cell? ⟨q1, n - 1, none⟩ = some (.int .i64 (lo : Int)) := fun hp => by rw [hcell (n - 1) (by omega), h3 hp]
  have hnb : n ≤ 1048576 := by omega
  have HE : Hid (lo = hi → a3 = none ∨ ∃ q, a3 = some ⟨q, 0, none⟩) := by
    intro he
    rw [HA3.out, if_pos he.symm]
    rcases Nat.eq_zero_or_pos T.length with h0 | h0
    · rcases h.ht.2 with ⟨e, _⟩ | ⟨q, cap, cur, e, _⟩
      · have := HV.out
        rw [e] at this
        simp only [Value.slice.injEq] at this
        exact .inl this.1.symm
      · have := HV.out
        rw [e] at this
        simp only [Value.slice.injEq] at this
        exact .inr ⟨q, this.1.symm⟩
    · obtain ⟨q, hq⟩ := HQ.out h0
      exact .inr ⟨q, hq⟩
  obtain ⟨EL, hEL⟩ : ∃ EL, EL = E.length := ⟨_, rfl⟩
  rw [← hEL] at e1 hn
  have HLH := Hid.mk' h4
  have HHT := Hid.mk' h5
  clear h h1 hcap HA3 HQ HV h4 h5 hE hT hEL
  generalize hi - lo = d at *
  by_cases hz : n = 0
  · obtain rfl := h2 hz
    subst hz
    have i1 : (0 : Int) < (EL : Int) := by omega
    have hsl' := hsl
    simp only [Int.natCast_zero] at hsl'
    clear h2 h3 hcell he4
    go_enter Try.func54, Try.ntmps54
    go_wp2_with fail
    go_quiet (fail)
    go_wp2_with fail
    go_ret
    exact ⟨⟨a3, rfl, HF.out, HE.out⟩, _, rfl⟩
  · have hz' : (0 : Int) < (n : Int) := by omega
    have i1 : (n : Int) < (EL : Int) := by omega
    have i2 : (0 : Int) ≤ (n : Int) := by omega
    have e4 := he4 (by omega)
    have i6 : ((n : Int) - 1).toNat = n - 1 := by omega
    clear h2 h3 hcell he4
    go_enter Try.func54, Try.ntmps54
    go_wp2_with fail
    go_quiet (fail)
    go_wp2_with fail
    go_ret
    exact ⟨⟨a3, rfl, HF.out, HE.out⟩, _, rfl⟩
theorem line_res (x : Int) (t : ByteArray) (f : Bool) (b : Nat) (tmps : Array Value) (Y : World) (hg : Y.heap[b]? = some (.cells #[.int .i64 x, .string t] 24 (0, 0))) (h4 : tmps[4]?.getD undef = .pointer (some ⟨b, 0, none⟩)) (h5 : tmps[5]?.getD undef = .bool f) :
    (results Try.f30 tmps).run Try.prog Y = .ok (.tuple #[.agg #[.int .i64 x, .string t], .bool f]) Y := by
  have hld := run_loadVar_row (P := Try.prog) Y b _ 24 _ _ _ hg Try.underlying24 rfl (by kernel_rfl)
  simp [results, Try.f30, Sem.run_bind, asAddr, Sem.run_pure, Result.andThen_ok, h4, h5, hld]
set_option maxHeartbeats 1000000 in
set_option maxRecDepth 100000 in
theorem line_out {B g : Nat} {L : List Rec.Ln} {w : World} (h : Bdr B g L w) (n : Int) (hn : n < 0 ∨ (L.length : Int) ≤ n) :
    Calls Try.prog 30 #[.pointer (some ⟨g, 0, none⟩), .int .i64 n] w fun e w' => e = .returned (.tuple #[.agg #[.int .i64 0, .string ⟨#[]⟩], .bool false]) ∧ Below w.heap.size w w' := by
  have HD := Hid.mk' (h.below ((Below.refl _ _).alloc (Nat.le_refl _) (.cells #[.int .i64 0, .string ⟨#[]⟩] 24)))
  have HB : Hid (Below w.heap.size w (w.alloc (.cells #[.int .i64 0, .string ⟨#[]⟩] 24))) := (Below.refl _ _).alloc (Nat.le_refl _) _
  by_cases h0 : n < 0
  · clear hn h
    go_enter Try.func30, Try.ntmps30
    go_wp2_with fail
    refine bodyPost_ret (line_res 0 ⟨#[]⟩ false w.heap.size _ _ (heap_alloc_new w _) rfl rfl) rfl ⟨rfl, HB.out⟩
  · have hn2 : (L.length : Int) ≤ n := by omega
    clear hn h
    go_enter Try.func30, Try.ntmps30
    go_wp2_with fail
    refine (blen_any HD.out).mono ?_
    rintro e w' ⟨rfl, rfl⟩
    go_wp2_with fail
    refine bodyPost_ret (line_res 0 ⟨#[]⟩ false w.heap.size _ _ (heap_alloc_new w _) rfl rfl) rfl ⟨rfl, HB.out⟩
theorem conv_part {q lo m n c : Nat} {T : List Nat} {W : World} {B : Nat} (h : W.ownsRow B 5 1 (.slice (some ⟨q, 0, none⟩) n c) n (byv T)) (hT : T.length = n) (hm : lo + m ≤ n) (hb : ∀ z ∈ T, z < 256) : (convert 63 9 (.slice (some ⟨q, lo, none⟩) m m)).run Try.prog W = .ok (.string (nums ((T.drop lo).take m))) W := by
  have hl : ((T.drop lo).take m).length = m := by rw [List.length_take, List.length_drop]; omega
  refine run_convert_bytes_arg W 63 5 Try.underlying63 Try.underlying5 q lo m m _ (by simp; omega) (fun i hi => ?_) 9 Try.underlying9
  rw [h.cellAt (lo + i) (by omega)]
  unfold byv
  rw [List.getElem?_map, List.getD_eq_getElem?_getD, List.getElem?_map, List.getElem?_take, if_pos hi, List.getElem?_drop, List.getElem?_eq_getElem (show lo + i < T.length by omega)]
  rfl
theorem conv_none (c : Nat) (w : World) : (convert 63 9 (.slice none 0 c)).run Try.prog w = .ok (.string ⟨#[]⟩) w := by
  rw [run_convert_bytes_nil w 63 5 Try.underlying63 Try.underlying5 0 c 9 Try.underlying9]
  rfl
theorem conv_zero (g o c : Nat) (w : World) : (convert 63 9 (.slice (some ⟨g, o, none⟩) 0 c)).run Try.prog w = .ok (.string ⟨#[]⟩) w := by
  exact run_convert_bytes_arg w 63 5 Try.underlying63 Try.underlying5 g o 0 c [] rfl (fun i hi => by omega) 9 Try.underlying9
set_option maxHeartbeats 1000000 in
set_option maxRecDepth 100000 in
theorem line_in {B g : Nat} {L : List Rec.Ln} {w : World} (h : Bdr B g L w) (n : Nat) (hn : n < L.length) (x : Int) (t : ByteArray) (hxt : L.getD n (0, ⟨#[]⟩) = (x, t)) :
    Calls Try.prog 30 #[.pointer (some ⟨g, 0, none⟩), .int .i64 (n : Int)] w fun e w' => e = .returned (.tuple #[.agg #[.int .i64 x, .string t], .bool true]) ∧ Below w.heap.size w w' := by
  have hD := h.below ((Below.refl _ _).alloc (Nat.le_refl _) (.cells #[.int .i64 0, .string ⟨#[]⟩] 24))
  have HD := Hid.mk' hD
  have HB : Hid (Below w.heap.size w (w.alloc (.cells #[.int .i64 0, .string ⟨#[]⟩] 24))) := (Below.refl _ _).alloc (Nat.le_refl _) _
  have HA : Hid ((w.alloc (.cells #[.int .i64 0, .string ⟨#[]⟩] 24)).heap[w.heap.size]? = some (.cells #[.int .i64 0, .string ⟨#[]⟩] 24 (0, 0))) := heap_alloc_new w _
  have hgl := h.lt
  obtain ⟨sv, ev, tv, hw⟩ := hD.ex
  have hok := h.ok
  have hsz := h.sz
  have hlen := Rec.len_le L
  have hsl : (Rec.sts L).length = L.length := Rec.sts_len L
  have hel : ((Rec.ens 0 L).map fun n : Nat => (n : Int)).length = L.length := by rw [List.length_map, Rec.ens_len]
  unfold Rec.szF at hsz
  obtain ⟨v1, v2, v3⟩ := Rec.lns_at L n hn
  have HTX := Hid.mk' (fun (W : World) (hW : ∃ k, W = (w.alloc (.cells #[.int .i64 0, .string ⟨#[]⟩] 24)).drewN k) => text2_any (w := W) (by obtain ⟨k, rfl⟩ := hW; exact hw.drewN k) n (Rec.txs (L.take n)).length (Rec.txs (L.take (n + 1))).length (by rw [hel]; exact hn) (by rw [hel]; omega) (by omega) (ensI_at L n hn) (fun h0 => by rw [h0]; rfl) (fun h0 => by rw [ensI_at L (n - 1) (by omega), show n - 1 + 1 = n by omega]) v2 v3)
  have htt : Rec.txt L n = t := by
    unfold Rec.txt
    rw [hxt]
  have hcat := Rec.txs_at L n hn
  rw [htt] at hcat
  have hspl := Rec.txs_split L (n + 1)
  obtain ⟨lo, hlo⟩ : ∃ lo, lo = (Rec.txs (L.take n)).length := ⟨_, rfl⟩
  have hhi : (Rec.txs (L.take (n + 1))).length = lo + t.size := by rw [hcat, List.length_append, Sums.bl_length, hlo]
  have hpart : ((Rec.txs L).drop lo).take t.size = Sums.bl t := by
    rw [hspl, hcat, hlo, List.append_assoc, List.drop_left, List.take_left' (by rw [Sums.bl_length])]
  rw [hhi, ← hlo] at HTX
  have HT2 : Hid (∀ W : World, (∃ k, W = (w.alloc (.cells #[.int .i64 0, .string ⟨#[]⟩] 24)).drewN k) → Calls Try.prog 54 #[.pointer (some ⟨g, 0, none⟩), .int .i64 (n : Int)] W fun e w' => ∃ a, e = .returned (.slice a t.size t.size) ∧ (convert 63 9 (.slice a t.size t.size)).run Try.prog w' = .ok (.string t) w' ∧ ∃ k, w' = (w.alloc (.cells #[.int .i64 0, .string ⟨#[]⟩] 24)).drewN k) := by
    intro W hW
    refine (HTX.out W hW).mono ?_
    rintro e w' ⟨⟨a, rfl, ha1, ha2⟩, k2, rfl⟩
    obtain ⟨k1, rfl⟩ := hW
    have e1 : lo + t.size - lo = t.size := by omega
    rw [e1]
    refine ⟨a, rfl, ?_, k1 + k2, by simp [World.drewN, Nat.add_assoc]⟩
    by_cases h0 : t.size = 0
    · have et : t = ⟨#[]⟩ := empty_of_size h0
      rw [h0, et]
      rcases ha2 (by omega) with rfl | ⟨q, rfl⟩
      · exact conv_none 0 _
      · exact conv_zero q 0 0 _
    · obtain ⟨q, c, rfl, rfl⟩ := ha1 (by omega)
      have hrow : ((((w.alloc (.cells #[.int .i64 0, .string ⟨#[]⟩] 24)).drewN k1)).drewN k2).ownsRow B 5 1 (.slice (some ⟨q, 0, none⟩) (Rec.txs L).length c) (Rec.txs L).length (byv (Rec.txs L)) := hw.ht
      rw [conv_part hrow rfl (by have := congrArg List.length hspl; rw [List.length_append, hhi] at this; omega) (Rec.txs_byt L), hpart, nums_bl]
  obtain ⟨a0, cp0, rfl⟩ := row_shape hw.hs
  have hc0 : (w.alloc (.cells #[.int .i64 0, .string ⟨#[]⟩] 24)).cell? ⟨g, 0, none⟩ = some (.slice a0 (Rec.sts L).length cp0) := by rw [hw.cell]; rfl
  obtain ⟨q, rfl, hBq, hq, hcq⟩ := row_some hw.hs (by omega)
  have hstn : (Rec.sts L).getD n 0 = x := by
    have hs : n < (Rec.sts L).length := by omega
    rw [List.getD_eq_getElem?_getD, List.getElem?_eq_getElem hs]
    have : L[n] = (x, t) := by
      rw [← hxt, List.getD_eq_getElem?_getD, List.getElem?_eq_getElem hn]
      rfl
    simp [Rec.sts, this]
  have hc1 := hcq n (by omega)
  rw [hstn] at hc1
  rw [hsl] at hc0
  have hqne : q ≠ w.heap.size := fun e => by
    have h1 := own_ty hw.hs HA.out (by decide)
    exact h1 (by rw [e]; rfl)
  have hgne : g ≠ w.heap.size := by omega
  obtain ⟨N, hN⟩ : ∃ N, N = L.length := ⟨_, rfl⟩
  rw [← hN] at hc0
  have i0 : (0 : Int) ≤ (n : Int) := by omega
  have i1 : (n : Int) < (N : Int) := by omega
  have i2 : ¬ (n : Int) < 0 := by omega
  have HN := Hid.mk' hN
  obtain ⟨W0, hW0⟩ : ∃ W0, W0 = w.alloc (.cells #[.int .i64 0, .string ⟨#[]⟩] 24) := ⟨_, rfl⟩
  have HL : Hid (Calls Try.prog 23 #[.pointer (some ⟨g, 0, none⟩)] (w.alloc (.cells #[.int .i64 0, .string ⟨#[]⟩] 24)) fun e w' => e = .returned (.int .i64 (N : Int)) ∧ w' = w.alloc (.cells #[.int .i64 0, .string ⟨#[]⟩] 24)) := by
    rw [hN]
    exact blen_any HD.out
  clear hw h hok hsz hlen hsl hel v1 v2 v3 HTX hcat hspl hhi hpart hcq hBq hstn hN hxt htt hn hlo
  go_enter Try.func30, Try.ntmps30
  go_wp2_with fail
  refine HL.out.mono ?_
  rintro e w' ⟨rfl, rfl⟩
  go_wp2_with fail
  rw [← hW0] at hc0 hc1 HT2 HA HB ⊢
  have b0 : W0.cell? ⟨w.heap.size, 0, none⟩ = some (.int .i64 0) := by rw [Lib.cell_of_heap HA.out]; rfl
  have b1 : W0.cell? ⟨w.heap.size, 1, none⟩ = some (.string ⟨#[]⟩) := by rw [Lib.cell_of_heap HA.out]; rfl
  have f0 : W0.frozen? ⟨w.heap.size, 0, none⟩ = false := Lib.frozen_of_heap HA.out 0
  have f1 : W0.frozen? ⟨w.heap.size, 1, none⟩ = false := Lib.frozen_of_heap HA.out 1
  clear hW0 HD
  generalize hbx : w.heap.size = bx at *
  have HBX := Hid.mk' hbx
  clear hbx
  go_region_with (first | (go_at_call 54; refine (HT2.out _ ⟨1, rfl⟩).mono ?_; rintro e w2 ⟨a, rfl, hcv, kk, hw2⟩; have hc0 : w2.cell? ⟨g, 0, none⟩ = some (.slice (some ⟨q, 0, none⟩) N cp0) := (by rw [hw2]; exact hc0); have hc1 : w2.cell? ⟨q, n, none⟩ = some (.int .i64 x) := (by rw [hw2]; exact hc1); have HA2 : Hid (w2.heap[bx]? = some (.cells #[.int .i64 0, .string ⟨#[]⟩] 24 (0, 0)) ∧ Below bx w w2) := (by rw [hw2]; exact ⟨HA.out, HB.out.drewN' kk⟩); have b0 : w2.cell? ⟨bx, 0, none⟩ = some (.int .i64 0) := (by rw [Lib.cell_of_heap HA2.out.1]; rfl); have b1 : w2.cell? ⟨bx, 1, none⟩ = some (.string ⟨#[]⟩) := (by rw [Lib.cell_of_heap HA2.out.1]; rfl); have f0 : w2.frozen? ⟨bx, 0, none⟩ = false := Lib.frozen_of_heap HA2.out.1 0; have f1 : w2.frozen? ⟨bx, 1, none⟩ = false := Lib.frozen_of_heap HA2.out.1 1; clear hw2))
  all_goals go_wp2_with fail
  all_goals refine bodyPost_ret (line_res x t true bx _ _ (setc_at (setc_at HA2.out.1 0 (.int .i64 x)) 1 (.string t)) rfl rfl) rfl ⟨rfl, ?_⟩
  all_goals rw [HBX.out]
  all_goals exact (HA2.out.2.setCell (p := ⟨bx, 0, none⟩) (Nat.le_refl _) _).setCell (p := ⟨bx, 1, none⟩) (Nat.le_refl _) _
end Go.Proofs.Ytobbobbfmiefeaa
