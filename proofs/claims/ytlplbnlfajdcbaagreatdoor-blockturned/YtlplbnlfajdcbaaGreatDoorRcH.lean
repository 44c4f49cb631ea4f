/-
  record: a Builder's Bytes. Conditions: as it says.
-/
import Derived.Test.YtlplbnlfajdcbaaGreatDoorRcG
import Derived.Test.YtlplbnlfajdcbaaGreatDoorMgC
namespace Rec
open Code Sums
theorem stN_take (p : Int) (l : List Int) (i : Nat) : (stN p (l.take i)).length ≤ (stN p l).length := by
  have h := stN_append p (l.take i) (l.drop i)
  rw [List.take_append_drop] at h
  rw [h, List.length_append]
  omega
theorem lnN_take (l : List Nat) (i : Nat) : (lnN (l.take i)).length ≤ (lnN l).length := by
  have h := lnN_append (l.take i) (l.drop i)
  rw [List.take_append_drop] at h
  rw [h, List.length_append]
  omega
theorem stN_next (l : List Int) (i : Nat) (h : i < l.length) : stN 0 (l.take (i + 1)) = stN 0 (l.take i) ++ uint (zig (l.getD i 0 - (l.take i).getLastD 0)) := by
  rw [List.take_succ_eq_append_getElem h, stN_append, stN, stN, List.append_nil, List.getD_eq_getElem?_getD, List.getElem?_eq_getElem h]
  rfl
theorem last_next (l : List Int) (i : Nat) (h : i < l.length) : (l.take (i + 1)).getLastD 0 = l.getD i 0 := by
  rw [List.take_succ_eq_append_getElem h, List.getLastD_concat, List.getD_eq_getElem?_getD, List.getElem?_eq_getElem h]
  rfl
theorem lnN_next (l : List Nat) (i : Nat) (h : i < l.length) : lnN (l.take (i + 1)) = lnN (l.take i) ++ uint (l.getD i 0) := by
  rw [List.take_succ_eq_append_getElem h, lnN_append, lnN, lnN, List.append_nil, List.getD_eq_getElem?_getD, List.getElem?_eq_getElem h]
  rfl
theorem stN_byt : ∀ (l : List Int) (p : Int), 0 ≤ p → p ≤ MS → (∀ x ∈ l, 0 ≤ x ∧ x ≤ MS) → ∀ z ∈ stN p l, z < 256
  | [], p, _, _, _, z, hz => by cases hz
  | x :: l, p, h0, h1, hl, z, hz => by
    have hx := hl x (List.mem_cons_self ..)
    have hms : MS = 253402300799999 := rfl
    rcases List.mem_append.1 hz with hz | hz
    · exact uint_byt _ (zig_lt _ (by omega) (by omega)) z hz
    · exact stN_byt l x hx.1 hx.2 (fun y hy => hl y (List.mem_cons_of_mem _ hy)) z hz
theorem lnN_byt : ∀ (l : List Nat), (∀ x ∈ l, x ≤ 8192) → ∀ z ∈ lnN l, z < 256
  | [], _, z, hz => by cases hz
  | x :: l, hl, z, hz => by
    have hx := hl x (List.mem_cons_self ..)
    rcases List.mem_append.1 hz with hz | hz
    · exact uint_byt _ (by omega) z hz
    · exact lnN_byt l (fun y hy => hl y (List.mem_cons_of_mem _ hy)) z hz
theorem txs_byt : ∀ (l : List Ln), ∀ z ∈ txs l, z < 256
  | [], z, hz => by cases hz
  | x :: l, z, hz => by
    rcases List.mem_append.1 hz with hz | hz
    · exact bl_byt _ z hz
    · exact txs_byt l z hz
theorem sts_le {l : List Ln} (h : ∀ x ∈ l, bad x = 0) : ∀ y ∈ sts l, 0 ≤ y ∧ y ≤ MS := by
  intro y hy
  obtain ⟨x, hx, rfl⟩ := List.mem_map.1 hy
  have := bad_le (h x hx)
  exact ⟨this.2.2.1, this.2.2.2⟩
theorem lns_le {l : List Ln} (h : ∀ x ∈ l, bad x = 0) : ∀ y ∈ lns l, y ≤ 8192 := by
  intro y hy
  obtain ⟨x, hx, rfl⟩ := List.mem_map.1 hy
  exact (bad_le (h x hx)).1
theorem pay_byt {l : List Ln} (h : ∀ x ∈ l, bad x = 0) (hl : l.length < 18446744073709551616) : ∀ z ∈ payF l, z < 256 := by
  intro z hz
  rcases List.mem_append.1 hz with hz | hz
  · exact uint_byt _ hl z hz
  · rcases List.mem_append.1 hz with hz | hz
    · exact stN_byt _ 0 (by decide) (by decide) (sts_le h) z hz
    · rcases List.mem_append.1 hz with hz | hz
      · exact lnN_byt _ (lns_le h) z hz
      · exact txs_byt _ z hz
theorem pay_ne (l : List Ln) : payF l ≠ [] := by
  intro h
  have h1 := congrArg List.length h
  have h2 := uint_pos l.length
  rw [pay_len] at h1
  unfold szF at h1
  rw [List.length_nil] at h1
  omega
theorem getD_le {l : List Int} (h : ∀ y ∈ l, 0 ≤ y ∧ y ≤ MS) (i : Nat) : 0 ≤ l.getD i 0 ∧ l.getD i 0 ≤ MS := by
  rw [List.getD_eq_getElem?_getD]
  rcases Nat.lt_or_ge i l.length with hi | hi
  · rw [List.getElem?_eq_getElem hi]
    exact h _ (List.getElem_mem _)
  · rw [List.getElem?_eq_none hi]
    exact ⟨by decide, by decide⟩
theorem takeLast_le {l : List Int} (h : ∀ y ∈ l, 0 ≤ y ∧ y ≤ MS) (i : Nat) (hi : i ≤ l.length) : 0 ≤ (l.take i).getLastD 0 ∧ (l.take i).getLastD 0 ≤ MS := by
  cases i with
  | zero =>
    rw [List.take_zero]
    exact ⟨by decide, by decide⟩
  | succ i =>
    rw [last_next l i hi]
    exact getD_le h i
theorem lns_at (l : List Ln) (n : Nat) (h : n < l.length) : (lns l).getD n 0 = (txs (l.take (n + 1))).length - (txs (l.take n)).length ∧ (txs (l.take n)).length ≤ (txs (l.take (n + 1))).length ∧ (txs (l.take (n + 1))).length ≤ (txs l).length := by
  have h1 := txs_at l n h
  have h2 := txs_split l (n + 1)
  have h3 : (lns l).getD n 0 = (txt l n).size := by
    unfold lns txt
    rw [List.getD_eq_getElem?_getD, List.getElem?_map, List.getD_eq_getElem?_getD, List.getElem?_eq_getElem h]
    rfl
  have h4 := congrArg List.length h1
  have h5 := congrArg List.length h2
  rw [List.length_append, bl_length] at h4
  rw [List.length_append] at h5
  omega
end Rec
namespace Go.Proofs.YtlplbnlfajdcbaaGreatDoor
open Go.RowKit
set_option linter.unusedVariables false
set_option maxHeartbeats 1000000 in
set_option maxRecDepth 100000 in
theorem bytes_any {B g : Nat} {L : List Rec.Ln} {w : World} (h : Bdr B g L w) :
    Calls Tryz.prog 51 #[.pointer (some ⟨g, 0, none⟩)] w fun e w' => e = .returned (.string (nums (Rec.payF L))) ∧ Below w.heap.size w w' := by
  have hok := h.ok
  have hsz := h.sz
  obtain ⟨sv, ev, tv, hw⟩ := h.ex
  have hlen := Rec.len_le L
  unfold Rec.szF at hsz
  have HNM : Hid (Rec.nmF L = (Rec.stN 0 (Rec.sts L)).length + (Rec.lnN (Rec.lns L)).length) := rfl
  obtain ⟨n, hn⟩ : ∃ n, n = L.length := ⟨_, rfl⟩
  have hsl : (Rec.sts L).length = n := by rw [Rec.sts_len, hn]
  have hll : (Rec.lns L).length = n := by rw [Rec.lns_len, hn]
  have hel : ((Rec.ens 0 L).map fun n : Nat => (n : Int)).length = n := by rw [List.length_map, Rec.ens_len, hn]
  have HSTS : Hid (∀ y ∈ Rec.sts L, 0 ≤ y ∧ y ≤ Rec.MS) := Rec.sts_le hok
  obtain ⟨U, HU⟩ : ∃ U, Hid (U = Code.uint n) := ⟨_, rfl⟩
  have hu10 : U.length ≤ 10 := by rw [HU.out]; exact Code.uint_len _ (by omega)
  have hu1 : 1 ≤ U.length := by rw [HU.out]; exact Code.uint_pos _
  obtain ⟨Z, HZ⟩ : ∃ Z, Hid (Z = U.length + Rec.nmF L + (Rec.txs L).length) := ⟨_, rfl⟩
  have hZ0 : 0 < Z := by rw [HZ.out]; omega
  have hZ1 : Z ≤ 131072 := by rw [HZ.out, HU.out, hn]; omega
  have hn1 : n ≤ 131072 := by omega
  obtain ⟨a0, cp0, rfl⟩ := row_shape hw.hs
  obtain ⟨a1, cp1, rfl⟩ := row_shape hw.he
  have HWB : Hid (∀ W, Below w.heap.size w W → Bw B g (Rec.sts L) ((Rec.ens 0 L).map fun n : Nat => (n : Int)) (Rec.txs L) (.slice a0 n cp0) (.slice a1 n cp1) tv (Rec.nmF L : Int) (Rec.mn L) (Rec.mx L) W) := fun W hb => by
    have := hw.below hb
    rw [hsl, hel] at this
    exact this
  have hgl := hw.lt
  have hal : Below w.heap.size w (w.alloc (.cells #[.pointer none, .slice none 0 0] 142)) := (Below.refl _ _).alloc (Nat.le_refl _) _
  have HBK : Hid ((w.alloc (.cells #[.pointer none, .slice none 0 0] 142)).heap[w.heap.size]? = some (.cells #[.pointer none, .slice none 0 0] 142 (0, 0))) := heap_alloc_new w _
  have HAL := Hid.mk' hal
  have HN := Hid.mk' hn
  have HOK := Hid.mk' hok
  have HSZ := Hid.mk' hsz
  have HLEN := Hid.mk' hlen
  have HSL := Hid.mk' hsl
  have HLL := Hid.mk' hll
  have HEL := Hid.mk' hel
  clear hal hw h hn hok hsz hlen hsl hll hel
  go_enter Tryz.func51, Tryz.ntmps51
  go_wp2_with fail
  refine (Size_any (HWB.out _ HAL.out) (by rw [HSL.out]; omega) (by have := HSZ.out; omega) (by have := HSZ.out; omega)).mono ?_
  rintro e w1 ⟨rfl, hb1⟩
  rw [HSL.out, ← HU.out, ← HZ.out]
  have HB1 : Hid (Below w.heap.size w w1) := HAL.out.trans ⟨hb1.os, hb1.tape, hb1.output, hb1.size, fun k hk => hb1.block k (by simp; omega)⟩
  have HK1 : Hid (w1.heap[w.heap.size]? = some (.cells #[.pointer none, .slice none 0 0] 142 (0, 0))) := (hb1.block _ (by simp)).trans HBK.out
  clear hb1 HBK HAL
  go_wp2_with fail
  refine (Grow_new w.heap.size w.heap.size Z w1 (Nat.le_refl _) HK1.out HB1.out.size (by omega) hZ0).mono ?_
  rintro e w2 ⟨rfl, hbl2, hb2⟩
  have HB2 := Hid.mk' (HB1.out.trans hb2)
  have HL2 := Hid.mk' hbl2
  clear hb2 hbl2 HB1 HK1
  go_wp2_with fail
  refine (Bw.len_any (HWB.out _ HB2.out)).mono ?_
  rintro e w' ⟨rfl, hw'⟩
  rw [hw', HSL.out]
  clear hw' w'
  have hnw : IntKind.u64.wrap (n : Int) = (n : Int) := by rw [IntKind.wrap_u64]; omega
  go_wp2_with fail
  try rw [hnw]
  refine (uint_any n _ (by omega)).mono ?_
  rintro e w3 ⟨rfl, hb3⟩
  rw [← HU.out]
  have HB3 := Hid.mk' (HB2.out.trans ⟨hb3.os, hb3.tape, hb3.output, hb3.size, fun k hk => hb3.block k (Nat.lt_of_lt_of_le hk HB2.out.size)⟩)
  have HL3 := Hid.mk' (HL2.out.below hb3)
  have hus := nums_size U
  have hub : Sums.bl (nums U) = U := bl_nums U (by rw [HU.out]; exact Code.uint_byt _ (by omega))
  clear hb3 HB2 HL2 hnw
  go_wp2_with fail
  refine (wstr_any w.heap.size w.heap.size _ [] (nums U) w3 HL3.out (.inr rfl) (by simp; omega) HB3.out.size).mono ?_
  rintro e w4 ⟨rfl, hl4, hb4, _⟩
  rw [hub, List.nil_append] at hl4
  have HB4 := Hid.mk' (HB3.out.trans hb4)
  have HL4 := Hid.mk' hl4
  have c0 : w4.cell? ⟨g, 0, none⟩ = some (.slice a0 n cp0) := by rw [(HWB.out _ HB4.out).cell]; rfl
  clear hl4 hb4 HB3 HL3 hub hus
  go_wp2_with fail
  go_loopw [4, 21] (fun s4 s21 wr => ∃ i : Nat, s21 = .int .i64 (i : Int) ∧ i ≤ n ∧ s4 = .int .i64 (((Rec.sts L).take i).getLastD 0) ∧ Bld w.heap.size w.heap.size (own w.heap.size) (U ++ Rec.stN 0 ((Rec.sts L).take i)) wr ∧ Below w.heap.size w wr) (fun _ s21 _ => n - (intOf s21).toNat)
  case atStart => exact ⟨0, rfl, by omega, rfl, by simpa [Rec.stN] using HL4.out, HB4.out⟩
  case round =>
    obtain ⟨i, rfl, hin, rfl, hl, hb⟩ := hrel
    have HL := Hid.mk' hl
    have HB := Hid.mk' hb
    have HP := Rec.takeLast_le HSTS.out i (by rw [HSL.out]; exact hin)
    have hst1 := Rec.stN_take 0 (Rec.sts L) i
    clear hl hb HL4 HB4 c0
    obtain ⟨p, hp⟩ : ∃ p, p = ((Rec.sts L).take i).getLastD 0 := ⟨_, rfl⟩
    rw [← hp] at HP ⊢
    have hp0 : 0 ≤ p := HP.1
    have hp1 : p ≤ 253402300799999 := HP.2
    have HPP := Hid.mk' hp
    clear HP hp
    by_cases hlt : i < n
    · have hs := (HWB.out _ HB.out).hs
      rw [HSL.out] at hs
      obtain ⟨q, hq, _, _, hc⟩ := row_some hs (by omega)
      have hc1 := hc i hlt
      have HY := Rec.getD_le HSTS.out i
      obtain ⟨y, hy⟩ : ∃ y, y = (Rec.sts L).getD i 0 := ⟨_, rfl⟩
      rw [← hy] at hc1 HY
      have hy0 : 0 ≤ y := HY.1
      have hy1 : y ≤ 253402300799999 := HY.2
      have HYY := Hid.mk' hy
      have i0 : (0 : Int) ≤ (i : Int) := by omega
      have i1 : (i : Int) < (n : Int) := by omega
      have hxy : IntKind.i64.wrap (y - p) = y - p := by rw [IntKind.wrap_i64]; omega
      have HLT := Hid.mk' hlt
      have HIN := Hid.mk' hin
      have HST1 := Hid.mk' hst1
      have l1 := Code.uint_len (Code.zig (y - p)) (Code.zig_lt _ (by omega) (by omega))
      have HUB : Hid (Sums.bl (nums (Code.uint (Code.zig (y - p)))) = Code.uint (Code.zig (y - p)) ∧ (nums (Code.uint (Code.zig (y - p)))).size = (Code.uint (Code.zig (y - p))).length) := ⟨bl_nums _ (Code.uint_byt _ (Code.zig_lt _ (by omega) (by omega))), nums_size _⟩
      subst hq
      clear hc HY hy hs hlt hin hst1
      go_wp2_with fail
      try rw [hxy]
      refine (int_any (y - p) _ (by omega) (by omega)).mono ?_
      rintro e w5 ⟨rfl, hb5⟩
      have HB5 := Hid.mk' (HB.out.trans ⟨hb5.os, hb5.tape, hb5.output, hb5.size, fun k hk => hb5.block k (Nat.lt_of_lt_of_le hk HB.out.size)⟩)
      have HL5 := Hid.mk' (HL.out.below hb5)
      clear hb5 HB HL hc1
      go_wp2_with fail
      refine (wstr_any w.heap.size w.heap.size _ _ (nums (Code.uint (Code.zig (y - p)))) w5 HL5.out (.inr rfl) (by have := HUB.out.2; have := HST1.out; have := HNM.out; have := HSZ.out; simp only [List.length_append]; omega) HB5.out.size).mono ?_
      rintro e w6 ⟨rfl, hl6, hb6, _⟩
      rw [HUB.out.1] at hl6
      have HB6 := Hid.mk' (HB5.out.trans hb6)
      have HL6 := Hid.mk' hl6
      clear hl6 hb6 HB5 HL5
      go_wp2_with fail
      go_roundw
      case rel =>
        refine ⟨i + 1, by go_num, HLT.out, ?_, ?_, HB6.out⟩
        · rw [Rec.last_next _ _ (by rw [HSL.out]; exact HLT.out), HYY.out]
        · rw [Rec.stN_next _ _ (by rw [HSL.out]; exact HLT.out), ← HPP.out, ← HYY.out, ← List.append_assoc]
          exact HL6.out
      case measure => have := HLT.out; simp [intOf]; omega
    · obtain rfl : i = n := by omega
      have htk : (Rec.sts L).take i = Rec.sts L := List.take_of_length_le (by rw [HSL.out]; exact Nat.le_refl _)
      have HL4 : Hid (Bld w.heap.size w.heap.size (own w.heap.size) (U ++ Rec.stN 0 (Rec.sts L)) wr) := by
        have := HL.out
        rw [htk] at this
        exact this
      have HB4 := HB
      have d1 : wr.cell? ⟨g, 1, none⟩ = some (.slice a1 i cp1) := by rw [(HWB.out _ HB4.out).cell]; rfl
      have HST1 := Hid.mk' hst1
      clear HL HB htk hst1 hlt hin HPP hp0 hp1
      go_wp2_with fail
      go_loopw [37] (fun s37 wr => ∃ j : Nat, s37 = .int .i64 (j : Int) ∧ j ≤ i ∧ Bld w.heap.size w.heap.size (own w.heap.size) (U ++ Rec.stN 0 (Rec.sts L) ++ Rec.lnN ((Rec.lns L).take j)) wr ∧ Below w.heap.size w wr) (fun s37 _ => i - (intOf s37).toNat)
      case atStart => exact ⟨0, rfl, by omega, by simpa [Rec.lnN] using HL4.out, HB4.out⟩
      case round =>
        obtain ⟨j, rfl, hjn, hl, hb⟩ := hrel
        have HL := Hid.mk' hl
        have HB := Hid.mk' hb
        have hln1 := Rec.lnN_take (Rec.lns L) j
        clear hl hb HL4 HB4 d1
        by_cases hlt : j < i
        · obtain ⟨v1, v2, v3⟩ := Rec.lns_at L j (by rw [← HN.out]; exact hlt)
          have hle8 : (Rec.lns L).getD j 0 ≤ 8192 := by
            rw [List.getD_eq_getElem?_getD, List.getElem?_eq_getElem (by rw [HLL.out]; exact hlt)]
            exact Rec.lns_le HOK.out _ (List.getElem_mem _)
          obtain ⟨z, hz⟩ : ∃ z, z = (Rec.lns L).getD j 0 := ⟨_, rfl⟩
          rw [← hz] at v1 hle8
          have HZZ := Hid.mk' hz
          have i0 : (0 : Int) ≤ (j : Int) := by omega
          have i1 : (j : Int) < (i : Int) := by omega
          have hzw : IntKind.u64.wrap (z : Int) = (z : Int) := by rw [IntKind.wrap_u64]; omega
          have HLT := Hid.mk' hlt
          have HLN1 := Hid.mk' hln1
          have l1 := Code.uint_len z (by omega)
          have HUB : Hid (Sums.bl (nums (Code.uint z)) = Code.uint z ∧ (nums (Code.uint z)).size = (Code.uint z).length) := ⟨bl_nums _ (Code.uint_byt _ (by omega)), nums_size _⟩
          obtain ⟨lo, hlo⟩ : ∃ lo, lo = (Rec.txs (L.take j)).length := ⟨_, rfl⟩
          obtain ⟨hi, hhi⟩ : ∃ hi, hi = (Rec.txs (L.take (j + 1))).length := ⟨_, rfl⟩
          rw [← hlo, ← hhi] at v1 v2
          rw [← hhi] at v3
          have HV := Hid.mk' v1
          have HTX := Hid.mk' (text_any (HWB.out _ HB.out) j lo hi (by rw [HEL.out]; exact hlt) (by rw [HEL.out]; omega) (by have := HSZ.out; omega) (by rw [ensI_at L j (by rw [← HN.out]; exact hlt), hhi]) (fun h0 => by rw [hlo, h0]; rfl) (fun h0 => by rw [ensI_at L (j - 1) (by rw [← HN.out]; omega), hlo, show j - 1 + 1 = j by omega]) v2 v3)
          rw [← HV.out] at HTX
          clear hlo hhi v1 v2 v3 hz hlt hln1 hjn
          go_wp2_with fail
          refine HTX.out.mono ?_
          rintro e w' ⟨⟨a, rfl, _⟩, kk, hw'⟩
          have HB5 : Hid (Below w.heap.size w w') := by rw [hw']; exact HB.out.drewN' kk
          have HL5 : Hid (Bld w.heap.size w.heap.size (own w.heap.size) (U ++ Rec.stN 0 (Rec.sts L) ++ Rec.lnN ((Rec.lns L).take j)) w') := by rw [hw']; exact HL.out.below ((Below.refl _ _).drewN' kk)
          clear hw' HB HL HTX
          go_wp2_with fail
          try rw [hzw]
          refine (uint_any z _ (by omega)).mono ?_
          rintro e w6 ⟨rfl, hb6⟩
          have HB6 := Hid.mk' (HB5.out.trans ⟨hb6.os, hb6.tape, hb6.output, hb6.size, fun k hk => hb6.block k (Nat.lt_of_lt_of_le hk HB5.out.size)⟩)
          have HL6 := Hid.mk' (HL5.out.below hb6)
          clear hb6 HB5 HL5
          go_wp2_with fail
          refine (wstr_any w.heap.size w.heap.size _ _ (nums (Code.uint z)) w6 HL6.out (.inr rfl) (by have := HUB.out.2; have := HST1.out; have := HNM.out; have := HSZ.out; have := HLN1.out; simp only [List.length_append]; omega) HB6.out.size).mono ?_
          rintro e w7 ⟨rfl, hl7, hb7, _⟩
          rw [HUB.out.1] at hl7
          have HB7 := Hid.mk' (HB6.out.trans hb7)
          have HL7 := Hid.mk' hl7
          clear hl7 hb7 HB6 HL6
          go_wp2_with fail
          go_roundw
          case rel =>
            refine ⟨j + 1, by go_num, HLT.out, ?_, HB7.out⟩
            rw [Rec.lnN_next _ _ (by rw [HLL.out]; exact HLT.out), ← HZZ.out, ← List.append_assoc]
            exact HL7.out
          case measure => have := HLT.out; simp [intOf]; omega
        · obtain rfl : j = i := by omega
          have htk : (Rec.lns L).take j = Rec.lns L := List.take_of_length_le (by rw [HLL.out]; exact Nat.le_refl _)
          have HL8 : Hid (Bld w.heap.size w.heap.size (own w.heap.size) (U ++ Rec.stN 0 (Rec.sts L) ++ Rec.lnN (Rec.lns L)) wr) := by
            have := HL.out
            rw [htk] at this
            exact this
          have HPAY : Hid (U ++ Rec.stN 0 (Rec.sts L) ++ Rec.lnN (Rec.lns L) ++ Rec.txs L = Rec.payF L) := by
            unfold Rec.payF Hid
            rw [HU.out, ← HN.out]
            simp only [List.append_assoc]
          have hpb := Rec.pay_byt HOK.out (by rw [← HN.out]; omega)
          have HPB := Hid.mk' hpb
          have HT := Hid.mk' (HWB.out _ HB.out).ht
          have d2 : wr.cell? ⟨g, 2, none⟩ = some tv := by rw [(HWB.out _ HB.out).cell]; rfl
          clear hpb htk HL hln1 hlt hjn
          rcases byv_nil_own HT.out rfl with ⟨rfl, h0⟩ | ⟨q, c, rfl, hcell⟩
          · have HT0 := Hid.mk' h0
            clear h0
            go_wp2_with fail
            refine (wmany0_any w.heap.size w.heap.size _ wr HL8.out).mono ?_
            rintro e w9 ⟨rfl, hl9, hb9⟩
            have HB9 := Hid.mk' (HB.out.trans hb9)
            have HL9 : Hid (Bld w.heap.size w.heap.size (own w.heap.size) (Rec.payF L) w9) := by
              have e1 := HPAY.out
              rw [HT0.out, List.append_nil] at e1
              rw [← e1]
              exact hl9
            clear hl9 hb9 HL8 HB HT
            go_wp2_with fail
            refine (str_some w.heap.size w.heap.size _ (Rec.payF L) w9 HL9.out (Rec.pay_ne L) HPB.out).mono ?_
            rintro e w10 ⟨rfl, hb10⟩
            go_wp2_with fail
            go_ret
            exact ⟨rfl, HB9.out.trans hb10⟩
          · have HC := Hid.mk' hcell
            clear hcell
            go_wp2_with fail
            refine (wmany2_any w.heap.size w.heap.size _ (Rec.txs L) q c wr HL8.out HC.out (by have := HSZ.out; have := HNM.out; simp only [List.length_append]; omega) HB.out.size).mono ?_
            rintro e w9 ⟨rfl, hl9, hb9, _⟩
            rw [HPAY.out] at hl9
            have HB9 := Hid.mk' (HB.out.trans hb9)
            have HL9 := Hid.mk' hl9
            clear hl9 hb9 HL8 HB HT HC
            go_wp2_with fail
            refine (str_some w.heap.size w.heap.size _ (Rec.payF L) w9 HL9.out (Rec.pay_ne L) HPB.out).mono ?_
            rintro e w10 ⟨rfl, hb10⟩
            go_wp2_with fail
            go_ret
            exact ⟨rfl, HB9.out.trans hb10⟩
end Go.Proofs.YtlplbnlfajdcbaaGreatDoor
