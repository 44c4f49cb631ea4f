/-
  The walk of the law CodeBack: whatever things and text it is given it returns true, and of what was there nothing turns. Conditions: texts no longer than a text that is read can be; the things' cells hold what a Thing holds.
-/
import Derived.Test.YthmaaeibdcoemaaBackC
namespace Go.Proofs.Ythmaaeibdcoemaa
open Go.RowKit
attribute [local go_sem ↓] Go.wp_at_zero Go.wp_at_succ
set_option linter.unusedVariables false
structure Th where
  k : Int
  n : Nat
  i : Int
  s : ByteArray
  d : Int

def Th.bytes (t : Th) : ByteArray := thg t.k t.n t.i t.s t.d
structure Th.Ok (t : Th) : Prop where
  k0 : -9223372036854775808 ≤ t.k
  k1 : t.k ≤ 9223372036854775807
  n1 : t.n < 18446744073709551616
  i0 : -9223372036854775808 ≤ t.i
  i1 : t.i ≤ 9223372036854775807
  s1 : t.s.size ≤ 1125899906842624
  d0 : -9223372036854775808 ≤ t.d
  d1 : t.d ≤ 9223372036854775807
def cat (T : Nat → Th) : Nat → ByteArray
  | 0 => ⟨#[]⟩
  | j + 1 => cat T j ++ (T j).bytes
theorem cat_succ (T : Nat → Th) (j : Nat) : cat T (j + 1) = cat T j ++ (T j).bytes := rfl
theorem cat_size (T : Nat → Th) : ∀ j, (∀ i, i < j → (T i).Ok) → (cat T j).size ≤ 4106 * j
  | 0, _ => Nat.le_refl 0
  | j + 1, h => by
      have h1 := cat_size T j fun i hi => h i (by omega)
      have ho := h j (by omega)
      have h2 := (thg_size (T j).k (T j).n (T j).i (T j).s (T j).d ho.n1 ho.i0 ho.i1).2
      have h3 : (T j).bytes.size ≤ 4106 := h2
      rw [cat_succ, ByteArray.size_append]
      omega
theorem cat_split (T : Nat → Th) (i : Nat) : ∀ m, i < m → ∃ Q, Sums.bl (cat T m) = Sums.bl (cat T i) ++ (Sums.bl (T i).bytes ++ Q)
  | 0, h => by omega
  | m + 1, h => by
      by_cases he : i = m
      · subst he
        exact ⟨[], by rw [cat_succ, Sums.bl_append, List.append_nil]⟩
      · obtain ⟨Q, hQ⟩ := cat_split T i m (by omega)
        exact ⟨Q ++ Sums.bl (T m).bytes, by rw [cat_succ, Sums.bl_append, hQ, List.append_assoc, List.append_assoc]⟩
theorem cat_le (T : Nat → Th) (i m : Nat) (h : i ≤ m) : (cat T i).size ≤ (cat T m).size := by
  by_cases he : i = m
  · rw [he]; exact Nat.le_refl _
  · obtain ⟨Q, hQ⟩ := cat_split T i m (by omega)
    rw [← Sums.bl_length, ← Sums.bl_length, hQ, List.length_append]
    omega
theorem row_below {B n : Nat} {e : TypeId} {v : Value} {xs : List Value} {a b : World} (h : a.ownsRow B e 1 v n xs) (hb : Below a.heap.size a b) : b.ownsRow B e 1 v n xs :=
  ⟨h.1, h.2.imp id fun ⟨g, cap, cur, e1, e2, e3, r⟩ => ⟨g, cap, cur, e1, e2, (hb.block g (Array.getElem?_eq_some_iff.1 e3).1).trans e3, r⟩⟩
/-- the places behind the things, as cells -/
def ends (T : Nat → Th) (m : Nat) : List Value := (List.range m).map fun j => Value.int .i64 (((cat T (j + 1)).size : Nat) : Int)
theorem ends_succ (T : Nat → Th) (m : Nat) : ends T (m + 1) = ends T m ++ [Value.int .i64 (((cat T (m + 1)).size : Nat) : Int)] := by
  unfold ends
  rw [List.range_succ, List.map_append]
  rfl
theorem infoI : (Try.prog.info? 3).map (fun i => (i.zero, i.size, i.bytes)) = some (some (.int .i64 0), 1, 8) := by kernel_rfl
theorem own_relI {w wr w1 : World} {v : Value} {B n : Nat} {xs : List Value} {o : Obj} (hB : B ≤ wr.heap.size) (hown : wr.ownsRow B 3 1 v n xs) (hb : Below B w wr) (hg : (wr.alloc o).grownBy w1 v.ownBlock) : Below B w w1 :=
  (hb.alloc hB o).grown hg (by simp; omega) (fun k hk => (hown.lt k hk).1)
theorem not_empty {t : ByteArray} (h : 1 ≤ t.size) : t.toList.isEmpty = false := by
  cases he : t.toList.isEmpty with
  | false => rfl
  | true =>
    rw [ByteArray.toList_eq, List.isEmpty_iff] at he
    have h2 : t.data.toList.length = t.size := rfl
    rw [he] at h2
    simp at h2
    omega
set_option maxRecDepth 100000 in
set_option maxHeartbeats 4000000 in
theorem codeBack_any (p : Option Addr) (len cap : Nat) (T : Nat → Th) (rest : ByteArray) (w : World) (hl : len ≤ 140737488351232) (hK : ∀ i, i < len → (T i).Ok)
    (hc : ∀ i, i < len → ∃ g off, p = some ⟨g, off, none⟩ ∧ w.cell? ⟨g, off + i * 5, none⟩ = some (.int .i64 (T i).k) ∧ w.cell? ⟨g, off + i * 5 + 1, none⟩ = some (.int .u64 ((T i).n : Int)) ∧ w.cell? ⟨g, off + i * 5 + 2, none⟩ = some (.int .i64 (T i).i) ∧ w.cell? ⟨g, off + i * 5 + 3, none⟩ = some (.string (T i).s) ∧ w.cell? ⟨g, off + i * 5 + 4, none⟩ = some (.int .i64 (T i).d))
    (h2 : rest.size ≤ 140737488351232) :
    Calls Try.prog 6 #[.slice p len cap, .string rest] w fun e w' => e = .returned (.bool true) ∧ Below w.heap.size w w' := by
  obtain ⟨j0, hj, hz0, hz1, hz2⟩ := info_parts infoI
  have HKK := Hid.mk' hK
  have HCC := Hid.mk' hc
  have H2 := Hid.mk' h2
  have l1 : (len : Int) ≤ 140737488351232 := by omega
  clear hK hc h2 hl
  go_enter Try.func6, Try.ntmps6
  go_wp2_with fail
  refine (known_any w).mono ?_
  rintro e w1 ⟨rfl, hb1⟩
  have HB1 := Hid.mk' hb1
  clear hb1
  go_wp2_with fail
  have HO1 : Hid (w1.ownsRow w.heap.size 3 1 (.slice none 0 0) 0 (ends T 0)) := ⟨rfl, .inl ⟨rfl, rfl⟩⟩
  go_loopw [6, 7, 8] (fun all' en' i' wr => ∃ i : Nat, all' = .string (cat T i) ∧ i' = .int .i64 (i : Int) ∧ i ≤ len ∧ i ≤ 100 ∧ wr.ownsRow w.heap.size 3 1 en' i (ends T i) ∧ Below w.heap.size w wr) (fun _ _ i' _ => 100 - (intOf i').toNat)
  case atStart => exact ⟨0, rfl, rfl, by omega, by omega, HO1.out, HB1.out⟩
  case round =>
    obtain ⟨i, rfl, rfl, hil, hi3, how, hb⟩ := hrel
    have HIL := Hid.mk' hil
    have HI3 := Hid.mk' hi3
    have HOW := Hid.mk' how
    have HB := Hid.mk' hb
    have HCZ : Hid ((cat T i).size ≤ 410600) := by
      unfold Hid
      have := cat_size T i fun j hj => HKK.out j (by omega)
      omega
    clear hil hi3 how hb HB1 HO1
    by_cases hlt : i < len ∧ i < 100
    · obtain ⟨hlt, hlt3⟩ := hlt
      obtain ⟨gS, off, rfl, s0, s1, s2, s3, s4⟩ := HCC.out i hlt
      have hSl : gS < w.heap.size := by
        rcases Nat.lt_or_ge gS w.heap.size with h | h
        · exact h
        · simp [World.cell?, Array.getElem?_eq_none h] at s0
      have t0 := (HB.out.cell (p := ⟨gS, off + i * 5, none⟩) hSl).trans s0
      have t1 := (HB.out.cell (p := ⟨gS, off + i * 5 + 1, none⟩) hSl).trans s1
      have t2 := (HB.out.cell (p := ⟨gS, off + i * 5 + 2, none⟩) hSl).trans s2
      have t3 := (HB.out.cell (p := ⟨gS, off + i * 5 + 3, none⟩) hSl).trans s3
      have t4 := (HB.out.cell (p := ⟨gS, off + i * 5 + 4, none⟩) hSl).trans s4
      have HOK := Hid.mk' (HKK.out i hlt)
      have i1 : (i : Int) < (len : Int) := by omega
      have i2 : (i : Int) < 100 := by omega
      have i0 : (0 : Int) ≤ (i : Int) := by omega
      have HLT := Hid.mk' hlt
      have HLT3 := Hid.mk' hlt3
      clear hlt hlt3 s0 s1 s2 s3 s4
      go_wp2_with fail
      refine (written_any (T i).k (T i).n (T i).i (T i).s (T i).d wr HOK.out.k0 HOK.out.k1 HOK.out.n1 HOK.out.i0 HOK.out.i1 HOK.out.s1 HOK.out.d0 HOK.out.d1).mono ?_
      rintro e w2 ⟨rfl, hb2⟩
      have HB2 : Hid (Below w.heap.size w w2) := HB.out.trans (hb2.mono HB.out.size)
      have hown := row_below HOW.out hb2
      have HTZ := Hid.mk' (thg_size (T i).k (T i).n (T i).i (T i).s (T i).d HOK.out.n1 HOK.out.i0 HOK.out.i1)
      obtain ⟨t, HTT⟩ : ∃ t, Hid (t = thg (T i).k (T i).n (T i).i (T i).s (T i).d) := ⟨_, Hid.mk' rfl⟩
      rw [← HTT.out] at HTZ ⊢
      have HCS : Hid (cat T (i + 1) = cat T i ++ t) := by unfold Hid; rw [HTT.out]; rfl
      have HES : Hid (ends T (i + 1) = ends T i ++ [Value.int .i64 (((cat T i ++ t).size : Nat) : Int)]) := by unfold Hid; rw [ends_succ, HCS.out]
      have z1 : (t.size : Int) ≤ 4106 := by have := HTZ.out; omega
      have z2 : ((cat T i).size : Int) ≤ 410600 := by have := HCZ.out; omega
      have hi101 : i + 1 ≤ 101 := by have := HLT3.out; omega
      have hne := not_empty HTZ.out.1
      clear hb2
      go_wp2_with (first | (at_builtin; refine wpList_append_own _ rfl _ _ 48 rfl w.heap.size 3 j0 (.int .i64 0) 1 8 Try.underlying48 hj hz0 hz1 hz2 rfl (by decide) _ _ _ rfl (hown.alloc _) ⟨w2.heap.size, 0, none⟩ 1 1 [.int .i64 (((cat T i).size : Int) + (t.size : Int))] rfl rfl (cell_one_new _ _ _) (by simp [Value.oneCell']) (by unfold maxLen; omega) (by omega) (by have := HB2.out.size; simp; omega) ?_; intro v' w6 hown' hgrow _; have R2 := Hid.mk' (own_relI HB2.out.size hown HB2.out hgrow); have R1 := Hid.mk' hown'; clear hown' hgrow hown) | fail)
      go_roundw
      case rel =>
        refine ⟨i + 1, by rw [HCS.out], by go_num, HLT.out, HLT3.out, ?_, R2.out⟩
        rw [HES.out, ByteArray.size_append]
        push_cast
        exact R1.out
      case measure => have := HLT3.out; simp [intOf]; omega
    · rename World => wo
      have i0 : (0 : Int) ≤ (i : Int) := by omega
      obtain ⟨pe, ce, rfl, hpe⟩ : ∃ pe ce, u7 = .slice pe i ce ∧ ∀ j, j < i → ∃ ge, pe = some ⟨ge, 0, none⟩ ∧ ge < wo.heap.size ∧ wo.cell? ⟨ge, j, none⟩ = some (.int .i64 (((cat T (j + 1)).size : Nat) : Int)) := by
        have hOW := HOW.out
        rcases hOW.2 with ⟨rfl, h0⟩ | ⟨ge, ce, cur, rfl, hbg, hg, _⟩
        · exact ⟨none, 0, by rw [h0], fun j hj => by omega⟩
        · refine ⟨some ⟨ge, 0, none⟩, ce, rfl, fun j hj => ⟨ge, rfl, (Array.getElem?_eq_some_iff.1 hg).1, ?_⟩⟩
          rw [hOW.cellAt j (by omega)]
          unfold ends
          rw [List.getElem?_map, List.getElem?_range hj]
          rfl
      have HPE := Hid.mk' hpe
      have z2 : ((cat T i).size : Int) ≤ 410600 := by have := HCZ.out; omega
      have z3 : (rest.size : Int) ≤ 140737488351232 := by have := H2.out; omega
      have hq : ¬ ((i : Int) < (len : Int)) ∨ ((i : Int) < (len : Int) ∧ ¬ (i : Int) < 100) := by omega
      clear hlt hpe HOW
      rcases hq with hq | ⟨hq, hq3⟩
      · go_wp2_with fail
        obtain ⟨S, HSS⟩ : ∃ S, Hid (S = cat T i ++ rest) := ⟨_, Hid.mk' rfl⟩
        have HSZ : Hid (S.size = (cat T i).size + rest.size) := by unfold Hid; rw [HSS.out, ByteArray.size_append]
        rw [← HSS.out]
        refine (read_any S wo).mono ?_
        rintro e w2 ⟨g, hg, rfl, hr, hb2⟩
        have HG := Hid.mk' hg
        have HR := Hid.mk' hr
        have HB2 := Hid.mk' hb2
        clear hg hr hb2
        go_wp2_with fail
        go_loopw [12] (fun j' wr => ∃ j : Nat, j' = .int .i64 (j : Int) ∧ j ≤ i ∧ Rdr g S (cat T j).size wr ∧ Below wo.heap.size wo wr) (fun j' _ => i - (intOf j').toNat)
        case atStart => exact ⟨0, rfl, by omega, HR.out, HB2.out⟩
        case round =>
          obtain ⟨j, rfl, hji, hr, hb⟩ := hrel
          have HR := Hid.mk' hr
          have HBZ := Hid.mk' hb
          have HJI := Hid.mk' hji
          clear hji hr hb HB2
          have HCJ : Hid ((cat T j).size ≤ (cat T i).size) := cat_le T j i HJI.out
          by_cases hlt : j < i
          · have hjl : j < len := by have := HIL.out; omega
            obtain ⟨gS, off, rfl, s0, s1, s2, s3, s4⟩ := HCC.out j hjl
            have hSl : gS < w.heap.size := by
              rcases Nat.lt_or_ge gS w.heap.size with h | h
              · exact h
              · simp [World.cell?, Array.getElem?_eq_none h] at s0
            have hSr : gS < wo.heap.size := Nat.lt_of_lt_of_le hSl HB.out.size
            have t0 := (HBZ.out.cell (p := ⟨gS, off + j * 5, none⟩) hSr).trans ((HB.out.cell (p := ⟨gS, off + j * 5, none⟩) hSl).trans s0)
            have t1 := (HBZ.out.cell (p := ⟨gS, off + j * 5 + 1, none⟩) hSr).trans ((HB.out.cell (p := ⟨gS, off + j * 5 + 1, none⟩) hSl).trans s1)
            have t2 := (HBZ.out.cell (p := ⟨gS, off + j * 5 + 2, none⟩) hSr).trans ((HB.out.cell (p := ⟨gS, off + j * 5 + 2, none⟩) hSl).trans s2)
            have t3 := (HBZ.out.cell (p := ⟨gS, off + j * 5 + 3, none⟩) hSr).trans ((HB.out.cell (p := ⟨gS, off + j * 5 + 3, none⟩) hSl).trans s3)
            have t4 := (HBZ.out.cell (p := ⟨gS, off + j * 5 + 4, none⟩) hSr).trans ((HB.out.cell (p := ⟨gS, off + j * 5 + 4, none⟩) hSl).trans s4)
            have HOK := Hid.mk' (HKK.out j hjl)
            obtain ⟨ge, rfl, hge, hce⟩ := HPE.out j hlt
            have HGE := Hid.mk' hge
            have HCE := Hid.mk' hce
            obtain ⟨Q, HQ⟩ : ∃ Q, Hid (Sums.bl S = Sums.bl (cat T j) ++ (Sums.bl (thg (T j).k (T j).n (T j).i (T j).s (T j).d) ++ Q)) := by
              obtain ⟨Q, hQ⟩ := cat_split T j i hlt
              refine ⟨Q ++ Sums.bl rest, ?_⟩
              unfold Hid
              rw [HSS.out, Sums.bl_append, hQ, List.append_assoc, List.append_assoc]
              rfl
            have HCS : Hid ((cat T j).size + (thg (T j).k (T j).n (T j).i (T j).s (T j).d).size = (cat T (j + 1)).size) := by unfold Hid; rw [cat_succ, ByteArray.size_append]; rfl
            have HCM : Hid ((cat T (j + 1)).size ≤ (cat T i).size) := cat_le T (j + 1) i hlt
            have i1 : (j : Int) < (i : Int) := by omega
            have i2 : (j : Int) < (len : Int) := by omega
            have ij : (0 : Int) ≤ (j : Int) := by omega
            have HLT := Hid.mk' hlt
            clear hlt hjl s0 s1 s2 s3 s4 hge hce
            go_wp2_with fail
            refine (lawRead_any g S (cat T j).size (Sums.bl (cat T j)) Q (T j).k (T j).n (T j).i (T j).s (T j).d wr HR.out HQ.out (Sums.bl_length _) (by have := HSZ.out; have := HCZ.out; have := H2.out; omega) HOK.out.k0 HOK.out.k1 HOK.out.n1 HOK.out.i0 HOK.out.i1 HOK.out.s1 HOK.out.d0 HOK.out.d1).mono ?_
            rintro e wx ⟨rfl, hrx, hox⟩
            rw [HCS.out] at hrx
            have HRX := Hid.mk' hrx
            have HBX : Hid (Below wo.heap.size wo wx) := HBZ.out.trans (hox.below HG.out HBZ.out.size)
            have e0 := (HBX.out.cell (p := ⟨ge, j, none⟩) HGE.out).trans HCE.out
            clear hrx hox t0 t1 t2 t3 t4
            obtain ⟨b, HBB⟩ : ∃ b, Hid (b = (cat T (j + 1)).size) := ⟨_, Hid.mk' rfl⟩
            rw [← HBB.out] at e0
            have HRB : Hid (Rdr g S b wx) := by unfold Hid; rw [HBB.out]; exact HRX.out
            obtain ⟨r, HRR⟩ : ∃ r, Hid (r = S.size - b) := ⟨_, Hid.mk' rfl⟩
            have hle : ((r : Int) = ((cat T i).size : Int) - (b : Int) + (rest.size : Int)) := by have := HRR.out; have := HBB.out; have := HCM.out; have := HSZ.out; omega
            have HLF : Hid (∀ W, Rdr g S b W → Calls Try.prog 30 #[.pointer (some ⟨g, 0, none⟩)] W fun e w' => e = .returned (.int .i64 (r : Int)) ∧ ∃ n, w' = W.drewN n) := by
              intro W h
              rw [HRR.out]
              exact left_any g S b W h (by have := HBB.out; have := HCM.out; have := HSZ.out; omega) (by have := HSZ.out; have := HCZ.out; have := H2.out; omega)
            have hx1 : IntKind.i64.wrap (((cat T i).size : Int) - (b : Int)) = ((cat T i).size : Int) - (b : Int) := by
              have h1 := HBB.out; have h2 := HCM.out; have h3 := HCZ.out
              rw [← h1] at h2
              rw [IntKind.wrap_i64]; omega
            have hx2 : IntKind.i64.wrap (((cat T i).size : Int) - (b : Int) + (rest.size : Int)) = ((cat T i).size : Int) - (b : Int) + (rest.size : Int) := by
              have h1 := HBB.out; have h2 := HCM.out; have h3 := HCZ.out; have h4 := H2.out
              rw [← h1] at h2
              rw [IntKind.wrap_i64]; omega
            go_wp2_with fail
            go_quiet ((first | (go_at_call 26; exact Calls.quiet_of_same (at_any g S b _ (by exact HRB.out))) | (go_at_call 30; exact Calls.quiet_of (HLF.out _ (by exact HRB.out)))))
            go_wp2_with fail
            go_roundw
            case rel => exact ⟨j + 1, by go_num, HLT.out, (show Rdr g S (cat T (j + 1)).size (wx.drewN nq) from HRX.out), HBX.out.drewN' nq⟩
            case measure => have := HLT.out; simp [intOf]; omega
          · obtain rfl : j = i := by have := HJI.out; omega
            have HAL : Hid ((cat T j).size ≤ S.size) := by unfold Hid; have := HSZ.out; omega
            have HS4 : Hid (S.size ≤ 281474976710656) := by unfold Hid; have := HSZ.out; have := HCZ.out; have := H2.out; omega
            have HTK : Hid (takeR S (cat T j).size (rest.size : Int) = (rest, 0, rest.size)) := by
              unfold Hid takeR
              rw [if_neg (by omega), if_neg (by have := HSZ.out; omega), Int.toNat_natCast]
              congr 1
              apply Sums.bl_inj
              rw [Sums.bl_extract, List.drop_take, HSS.out, Sums.bl_append, ← Sums.bl_length (cat T j), List.drop_left, show (Sums.bl (cat T j)).length + rest.size - (Sums.bl (cat T j)).length = (Sums.bl rest).length by rw [Sums.bl_length rest]; omega, List.take_length]
            have HEN : Hid ((cat T j).size + rest.size = S.size) := HSZ.out.symm
            clear hlt
            by_cases hz : rest.size = 0
            · have HE0 : Hid ((if (cat T j).size < S.size then (34 : Int) else 0) = 0) := if_neg (by have := HSZ.out; omega)
              obtain rfl : rest = ⟨#[]⟩ := by
                apply Sums.bl_inj
                exact List.eq_nil_of_length_eq_zero (by rw [Sums.bl_length]; exact hz)
              go_wp2_with fail
              refine (end_any g S (cat T j).size wr HR.out HAL.out (by have := HS4.out; omega)).mono ?_
              rintro e w3 ⟨rfl, n3, rfl⟩
              rw [HE0.out]
              go_wp2_with fail
              have HT0 : Hid (takeR S (cat T j).size 0 = (⟨#[]⟩, 0, 0)) := HTK.out
              have HEN0 : Hid ((cat T j).size = S.size) := HEN.out
              refine (rtake_any g S (cat T j).size 0 _ (by exact HR.out) HAL.out HS4.out).mono ?_
              rintro e w4 ⟨rfl, hr4, ho4⟩
              rw [HT0.out] at hr4 ⊢
              have HR4 : Hid (Rdr g S S.size w4) := by unfold Hid; rw [← HEN0.out]; exact hr4
              have HB4 : Hid (Below wo.heap.size wo w4) := (HBZ.out.drewN' n3).trans (ho4.below HG.out HBZ.out.size)
              have HE1 : Hid ((if S.size < S.size then (34 : Int) else 0) = 0) := if_neg (by omega)
              clear hr4 ho4
              simp only [Int.cast_ofNat_Int]
              go_wp2_with fail
              refine (end_any g S S.size w4 HR4.out (Nat.le_refl _) (by have := HS4.out; omega)).mono ?_
              rintro e w5 ⟨rfl, n5, rfl⟩
              rw [HE1.out]
              go_wp2_with fail
              go_ret
              exact ⟨rfl, HB.out.trans ((HB4.out.drewN' n5).mono HB.out.size)⟩
            · have HE0 : Hid ((if (cat T j).size < S.size then (34 : Int) else 0) = 34) := if_pos (by have := HSZ.out; omega)
              have hne := not_empty (t := rest) (by omega)
              go_wp2_with fail
              refine (end_any g S (cat T j).size wr HR.out HAL.out (by have := HS4.out; omega)).mono ?_
              rintro e w3 ⟨rfl, n3, rfl⟩
              rw [HE0.out]
              go_wp2_with fail
              refine (rtake_any g S (cat T j).size (rest.size : Int) _ (by exact HR.out) HAL.out HS4.out).mono ?_
              rintro e w4 ⟨rfl, hr4, ho4⟩
              rw [HTK.out] at hr4 ⊢
              have HR4 : Hid (Rdr g S S.size w4) := by unfold Hid; rw [← HEN.out]; exact hr4
              have HB4 : Hid (Below wo.heap.size wo w4) := (HBZ.out.drewN' n3).trans (ho4.below HG.out HBZ.out.size)
              have HE1 : Hid ((if S.size < S.size then (34 : Int) else 0) = 0) := if_neg (by omega)
              clear hr4 ho4
              simp only [Int.cast_ofNat_Int]
              go_wp2_with fail
              refine (end_any g S S.size w4 HR4.out (Nat.le_refl _) (by have := HS4.out; omega)).mono ?_
              rintro e w5 ⟨rfl, n5, rfl⟩
              rw [HE1.out]
              go_wp2_with fail
              go_ret
              exact ⟨rfl, HB.out.trans ((HB4.out.drewN' n5).mono HB.out.size)⟩
      · go_wp2_with fail
        obtain ⟨S, HSS⟩ : ∃ S, Hid (S = cat T i ++ rest) := ⟨_, Hid.mk' rfl⟩
        have HSZ : Hid (S.size = (cat T i).size + rest.size) := by unfold Hid; rw [HSS.out, ByteArray.size_append]
        rw [← HSS.out]
        refine (read_any S wo).mono ?_
        rintro e w2 ⟨g, hg, rfl, hr, hb2⟩
        have HG := Hid.mk' hg
        have HR := Hid.mk' hr
        have HB2 := Hid.mk' hb2
        clear hg hr hb2
        go_wp2_with fail
        go_loopw [12] (fun j' wr => ∃ j : Nat, j' = .int .i64 (j : Int) ∧ j ≤ i ∧ Rdr g S (cat T j).size wr ∧ Below wo.heap.size wo wr) (fun j' _ => i - (intOf j').toNat)
        case atStart => exact ⟨0, rfl, by omega, HR.out, HB2.out⟩
        case round =>
          obtain ⟨j, rfl, hji, hr, hb⟩ := hrel
          have HR := Hid.mk' hr
          have HBZ := Hid.mk' hb
          have HJI := Hid.mk' hji
          clear hji hr hb HB2
          have HCJ : Hid ((cat T j).size ≤ (cat T i).size) := cat_le T j i HJI.out
          by_cases hlt : j < i
          · have hjl : j < len := by have := HIL.out; omega
            obtain ⟨gS, off, rfl, s0, s1, s2, s3, s4⟩ := HCC.out j hjl
            have hSl : gS < w.heap.size := by
              rcases Nat.lt_or_ge gS w.heap.size with h | h
              · exact h
              · simp [World.cell?, Array.getElem?_eq_none h] at s0
            have hSr : gS < wo.heap.size := Nat.lt_of_lt_of_le hSl HB.out.size
            have t0 := (HBZ.out.cell (p := ⟨gS, off + j * 5, none⟩) hSr).trans ((HB.out.cell (p := ⟨gS, off + j * 5, none⟩) hSl).trans s0)
            have t1 := (HBZ.out.cell (p := ⟨gS, off + j * 5 + 1, none⟩) hSr).trans ((HB.out.cell (p := ⟨gS, off + j * 5 + 1, none⟩) hSl).trans s1)
            have t2 := (HBZ.out.cell (p := ⟨gS, off + j * 5 + 2, none⟩) hSr).trans ((HB.out.cell (p := ⟨gS, off + j * 5 + 2, none⟩) hSl).trans s2)
            have t3 := (HBZ.out.cell (p := ⟨gS, off + j * 5 + 3, none⟩) hSr).trans ((HB.out.cell (p := ⟨gS, off + j * 5 + 3, none⟩) hSl).trans s3)
            have t4 := (HBZ.out.cell (p := ⟨gS, off + j * 5 + 4, none⟩) hSr).trans ((HB.out.cell (p := ⟨gS, off + j * 5 + 4, none⟩) hSl).trans s4)
            have HOK := Hid.mk' (HKK.out j hjl)
            obtain ⟨ge, rfl, hge, hce⟩ := HPE.out j hlt
            have HGE := Hid.mk' hge
            have HCE := Hid.mk' hce
            obtain ⟨Q, HQ⟩ : ∃ Q, Hid (Sums.bl S = Sums.bl (cat T j) ++ (Sums.bl (thg (T j).k (T j).n (T j).i (T j).s (T j).d) ++ Q)) := by
              obtain ⟨Q, hQ⟩ := cat_split T j i hlt
              refine ⟨Q ++ Sums.bl rest, ?_⟩
              unfold Hid
              rw [HSS.out, Sums.bl_append, hQ, List.append_assoc, List.append_assoc]
              rfl
            have HCS : Hid ((cat T j).size + (thg (T j).k (T j).n (T j).i (T j).s (T j).d).size = (cat T (j + 1)).size) := by unfold Hid; rw [cat_succ, ByteArray.size_append]; rfl
            have HCM : Hid ((cat T (j + 1)).size ≤ (cat T i).size) := cat_le T (j + 1) i hlt
            have i1 : (j : Int) < (i : Int) := by omega
            have i2 : (j : Int) < (len : Int) := by omega
            have ij : (0 : Int) ≤ (j : Int) := by omega
            have HLT := Hid.mk' hlt
            clear hlt hjl s0 s1 s2 s3 s4 hge hce
            go_wp2_with fail
            refine (lawRead_any g S (cat T j).size (Sums.bl (cat T j)) Q (T j).k (T j).n (T j).i (T j).s (T j).d wr HR.out HQ.out (Sums.bl_length _) (by have := HSZ.out; have := HCZ.out; have := H2.out; omega) HOK.out.k0 HOK.out.k1 HOK.out.n1 HOK.out.i0 HOK.out.i1 HOK.out.s1 HOK.out.d0 HOK.out.d1).mono ?_
            rintro e wx ⟨rfl, hrx, hox⟩
            rw [HCS.out] at hrx
            have HRX := Hid.mk' hrx
            have HBX : Hid (Below wo.heap.size wo wx) := HBZ.out.trans (hox.below HG.out HBZ.out.size)
            have e0 := (HBX.out.cell (p := ⟨ge, j, none⟩) HGE.out).trans HCE.out
            clear hrx hox t0 t1 t2 t3 t4
            obtain ⟨b, HBB⟩ : ∃ b, Hid (b = (cat T (j + 1)).size) := ⟨_, Hid.mk' rfl⟩
            rw [← HBB.out] at e0
            have HRB : Hid (Rdr g S b wx) := by unfold Hid; rw [HBB.out]; exact HRX.out
            obtain ⟨r, HRR⟩ : ∃ r, Hid (r = S.size - b) := ⟨_, Hid.mk' rfl⟩
            have hle : ((r : Int) = ((cat T i).size : Int) - (b : Int) + (rest.size : Int)) := by have := HRR.out; have := HBB.out; have := HCM.out; have := HSZ.out; omega
            have HLF : Hid (∀ W, Rdr g S b W → Calls Try.prog 30 #[.pointer (some ⟨g, 0, none⟩)] W fun e w' => e = .returned (.int .i64 (r : Int)) ∧ ∃ n, w' = W.drewN n) := by
              intro W h
              rw [HRR.out]
              exact left_any g S b W h (by have := HBB.out; have := HCM.out; have := HSZ.out; omega) (by have := HSZ.out; have := HCZ.out; have := H2.out; omega)
            have hx1 : IntKind.i64.wrap (((cat T i).size : Int) - (b : Int)) = ((cat T i).size : Int) - (b : Int) := by
              have h1 := HBB.out; have h2 := HCM.out; have h3 := HCZ.out
              rw [← h1] at h2
              rw [IntKind.wrap_i64]; omega
            have hx2 : IntKind.i64.wrap (((cat T i).size : Int) - (b : Int) + (rest.size : Int)) = ((cat T i).size : Int) - (b : Int) + (rest.size : Int) := by
              have h1 := HBB.out; have h2 := HCM.out; have h3 := HCZ.out; have h4 := H2.out
              rw [← h1] at h2
              rw [IntKind.wrap_i64]; omega
            go_wp2_with fail
            go_quiet ((first | (go_at_call 26; exact Calls.quiet_of_same (at_any g S b _ (by exact HRB.out))) | (go_at_call 30; exact Calls.quiet_of (HLF.out _ (by exact HRB.out)))))
            go_wp2_with fail
            go_roundw
            case rel => exact ⟨j + 1, by go_num, HLT.out, (show Rdr g S (cat T (j + 1)).size (wx.drewN nq) from HRX.out), HBX.out.drewN' nq⟩
            case measure => have := HLT.out; simp [intOf]; omega
          · obtain rfl : j = i := by have := HJI.out; omega
            have HAL : Hid ((cat T j).size ≤ S.size) := by unfold Hid; have := HSZ.out; omega
            have HS4 : Hid (S.size ≤ 281474976710656) := by unfold Hid; have := HSZ.out; have := HCZ.out; have := H2.out; omega
            have HTK : Hid (takeR S (cat T j).size (rest.size : Int) = (rest, 0, rest.size)) := by
              unfold Hid takeR
              rw [if_neg (by omega), if_neg (by have := HSZ.out; omega), Int.toNat_natCast]
              congr 1
              apply Sums.bl_inj
              rw [Sums.bl_extract, List.drop_take, HSS.out, Sums.bl_append, ← Sums.bl_length (cat T j), List.drop_left, show (Sums.bl (cat T j)).length + rest.size - (Sums.bl (cat T j)).length = (Sums.bl rest).length by rw [Sums.bl_length rest]; omega, List.take_length]
            have HEN : Hid ((cat T j).size + rest.size = S.size) := HSZ.out.symm
            clear hlt
            by_cases hz : rest.size = 0
            · have HE0 : Hid ((if (cat T j).size < S.size then (34 : Int) else 0) = 0) := if_neg (by have := HSZ.out; omega)
              obtain rfl : rest = ⟨#[]⟩ := by
                apply Sums.bl_inj
                exact List.eq_nil_of_length_eq_zero (by rw [Sums.bl_length]; exact hz)
              go_wp2_with fail
              refine (end_any g S (cat T j).size wr HR.out HAL.out (by have := HS4.out; omega)).mono ?_
              rintro e w3 ⟨rfl, n3, rfl⟩
              rw [HE0.out]
              go_wp2_with fail
              have HT0 : Hid (takeR S (cat T j).size 0 = (⟨#[]⟩, 0, 0)) := HTK.out
              have HEN0 : Hid ((cat T j).size = S.size) := HEN.out
              refine (rtake_any g S (cat T j).size 0 _ (by exact HR.out) HAL.out HS4.out).mono ?_
              rintro e w4 ⟨rfl, hr4, ho4⟩
              rw [HT0.out] at hr4 ⊢
              have HR4 : Hid (Rdr g S S.size w4) := by unfold Hid; rw [← HEN0.out]; exact hr4
              have HB4 : Hid (Below wo.heap.size wo w4) := (HBZ.out.drewN' n3).trans (ho4.below HG.out HBZ.out.size)
              have HE1 : Hid ((if S.size < S.size then (34 : Int) else 0) = 0) := if_neg (by omega)
              clear hr4 ho4
              simp only [Int.cast_ofNat_Int]
              go_wp2_with fail
              refine (end_any g S S.size w4 HR4.out (Nat.le_refl _) (by have := HS4.out; omega)).mono ?_
              rintro e w5 ⟨rfl, n5, rfl⟩
              rw [HE1.out]
              go_wp2_with fail
              go_ret
              exact ⟨rfl, HB.out.trans ((HB4.out.drewN' n5).mono HB.out.size)⟩
            · have HE0 : Hid ((if (cat T j).size < S.size then (34 : Int) else 0) = 34) := if_pos (by have := HSZ.out; omega)
              have hne := not_empty (t := rest) (by omega)
              go_wp2_with fail
              refine (end_any g S (cat T j).size wr HR.out HAL.out (by have := HS4.out; omega)).mono ?_
              rintro e w3 ⟨rfl, n3, rfl⟩
              rw [HE0.out]
              go_wp2_with fail
              refine (rtake_any g S (cat T j).size (rest.size : Int) _ (by exact HR.out) HAL.out HS4.out).mono ?_
              rintro e w4 ⟨rfl, hr4, ho4⟩
              rw [HTK.out] at hr4 ⊢
              have HR4 : Hid (Rdr g S S.size w4) := by unfold Hid; rw [← HEN.out]; exact hr4
              have HB4 : Hid (Below wo.heap.size wo w4) := (HBZ.out.drewN' n3).trans (ho4.below HG.out HBZ.out.size)
              have HE1 : Hid ((if S.size < S.size then (34 : Int) else 0) = 0) := if_neg (by omega)
              clear hr4 ho4
              simp only [Int.cast_ofNat_Int]
              go_wp2_with fail
              refine (end_any g S S.size w4 HR4.out (Nat.le_refl _) (by have := HS4.out; omega)).mono ?_
              rintro e w5 ⟨rfl, n5, rfl⟩
              rw [HE1.out]
              go_wp2_with fail
              go_ret
              exact ⟨rfl, HB.out.trans ((HB4.out.drewN' n5).mono HB.out.size)⟩
end Go.Proofs.Ythmaaeibdcoemaa
