/-
  The walk of the law RecordColumns: whatever lines it is given it returns true, and of what was there nothing turns. Conditions: lines and texts no longer than they can be, numbers of their types.
-/
import Derived.Test.YtobbobbfmiefeabRcR
namespace Go.Proofs.Ytobbobbfmiefeab
open Go.RowKit
set_option linter.unusedVariables false
theorem rd_here {s : ByteArray} {a n : Nat} {l : List Nat} (h : (Sums.bl s).drop a = Code.uint n ++ l) (hn : n < 18446744073709551616) : rdAt s a = (n, 0, (Code.uint n).length) ∧ (Sums.bl s).drop (a + (Code.uint n).length) = l := by
  refine ⟨?_, ?_⟩
  · unfold rdAt
    rw [h, Code.rd_uint n l hn]
  · rw [← List.drop_drop, h, List.drop_left]
theorem at_len {s : ByteArray} {a : Nat} {x l : List Nat} (h : (Sums.bl s).drop a = x ++ l) (ha : a ≤ s.size) : a + x.length ≤ s.size := by
  have := congrArg List.length h
  rw [List.length_drop, Sums.bl_length, List.length_append] at this
  omega
set_option maxHeartbeats 4000000 in
set_option maxRecDepth 100000 in
theorem recordColumns_any (v : Value) (l : List Rec.Ln) (w : World) (h : LsAt v l w) (hl : l.length ≤ 140737488351232) (ht : ∀ x ∈ l, x.2.size ≤ 140737488351232 ∧ -9223372036854775808 ≤ x.1 ∧ x.1 ≤ 9223372036854775807) :
    Calls Try.prog 3 #[v] w fun e w' => e = .returned (.bool true) ∧ Below w.heap.size w w' := by
  have HLS := Hid.mk' h
  have HT := Hid.mk' ht
  clear h ht
  go_enter Try.func3, Try.ntmps3
  go_wp2_with fail
  refine (examples_any w).mono ?_
  rintro e w1 ⟨rfl, hb1⟩
  have HB1 := Hid.mk' hb1
  clear hb1
  go_wp2_with fail
  refine (may_any v l w1 (HLS.out.below HB1.out) hl HT.out).mono ?_
  rintro e w2 ⟨v2, M, rfl, hown, hok, hM, hwt, hb2⟩
  have HB2 : Hid (Below w.heap.size w w2) := below_up HB1.out hb2 (Nat.le_refl _)
  have HL2 : Hid (LsAt v2 M w2) := own_ls hown
  have HOK := Hid.mk' hok
  have hsz := Rec.sz_may M hok hM hwt
  have HEN : Hid (Rec.encG [] M = (0, 0, M)) := by
    have := Rec.enc_all M [] hok (by rw [List.nil_append]; omega)
    rw [List.nil_append] at this
    exact this
  obtain ⟨b, hb⟩ : ∃ b, b = nums (Rec.payF M) := ⟨_, rfl⟩
  have hbl : Sums.bl b = Rec.payF M := by rw [hb]; exact bl_nums _ (Rec.pay_byt hok (by omega))
  have hbs : b.size ≤ 131072 := by rw [← Sums.bl_length, hbl, Rec.pay_len]; omega
  have HBL := Hid.mk' hbl
  have HBB := Hid.mk' hb
  obtain ⟨n, hn⟩ : ∃ n, n = M.length := ⟨_, rfl⟩
  have HN := Hid.mk' hn
  have hn2 : n ≤ 2000 := by omega
  clear hown hok hwt hb2 hsz hb hbl HB1 hM hn
  go_wp2_with fail
  refine (encode_any v2 M w2 HL2.out (by have := HN.out; omega) (fun x hx => by have := (Rec.bad_le (HOK.out x hx)).1; omega) 0 0 M HEN.out b (by rw [if_pos rfl, HBB.out])).mono ?_
  rintro e w3 ⟨rfl, hb3⟩
  have HB3 : Hid (Below w.heap.size w w3) := below_up HB2.out hb3 (Nat.le_refl _)
  have HL3 := Hid.mk' (HL2.out.below hb3)
  clear hb3 HB2 HL2
  go_wp2_with fail
  refine (read_any b w3).mono ?_
  rintro e w4 ⟨g, hg, rfl, hr4, hb4⟩
  have HX4 := Hid.mk' hb4
  have HG := Hid.mk' hg
  have HR4 := Hid.mk' hr4
  obtain ⟨a2, c2, rfl, hcell⟩ : ∃ a2 c2, v2 = .slice a2 n c2 ∧ ∀ W, Below w3.heap.size w3 W → ∀ i, i < n → ∃ q off, a2 = some ⟨q, off, none⟩ ∧ W.cell? ⟨q, off + i * 2, none⟩ = some (.int .i64 (M.getD i (0, ⟨#[]⟩)).1) ∧ W.cell? ⟨q, off + i * 2 + 1, none⟩ = some (.string (M.getD i (0, ⟨#[]⟩)).2) := by
    obtain ⟨a2, c2, e, hc⟩ := HL3.out
    refine ⟨a2, c2, by rw [e, HN.out], fun W hW i hi => ?_⟩
    obtain ⟨q, off, e2, hq, hc2⟩ := hc (by rw [← HN.out]; omega)
    have := hc2 i (by rw [← HN.out]; exact hi)
    exact ⟨q, off, e2, (hW.cell (p := ⟨q, off + i * 2, none⟩) hq).trans this.1, (hW.cell (p := ⟨q, off + i * 2 + 1, none⟩) hq).trans this.2⟩
  have HC := Hid.mk' hcell
  obtain ⟨U, hU⟩ : ∃ U, U = Code.uint M.length := ⟨_, rfl⟩
  have hd0 : (Sums.bl b).drop 0 = Code.uint M.length ++ (Rec.stN 0 (Rec.sts M) ++ (Rec.lnN (Rec.lns M) ++ Rec.txs M)) := by rw [List.drop_zero, HBL.out]; rfl
  have hq := rd_here hd0 (by have := HN.out; omega)
  have ha1 := at_len hd0 (Nat.zero_le _)
  have HRU : Hid (Calls Try.prog 10 #[.pointer (some ⟨g, 0, none⟩)] w4 fun e w' => e = .returned (.tuple #[.int .u64 (n : Int), .int .i64 0]) ∧ Rdr g b (0 + U.length) w' ∧ Only g w4 w') := by
    have := ruint_any g b 0 w4 hr4 (Nat.zero_le _) (by omega)
    rw [hq.1, ← HN.out] at this
    rw [hU, ← HN.out]
    exact this
  have HD1 := Hid.mk' hq.2
  have HA1 := Hid.mk' ha1
  have hnw : IntKind.u64.wrap (n : Int) = (n : Int) := by rw [IntKind.wrap_u64]; omega
  rw [← hU] at HD1 HA1
  clear hg hr4 hb4 hcell hd0 hq ha1 hU HL3
  go_wp2_with fail
  refine HRU.out.mono ?_
  rintro e w5 ⟨rfl, hr5, ho5⟩
  have HX5 : Hid (Below w3.heap.size w3 w5) := HX4.out.trans (ho5.below HG.out HX4.out.size)
  have HR5 := Hid.mk' hr5
  clear hr5 ho5 HRU HX4 HR4
  go_wp2_with fail
  go_loopw [11, 12] (fun s11 s12 wr => ∃ (i a : Nat) (p : Int), s12 = .int .i64 (i : Int) ∧ s11 = .int .i64 p ∧ i ≤ n ∧ 0 ≤ p ∧ p ≤ 253402300799999 ∧ a ≤ b.size ∧ (Sums.bl b).drop a = Rec.stN p ((Rec.sts M).drop i) ++ (Rec.lnN (Rec.lns M) ++ Rec.txs M) ∧ Rdr g b a wr ∧ Below w3.heap.size w3 wr) (fun _ s12 _ => n - (intOf s12).toNat)
  case atStart => exact ⟨0, 0 + U.length, 0, rfl, rfl, by omega, by omega, by omega, HA1.out, HD1.out, HR5.out, HX5.out⟩
  case round =>
    obtain ⟨i, a, p, rfl, rfl, hin, hp0, hp1, hab, hd, hr, hx⟩ := hrel
    have HD := Hid.mk' hd
    have HR := Hid.mk' hr
    have HX := Hid.mk' hx
    clear hd hr hx HX5 HR5 HD1 HA1
    by_cases hlt : i < n
    · obtain ⟨y, hy⟩ : ∃ y, y = (M.getD i (0, ⟨#[]⟩)).1 := ⟨_, rfl⟩
      have HY := Hid.mk' hy
      have hM : i < M.length := by rw [← HN.out]; exact hlt
      have hmem : M.getD i (0, ⟨#[]⟩) ∈ M := by
        rw [List.getD_eq_getElem?_getD, List.getElem?_eq_getElem hM]
        exact List.getElem_mem _
      have hyb := Rec.bad_le (HOK.out _ hmem)
      rw [← hy] at hyb
      have hy0 : 0 ≤ y := hyb.2.2.1
      have hy1 : y ≤ 253402300799999 := hyb.2.2.2
      have hdr : (Rec.sts M).drop i = y :: (Rec.sts M).drop (i + 1) := by
        have hs : i < (Rec.sts M).length := by rw [Rec.sts_len]; exact hM
        have e3 : (Rec.sts M)[i] = y := by
          rw [hy, List.getD_eq_getElem?_getD, List.getElem?_eq_getElem hM]
          simp [Rec.sts]
        rw [← e3]
        exact List.drop_eq_getElem_cons hs
      have hd := HD.out
      rw [hdr, Rec.stN, List.append_assoc] at hd
      have hzl := Code.zig_lt (y - p) (by omega) (by omega)
      obtain ⟨r1, r2⟩ := rd_here hd hzl
      have ha := at_len hd hab
      have HRI : Hid (Calls Try.prog 11 #[.pointer (some ⟨g, 0, none⟩)] wr fun e w' => e = .returned (.tuple #[.int .i64 (y - p), .int .i64 0]) ∧ Rdr g b (a + (Code.uint (Code.zig (y - p))).length) w' ∧ Only g wr w') := by
        have := rint_any g b a wr HR.out hab (by omega)
        rw [r1] at this
        simp only [Code.zag_zig] at this
        exact this
      have HR2 := Hid.mk' r2
      have HAA := Hid.mk' ha
      have HLT := Hid.mk' hlt
      have hsum : IntKind.i64.wrap (p + (y - p)) = y := by rw [IntKind.wrap_i64]; omega
      have hsum2 : p + (y - p) = y := by omega
      have i0 : (0 : Int) ≤ (i : Int) := by omega
      have i1 : (i : Int) < (n : Int) := by omega
      clear hy hM hmem hyb hdr hd hzl r1 r2 ha hab hlt hin
      go_wp2_with fail
      refine HRI.out.mono ?_
      rintro e w6 ⟨rfl, hr6, ho6⟩
      have HX6 : Hid (Below w3.heap.size w3 w6) := HX.out.trans (ho6.below HG.out HX.out.size)
      have HR6 := Hid.mk' hr6
      obtain ⟨q, off, rfl, e0, e1⟩ := HC.out w6 HX6.out i HLT.out
      rw [← HY.out] at e0
      clear hr6 ho6 HRI HX HR e1
      go_wp2_with fail
      go_roundw
      case rel => exact ⟨i + 1, _, y, by go_num, rfl, HLT.out, hy0, hy1, HAA.out, HR2.out, HR6.out, HX6.out⟩
      case measure => have := HLT.out; simp [intOf]; omega
    · obtain rfl : i = n := by omega
      have hd := HD.out
      have hdz : (Rec.sts M).drop i = [] := List.drop_of_length_le (by rw [Rec.sts_len, ← HN.out]; exact Nat.le_refl _)
      rw [hdz, Rec.stN, List.nil_append] at hd
      clear hdz
      have HD2 := Hid.mk' hd
      have HAB := Hid.mk' hab
      have i1 : ¬ (i : Int) < (i : Int) := by omega
      clear hd HD hlt hin hp0 hp1 hab
      go_wp2_with fail
      go_loopw [15] (fun s15 wr => ∃ (j a : Nat), s15 = .int .i64 (j : Int) ∧ j ≤ i ∧ a ≤ b.size ∧ (Sums.bl b).drop a = Rec.lnN ((Rec.lns M).drop j) ++ Rec.txs M ∧ Rdr g b a wr ∧ Below w3.heap.size w3 wr) (fun s15 _ => i - (intOf s15).toNat)
      case atStart => exact ⟨0, a, rfl, by omega, HAB.out, HD2.out, HR.out, HX.out⟩
      case round =>
        obtain ⟨j, a, rfl, hjn, hab, hd, hr, hx⟩ := hrel
        have HD := Hid.mk' hd
        have HR := Hid.mk' hr
        have HX := Hid.mk' hx
        clear hd hr hx HD2 HAB
        by_cases hlt : j < i
        · obtain ⟨t, hy⟩ : ∃ t, t = (M.getD j (0, ⟨#[]⟩)).2 := ⟨_, rfl⟩
          have HY := Hid.mk' hy
          have hM : j < M.length := by rw [← HN.out]; exact hlt
          have hmem : M.getD j (0, ⟨#[]⟩) ∈ M := by
            rw [List.getD_eq_getElem?_getD, List.getElem?_eq_getElem hM]
            exact List.getElem_mem _
          have hyb := Rec.bad_le (HOK.out _ hmem)
          rw [← hy] at hyb
          have hy0 : t.size ≤ 8192 := hyb.1
          have hdr : (Rec.lns M).drop j = t.size :: (Rec.lns M).drop (j + 1) := by
            have hs : j < (Rec.lns M).length := by rw [Rec.lns_len]; exact hM
            have e3 : (Rec.lns M)[j] = t.size := by
              rw [hy, List.getD_eq_getElem?_getD, List.getElem?_eq_getElem hM]
              simp [Rec.lns]
            rw [← e3]
            exact List.drop_eq_getElem_cons hs
          have hd := HD.out
          rw [hdr, Rec.lnN, List.append_assoc] at hd
          obtain ⟨r1, r2⟩ := rd_here hd (by omega)
          have ha := at_len hd hab
          have HRI : Hid (Calls Try.prog 10 #[.pointer (some ⟨g, 0, none⟩)] wr fun e w' => e = .returned (.tuple #[.int .u64 (t.size : Int), .int .i64 0]) ∧ Rdr g b (a + (Code.uint t.size).length) w' ∧ Only g wr w') := by
            have := ruint_any g b a wr HR.out hab (by omega)
            rw [r1] at this
            exact this
          have HR2 := Hid.mk' r2
          have HAA := Hid.mk' ha
          have HLT := Hid.mk' hlt
          have hzw : IntKind.u64.wrap (t.size : Int) = (t.size : Int) := by rw [IntKind.wrap_u64]; omega
          have i0 : (0 : Int) ≤ (j : Int) := by omega
          have i1 : (j : Int) < (i : Int) := by omega
          clear hy hM hmem hyb hdr hd r1 r2 ha hab hlt hjn
          go_wp2_with fail
          refine HRI.out.mono ?_
          rintro e w6 ⟨rfl, hr6, ho6⟩
          have HX6 : Hid (Below w3.heap.size w3 w6) := HX.out.trans (ho6.below HG.out HX.out.size)
          have HR6 := Hid.mk' hr6
          obtain ⟨q, off, rfl, e0, e1⟩ := HC.out w6 HX6.out j HLT.out
          rw [← HY.out] at e1
          clear hr6 ho6 HRI HX HR e0
          go_wp2_with fail
          go_roundw
          case rel => exact ⟨j + 1, _, by go_num, HLT.out, HAA.out, HR2.out, HR6.out, HX6.out⟩
          case measure => have := HLT.out; simp [intOf]; omega
        · obtain rfl : j = i := by omega
          have hd := HD.out
          have hdz : (Rec.lns M).drop j = [] := List.drop_of_length_le (by rw [Rec.lns_len, ← HN.out]; exact Nat.le_refl _)
          rw [hdz, Rec.lnN, List.nil_append] at hd
          clear hdz
          have HD2 := Hid.mk' hd
          have HAB := Hid.mk' hab
          have i1 : ¬ (j : Int) < (j : Int) := by omega
          clear hd HD hlt hjn hab
          go_wp2_with fail
          go_loopw [18] (fun s18 wr => ∃ (k a : Nat), s18 = .int .i64 (k : Int) ∧ k ≤ j ∧ a ≤ b.size ∧ (Sums.bl b).drop a = Rec.txs (M.drop k) ∧ Rdr g b a wr ∧ Below w3.heap.size w3 wr) (fun s18 _ => j - (intOf s18).toNat)
          case atStart => exact ⟨0, a, rfl, by omega, HAB.out, HD2.out, HR.out, HX.out⟩
          case round =>
            obtain ⟨k, a, rfl, hkn, hab, hd, hr, hx⟩ := hrel
            have HD := Hid.mk' hd
            have HR := Hid.mk' hr
            have HX := Hid.mk' hx
            clear hd hr hx HD2 HAB
            by_cases hlt : k < j
            · obtain ⟨t, hy⟩ : ∃ t, t = (M.getD k (0, ⟨#[]⟩)).2 := ⟨_, rfl⟩
              have HY := Hid.mk' hy
              have hM : k < M.length := by rw [← HN.out]; exact hlt
              have hmem : M.getD k (0, ⟨#[]⟩) ∈ M := by
                rw [List.getD_eq_getElem?_getD, List.getElem?_eq_getElem hM]
                exact List.getElem_mem _
              have hyb := Rec.bad_le (HOK.out _ hmem)
              rw [← hy] at hyb
              have hy0 : t.size ≤ 8192 := hyb.1
              have hdr : M.drop k = M.getD k (0, ⟨#[]⟩) :: M.drop (k + 1) := by
                have e3 : M[k] = M.getD k (0, ⟨#[]⟩) := by
                  rw [List.getD_eq_getElem?_getD, List.getElem?_eq_getElem hM]
                  rfl
                rw [← e3]
                exact List.drop_eq_getElem_cons hM
              have hd := HD.out
              rw [hdr, Rec.txs, ← hy] at hd
              have ha := at_len hd hab
              rw [Sums.bl_length] at ha
              have hext : b.extract a (a + t.size) = t := by
                apply Sums.bl_inj
                rw [Sums.bl_extract, List.drop_take, Nat.add_sub_cancel_left, hd, List.take_left' (by rw [Sums.bl_length])]
              have hd2 : (Sums.bl b).drop (a + t.size) = Rec.txs (M.drop (k + 1)) := by
                rw [← List.drop_drop, hd, List.drop_left' (by rw [Sums.bl_length])]
              have HRI : Hid (Calls Try.prog 12 #[.pointer (some ⟨g, 0, none⟩), .int .i64 (t.size : Int)] wr fun e w' => e = .returned (.tuple #[.string t, .int .i64 0]) ∧ Rdr g b (a + t.size) w' ∧ Only g wr w') := by
                have := rtake_in g b a t.size wr HR.out (by omega) ha (by omega)
                rw [hext] at this
                exact this
              have HR2 := Hid.mk' hd2
              have HAA := Hid.mk' ha
              have HLT := Hid.mk' hlt
              have i0 : (0 : Int) ≤ (k : Int) := by omega
              have i1 : (k : Int) < (j : Int) := by omega
              obtain ⟨q, off, rfl, e0, e1⟩ := HC.out wr HX.out k HLT.out
              rw [← HY.out] at e1
              clear hy hM hmem hyb hdr hd hd2 hext ha hab hlt hkn e0
              go_wp2_with fail
              refine HRI.out.mono ?_
              rintro e w6 ⟨rfl, hr6, ho6⟩
              have HX6 : Hid (Below w3.heap.size w3 w6) := HX.out.trans (ho6.below HG.out HX.out.size)
              have HR6 := Hid.mk' hr6
              obtain ⟨q', off', eq, e0', e1'⟩ := HC.out w6 HX6.out k HLT.out
              simp only [Option.some.injEq, Addr.mk.injEq, and_true] at eq
              obtain ⟨rfl, rfl⟩ := eq
              rw [← HY.out] at e1'
              clear hr6 ho6 HRI HX HR e0' e1
              go_wp2_with fail
              go_roundw
              case rel => exact ⟨k + 1, _, by go_num, HLT.out, HAA.out, HR2.out, HR6.out, HX6.out⟩
              case measure => have := HLT.out; simp [intOf]; omega
            · obtain rfl : k = j := by omega
              have hd := HD.out
              have hdz : M.drop k = [] := List.drop_of_length_le (by rw [← HN.out]; exact Nat.le_refl _)
              rw [hdz, Rec.txs] at hd
              clear hdz
              have hz : ¬ a < b.size := by
                have := congrArg List.length hd
                rw [List.length_drop, Sums.bl_length, List.length_nil] at this
                omega
              have HEND := Hid.mk' (end_any g b a wr HR.out hab (by omega))
              rw [if_neg hz] at HEND
              have i1 : ¬ (k : Int) < (k : Int) := by omega
              clear hd HD hlt hkn hab hz
              go_wp2_with fail
              refine HEND.out.mono ?_
              rintro e w6 ⟨rfl, kk, hw6⟩
              have HX6 : Hid (Below w3.heap.size w3 w6) := by rw [hw6]; exact HX.out.drewN' kk
              clear hw6 HEND HX HR
              go_wp2_with fail
              go_ret
              exact ⟨rfl, below_up HB3.out HX6.out (Nat.le_refl _)⟩
end Go.Proofs.Ytobbobbfmiefeab
