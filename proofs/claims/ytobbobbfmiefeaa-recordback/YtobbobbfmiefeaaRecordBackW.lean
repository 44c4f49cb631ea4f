/-
  The walk of the law RecordBack: whatever lines and number it is given it returns true, and of what was there nothing turns. Conditions: lines and texts no longer than they can be, numbers of their types.
-/
import Derived.Test.YtobbobbfmiefeaaRcR
import Derived.Test.YtobbobbfmiefeaaRcS
import Derived.Deep.CutBlock
import Derived.Deep.DeepCutAuto
namespace Go.Proofs.Ytobbobbfmiefeaa
open Go.RowKit
set_option linter.unusedVariables false
theorem take_next (M : List Rec.Ln) (i : Nat) (h : i < M.length) : M.take (i + 1) = M.take i ++ [M.getD i (0, ⟨#[]⟩)] := by
  rw [List.take_succ_eq_append_getElem h, List.getD_eq_getElem?_getD, List.getElem?_eq_getElem h]
  rfl
theorem take_nil (M : List Rec.Ln) (i : Nat) (h : i < M.length) : M.take i = [] ↔ i = 0 := by
  constructor
  · intro e
    have := congrArg List.length e
    rw [List.length_take_of_le (by omega)] at this
    simpa using this
  · intro e
    rw [e, List.take_zero]
set_option maxHeartbeats 2000000 in
set_option maxRecDepth 100000 in
theorem recordBack_any (v : Value) (l : List Rec.Ln) (at_ : Int) (w : World) (h : LsAt v l w) (hl : l.length ≤ 140737488351232) (ht : ∀ x ∈ l, x.2.size ≤ 140737488351232 ∧ -9223372036854775808 ≤ x.1 ∧ x.1 ≤ 9223372036854775807) (a0 : -9223372036854775808 ≤ at_) (a1 : at_ ≤ 9223372036854775807) :
    Calls Try.prog 7 #[v, .int .i64 at_] w fun e w' => e = .returned (.bool true) ∧ Below w.heap.size w w' := by
  have HLS := Hid.mk' h
  have HT := Hid.mk' ht
  clear h ht
  go_enter Try.func7, Try.ntmps7
  go_wp2_with fail
  refine (examples_any w).mono ?_
  rintro e w1 ⟨rfl, hb1⟩
  have HB1 := Hid.mk' hb1
  clear hb1
  go_wp2_with fail
  refine (may_any v l w1 (HLS.out.below HB1.out) hl HT.out).mono ?_
  rintro e w2 ⟨v2, M, rfl, hown, hok, hM, hwt, hb2⟩
  have HB2 : Hid (Below w.heap.size w w2) := below_up HB1.out hb2 (Nat.le_refl _)
  have HL2 : Hid (LsAt v2 M w2) := own_ls hown
  have HOK := Hid.mk' hok
  have hsz := Rec.sz_may M hok hM hwt
  have HSZ := Hid.mk' hsz
  have HEN : Hid (Rec.encG [] M = (0, 0, M)) := by
    have := Rec.enc_all M [] hok (by rw [List.nil_append]; omega)
    rw [List.nil_append] at this
    exact this
  obtain ⟨b, hb⟩ : ∃ b, b = nums (Rec.payF M) := ⟨_, rfl⟩
  have hbl : Sums.bl b = Rec.payF M := by rw [hb]; exact bl_nums _ (Rec.pay_byt hok (by omega))
  have hbs : b.size = Rec.szF M := by rw [← Sums.bl_length, hbl, Rec.pay_len]
  have hbs2 : b.size ≤ 131072 := by omega
  have HDE : Hid ((0, M, 0) = Rec.decF b) := by
    have := (Rec.dec_cut M [] (Rec.szF M) b hok (by omega) (by omega) (by rw [List.append_nil, List.take_of_length_le (by rw [Rec.pay_len]; exact Nat.le_refl _)]; exact hbl)).2 (Nat.le_refl _)
    unfold Hid
    rw [this, if_pos (by simp)]
  have HBS := Hid.mk' hbs
  have HBB := Hid.mk' hb
  obtain ⟨n, hn⟩ : ∃ n, n = M.length := ⟨_, rfl⟩
  have HN := Hid.mk' hn
  have hn2 : n ≤ 2000 := by omega
  clear hown hok hwt hb2 hsz hb hbl HB1 hM hn hbs
  go_wp2_with fail
  refine (encode_any v2 M w2 HL2.out (by have := HN.out; omega) (fun x hx => by have := (Rec.bad_le (HOK.out x hx)).1; omega) 0 0 M HEN.out b (by rw [if_pos rfl, HBB.out])).mono ?_
  rintro e w3 ⟨rfl, hb3⟩
  have HB3 : Hid (Below w.heap.size w w3) := below_up HB2.out hb3 (Nat.le_refl _)
  have HL3 := Hid.mk' (HL2.out.below hb3)
  clear hb3 HB2 HL2
  go_wp2_with fail
  refine (decode_any b w3 (by omega) (0, M, 0) HDE.out).mono ?_
  rintro e w4 ⟨v4, rfl, hv4, _, hb4⟩
  have HB4 : Hid (Below w.heap.size w w4) := below_up HB3.out hb4 (Nat.le_refl _)
  have HL4 := Hid.mk' (HL3.out.below hb4)
  have HM4 : Hid (LsAt v4 M w4) := own_ls (hv4 rfl)
  clear hb4 hv4 HB3 HL3
  go_wp2_with fail
  refine (new_any w4).mono ?_
  rintro e w5 ⟨rfl, hd5, hb5⟩
  have HD5 := Hid.mk' hd5
  have HX5 : Hid (Below w4.heap.size w4 w5) := hb5
  clear hd5 hb5
  go_wp2_with fail
  refine (same_any v4 v2 M w5 (HM4.out.below HX5.out) (HL4.out.below HX5.out) (by have := HN.out; omega)).mono ?_
  rintro e w6 ⟨rfl, k6, hw6⟩
  have HD6 : Hid (Bdr w4.heap.size w4.heap.size [] w6) := by rw [hw6]; exact HD5.out.below ((Below.refl _ _).drewN' k6)
  have HX6 : Hid (Below w4.heap.size w4 w6) := by rw [hw6]; exact HX5.out.drewN' k6
  obtain ⟨a2, c2, rfl, hcell⟩ : ∃ a2 c2, v2 = .slice a2 n c2 ∧ ∀ W, Below w4.heap.size w4 W → ∀ i, i < n → ∃ q off, a2 = some ⟨q, off, none⟩ ∧ W.cell? ⟨q, off + i * 2, none⟩ = some (.int .i64 (M.getD i (0, ⟨#[]⟩)).1) ∧ W.cell? ⟨q, off + i * 2 + 1, none⟩ = some (.string (M.getD i (0, ⟨#[]⟩)).2) := by
    obtain ⟨a2, c2, e, hc⟩ := HL4.out
    refine ⟨a2, c2, by rw [e, HN.out], fun W hW i hi => ?_⟩
    obtain ⟨q, off, e2, hq, hc2⟩ := hc (by rw [← HN.out]; omega)
    have := hc2 i (by rw [← HN.out]; exact hi)
    exact ⟨q, off, e2, (hW.cell (p := ⟨q, off + i * 2, none⟩) hq).trans this.1, (hW.cell (p := ⟨q, off + i * 2 + 1, none⟩) hq).trans this.2⟩
  have HC := Hid.mk' hcell
  clear hw6 HX5 HD5 HL4 HM4 hcell
  go_wp2_with fail
  go_loopw [15, 16, 17] (fun s15 s16 s17 wr => ∃ i : Nat, s17 = .int .i64 (i : Int) ∧ i ≤ n ∧ s15 = .int .i64 (Rec.mn (M.take i)) ∧ s16 = .int .i64 (Rec.mx (M.take i)) ∧ Hid (Bdr w4.heap.size w4.heap.size (M.take i) wr ∧ Below w4.heap.size w4 wr)) (fun _ _ s17 _ => n - (intOf s17).toNat)
  case atStart => exact ⟨0, rfl, by omega, rfl, rfl, HD6.out, HX6.out⟩
  case round =>
    obtain ⟨i, rfl, hin, rfl, rfl, HI⟩ := hrel
    rename World => wr
    clear HD6 HX6
    obtain ⟨mi, hmi⟩ : ∃ mi, mi = Rec.mn (M.take i) := ⟨_, rfl⟩
    obtain ⟨ma, hma⟩ : ∃ ma, ma = Rec.mx (M.take i) := ⟨_, rfl⟩
    rw [← hmi, ← hma]
    have HMI := Hid.mk' hmi
    have HMA := Hid.mk' hma
    by_cases hlt : i < n
    · obtain ⟨q, off, rfl, e0, e1⟩ := HC.out wr HI.out.2 i hlt
      have hiM : i < M.length := by rw [← HN.out]; exact hlt
      obtain ⟨x, t, hxt⟩ : ∃ x t, M.getD i (0, ⟨#[]⟩) = (x, t) := ⟨_, _, rfl⟩
      have hmem : M.getD i (0, ⟨#[]⟩) ∈ M := by
        rw [List.getD_eq_getElem?_getD, List.getElem?_eq_getElem hiM]
        exact List.getElem_mem _
      have hbd := HOK.out _ hmem
      have htk := take_next M i hiM
      have htn := take_nil M i hiM
      have hmn := Rec.mn_snoc (M.take i) (M.getD i (0, ⟨#[]⟩))
      have hmx := Rec.mx_snoc (M.take i) (M.getD i (0, ⟨#[]⟩))
      rw [← htk, hxt, ← hmi] at hmn
      rw [← htk, hxt, ← hma] at hmx
      rw [hxt] at e0 e1 hbd htk
      have hb := Rec.bad_le hbd
      have hx0 : 0 ≤ x := hb.2.2.1
      have ht8 : t.size ≤ 8192 := hb.1
      have hadd : Rec.addE (M.take i) (x, t) = 0 := by
        refine Rec.add_ok_ hbd ?_
        rw [← htk]
        have := Rec.sz_mono (M.take (i + 1)) (M.drop (i + 1))
        rw [List.take_append_drop] at this
        have := HSZ.out
        omega
      have HMX : Hid (max ma x = Rec.mx (M.take (i + 1))) := by
        unfold Hid
        rw [hmx]
        simp only [htn]
        by_cases h0 : i = 0
        · rw [if_pos h0, hma, h0]
          show max (0 : Int) x = x
          omega
        · rw [if_neg h0]
      have HMN : Hid (Rec.mn (M.take (i + 1)) = if i = 0 then x else min mi x) := by
        unfold Hid
        rw [hmn]
        simp only [htn]
      have HADD := Hid.mk' hadd
      have HTK := Hid.mk' htk
      have HLT := Hid.mk' hlt
      have HXT := Hid.mk' hxt
      have j0 : (0 : Int) ≤ (i : Int) := by omega
      have j1 : (i : Int) < (n : Int) := by omega
      clear hiM hmem hbd htk htn hmn hmx hxt hb hadd hlt hin hmi hma
      go_wp2_with fail
      refine (add_any HI.out.1 x t (by omega) HI.out.2.size).mono ?_
      rintro e w7 ⟨rfl, _, hd7, hb7⟩
      rw [HADD.out]
      have HD7 : Hid (Bdr w4.heap.size w4.heap.size (M.take (i + 1)) w7) := by rw [HTK.out]; exact hd7 HADD.out
      have HX7 := Hid.mk' (HI.out.2.trans hb7)
      obtain ⟨q', off', eq, e0', e1'⟩ := HC.out w7 HX7.out i HLT.out
      simp only [Option.some.injEq, Addr.mk.injEq, and_true] at eq
      obtain ⟨rfl, rfl⟩ := eq
      rw [HXT.out] at e0' e1'
      clear hd7 hb7 e0 e1 HI
      go_upto_region 16 with fail
      obtain ⟨cb, hcb⟩ : ∃ cb, cb = decide (i = 0 ∨ x < mi) := ⟨_, rfl⟩
      have HCB := Hid.mk' hcb
      clear hcb
      go_cut [89] (fun s89 wx => wx = w7 ∧ s89 = .bool cb)
      case first =>
        by_cases h0 : i = 0
        · have h0' : (i : Int) = 0 := by omega
          have hc : cb = true := by rw [HCB.out]; exact decide_eq_true (.inl h0)
          subst hc
          go_wp2_with fail
          go_meet
          exact ⟨rfl, rfl⟩
        · have h0' : ¬ (i : Int) = 0 := by omega
          by_cases h1 : x < mi
          · have hc : cb = true := by rw [HCB.out]; exact decide_eq_true (.inr h1)
            subst hc
            go_wp2_with fail
            go_meet
            exact ⟨rfl, rfl⟩
          · have hc : cb = false := by rw [HCB.out]; exact decide_eq_false (fun h => h.elim h0 h1)
            subst hc
            have h0b : ((i : Int) == 0) = false := by rw [beq_eq_false_iff_ne]; exact h0'
            go_wp2_with fail
            go_meet
            exact ⟨rfl, by first | rfl | rw [h0b]⟩
      case rest =>
        obtain ⟨hwc, rfl⟩ := hcut
        have hwc2 := hwc.symm
        clear hwc
        subst hwc2
        go_upto_if 89 with fail
        obtain ⟨m2, hm2⟩ : ∃ m2, m2 = Rec.mn (M.take (i + 1)) := ⟨_, rfl⟩
        have HM2 := Hid.mk' hm2
        clear hm2
        go_cut [15] (fun s15 wx => wx = w7 ∧ s15 = .int .i64 m2)
        case first =>
          cases cb with
          | true =>
            have hd : i = 0 ∨ x < mi := of_decide_eq_true HCB.out.symm
            have hm : m2 = x := by
              rw [HM2.out, HMN.out]
              split
              · rfl
              · rcases hd with h | h
                · omega
                · omega
            have HM3 := Hid.mk' hm
            clear hd hm
            go_wp2_with fail
            go_meet
            exact ⟨rfl, by rw [HM3.out]⟩
          | false =>
            have hd : ¬ (i = 0 ∨ x < mi) := of_decide_eq_false HCB.out.symm
            have hm : m2 = mi := by
              rw [HM2.out, HMN.out, if_neg (fun h => hd (.inl h))]
              have : ¬ x < mi := fun h => hd (.inr h)
              omega
            have HM3 := Hid.mk' hm
            clear hd hm
            go_wp2_with fail
            go_meet
            exact ⟨rfl, by rw [HM3.out]⟩
        case rest =>
          obtain ⟨hwc, rfl⟩ := hcut
          have hwc2 := hwc.symm
          clear hwc
          subst hwc2
          obtain ⟨ma2, hma2⟩ : ∃ ma2, ma2 = max ma x := ⟨_, rfl⟩
          have HMA2 : Hid (ma2 = Rec.mx (M.take (i + 1))) := by rw [hma2]; exact HMX.out
          have hwn : IntKind.i64.wrap ((i : Int) + 1) = (i : Int) + 1 := by rw [IntKind.wrap_i64]; omega
          obtain ⟨r, hr⟩ : ∃ r, r = i % 7 := ⟨_, rfl⟩
          have hrem : (i : Int) % 7 = (r : Int) := by omega
          by_cases h3 : r = 3
          · have h3' : (r : Int) = 3 := by omega
            clear hr
            subst h3
            have hpb : Rec.szF (M.take (i + 1)) = (nums (Rec.payF (M.take (i + 1)))).size := by rw [nums_size, Rec.pay_len]
            have HPB := Hid.mk' hpb
            obtain ⟨P, hP⟩ : ∃ P, P = nums (Rec.payF (M.take (i + 1))) := ⟨_, rfl⟩
            have HP := Hid.mk' hP
            clear hpb hP
            go_wp2_with fail
            refine (bsize_any HD7.out).mono ?_
            rintro e w8 ⟨rfl, hb8⟩
            rw [HPB.out, ← HP.out]
            have HD8 := Hid.mk' (HD7.out.below hb8)
            have HX8 : Hid (Below w4.heap.size w4 w8) := below_up HX7.out hb8 (Nat.le_refl _)
            clear hb8 HD7 HX7 e0' e1'
            go_wp2_with fail
            refine (bytes_any HD8.out).mono ?_
            rintro e w9 ⟨rfl, hb9⟩
            rw [← HP.out]
            have HD9 := Hid.mk' (HD8.out.below hb9)
            have HX9 : Hid (Below w4.heap.size w4 w9) := below_up HX8.out hb9 (Nat.le_refl _)
            clear hb9 HD8 HX8
            go_wp2_with fail
            refine (min_any HD9.out).mono ?_
            rintro e w' ⟨rfl, rfl⟩
            rw [← HM2.out]
            go_wp2_with fail
            refine (max_any HD9.out).mono ?_
            rintro e w' ⟨rfl, rfl⟩
            rw [← HMA2.out, hma2]
            go_wp2_with fail
            go_roundw
            case rel => exact ⟨i + 1, by go_num, HLT.out, by rw [HM2.out], by rw [← HMA2.out, hma2], HD9.out, HX9.out⟩
            case measure => have := HLT.out; simp [intOf]; omega
          · have h3' : ¬ (r : Int) = 3 := by omega
            have H3 := Hid.mk' h3
            clear hr h3
            go_wp2_with fail
            go_roundw
            case rel => exact ⟨i + 1, by go_num, HLT.out, by rw [HM2.out], by rw [← HMA2.out, hma2], HD7.out, HX7.out⟩
            case measure => have := HLT.out; simp [intOf]; omega
    · obtain rfl : i = n := by omega
      have htk : M.take i = M := List.take_of_length_le (by rw [← HN.out]; exact Nat.le_refl _)
      have HD : Hid (Bdr w4.heap.size w4.heap.size M wr) := by
        have := HI.out.1
        rw [htk] at this
        exact this
      have HX := Hid.mk' HI.out.2
      rw [htk] at HMI HMA
      have i1 : ¬ (i : Int) < (i : Int) := by omega
      clear htk HI hmi hma hlt hin
      go_upto_if 127 with fail
      go_cut [18] (fun s18 wx => Hid (Bdr w4.heap.size w4.heap.size M wx ∧ Below w4.heap.size w4 wx))
      case first =>
        by_cases hz : 0 < i
        · have hz' : (0 : Int) < (i : Int) := by omega
          go_wp2_with fail
          refine (pick_any at_ i wr a0 a1 (by omega) (by omega)).mono ?_
          rintro e w' ⟨⟨k, hk, rfl⟩, hw'⟩
          have hq' := hw'.symm
          subst hq'
          obtain ⟨x, t, hxt⟩ : ∃ x t, M.getD k (0, ⟨#[]⟩) = (x, t) := ⟨_, _, rfl⟩
          have HLI := Hid.mk' (line_in HD.out k (by rw [← HN.out]; exact hk) x t hxt)
          have HXT := Hid.mk' hxt
          have HK := Hid.mk' hk
          have k0 : (0 : Int) ≤ (k : Int) := by omega
          have k1 : (k : Int) < (i : Int) := by omega
          have hneq : ∀ W, (binOp .neq 24 (.agg #[.int .i64 x, .string t]) (.agg #[.int .i64 x, .string t])).run Try.prog W = .ok (.bool false) W := fun W => by rw [neq_line]; simp
          clear hxt hk hz
          go_wp2_with fail
          refine HLI.out.mono ?_
          rintro e w8 ⟨rfl, hb8⟩
          have HD8 := Hid.mk' (HD.out.below hb8)
          have HX8 : Hid (Below w4.heap.size w4 w8) := below_up HX.out hb8 (Nat.le_refl _)
          have HA8 : Hid (Bdr w4.heap.size w4.heap.size M (w8.alloc (.cells #[.int .i64 x, .string t] 24)) ∧ Below w4.heap.size w4 (w8.alloc (.cells #[.int .i64 x, .string t] 24))) := ⟨HD8.out.below ((Below.refl _ _).alloc (Nat.le_refl _) _), HX8.out.alloc HX8.out.size _⟩
          obtain ⟨q, off, rfl, e0, e1⟩ := HC.out _ HA8.out.2 k HK.out
          rw [HXT.out] at e0 e1
          have b0 : (w8.alloc (.cells #[.int .i64 x, .string t] 24)).cell? ⟨w8.heap.size, 0, none⟩ = some (.int .i64 x) := by rw [Lib.cell_of_heap (heap_alloc_new w8 _)]; rfl
          have b1 : (w8.alloc (.cells #[.int .i64 x, .string t] 24)).cell? ⟨w8.heap.size, 1, none⟩ = some (.string t) := by rw [Lib.cell_of_heap (heap_alloc_new w8 _)]; rfl
          clear hb8 HLI HD HX
          go_wp2_with fail
          go_quiet (fail)
          go_wp2_with fail
          go_meet
          exact ⟨HA8.out.1.below ((Below.refl _ _).drewN' nq), HA8.out.2.drewN' nq⟩
        · have hz' : ¬ (0 : Int) < (i : Int) := by omega
          clear hz
          go_wp2_with fail
          go_meet
          exact ⟨HD.out, HX.out⟩
      case rest =>
        rename World => w8
        have HD8 := Hid.mk' hcut.out.1
        have HX8 := Hid.mk' hcut.out.2
        have HLO := Hid.mk' (line_out hcut.out.1 (i : Int) (.inr (by rw [← HN.out]; exact Int.le_refl _)))
        clear hcut HD HX
        go_wp2_with fail
        refine HLO.out.mono ?_
        rintro e w9 ⟨rfl, hb9⟩
        have HD9 := Hid.mk' ((HD8.out.below hb9).below ((Below.refl _ _).alloc (Nat.le_refl _) (.cells #[.int .i64 0, .string ⟨#[]⟩] 24)))
        have HX9 : Hid (Below w4.heap.size w4 (w9.alloc (.cells #[.int .i64 0, .string ⟨#[]⟩] 24))) := (below_up HX8.out hb9 (Nat.le_refl _)).alloc (below_up HX8.out hb9 (Nat.le_refl _)).size _
        clear hb9 HD8 HX8 HLO
        go_wp2_with fail
        refine (pick_any at_ 9 _ a0 a1 (by decide) (by decide)).mono ?_
        rintro e w10 ⟨⟨z, hz, rfl⟩, hw10⟩
        have HD10 : Hid (Bdr w4.heap.size w4.heap.size M w10) := by rw [hw10]; exact HD9.out
        have HX10 : Hid (Below w4.heap.size w4 w10) := by rw [hw10]; exact HX9.out
        have hzw : IntKind.i64.wrap (-1 - (z : Int)) = -1 - (z : Int) := by rw [IntKind.wrap_i64]; omega
        clear hw10 HD9 HX9
        go_wp2_with fail
        try rw [hzw]
        refine (line_out HD10.out (-1 - (z : Int)) (.inl (by omega))).mono ?_
        rintro e w11 ⟨rfl, hb11⟩
        have HD11 := Hid.mk' ((HD10.out.below hb11).below ((Below.refl _ _).alloc (Nat.le_refl _) (.cells #[.int .i64 0, .string ⟨#[]⟩] 24)))
        have HX11 : Hid (Below w4.heap.size w4 (w11.alloc (.cells #[.int .i64 0, .string ⟨#[]⟩] 24))) := (below_up HX10.out hb11 (Nat.le_refl _)).alloc (below_up HX10.out hb11 (Nat.le_refl _)).size _
        clear hb11 HD10 HX10
        go_wp2_with fail
        refine (bytes_any HD11.out).mono ?_
        rintro e w12 ⟨rfl, hb12⟩
        rw [← HBB.out]
        have HD12 := Hid.mk' (HD11.out.below hb12)
        have HX12 : Hid (Below w4.heap.size w4 w12) := below_up HX11.out hb12 (Nat.le_refl _)
        clear hb12 HD11 HX11
        go_wp2_with fail
        refine (bsize_any HD12.out).mono ?_
        rintro e w13 ⟨rfl, hb13⟩
        rw [← HBS.out]
        have HD13 := Hid.mk' (HD12.out.below hb13)
        have HX13 : Hid (Below w4.heap.size w4 w13) := below_up HX12.out hb13 (Nat.le_refl _)
        clear hb13 HD12 HX12
        go_wp2_with fail
        refine (blen_any HD13.out).mono ?_
        rintro e w' ⟨rfl, rfl⟩
        rw [← HN.out]
        go_wp2_with fail
        refine (min_any HD13.out).mono ?_
        rintro e w' ⟨rfl, rfl⟩
        rw [← HMI.out]
        go_wp2_with fail
        refine (max_any HD13.out).mono ?_
        rintro e w' ⟨rfl, rfl⟩
        rw [← HMA.out]
        go_wp2_with fail
        go_ret
        exact ⟨by first | rfl | simp, below_up HB4.out HX13.out (Nat.le_refl _)⟩
end Go.Proofs.Ytobbobbfmiefeaa
