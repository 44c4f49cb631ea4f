/-
  The document's own Encode (chapter 17). Conditions: as it says.
-/
import Derived.Test.YtchhdkmflppjhaaEnA
import Derived.Test.YtchhdkmflppjhaaRcH
namespace Go.Proofs.Ytchhdkmflppjhaa
open Go.RowKit
set_option linter.unusedVariables false
theorem take_succ (M : List Rec.Ln) (i : Nat) (h : i < M.length) : M.take (i + 1) = M.take i ++ [M.getD i (0, ⟨#[]⟩)] ∧ M.drop i = M.getD i (0, ⟨#[]⟩) :: M.drop (i + 1) := by
  have e : M[i] = M.getD i (0, ⟨#[]⟩) := by rw [List.getD_eq_getElem?_getD, List.getElem?_eq_getElem h]; rfl
  rw [← e]
  exact ⟨List.take_succ_eq_append_getElem h, List.drop_eq_getElem_cons h⟩
theorem sum_w3 (p a b c N : Nat) (h : N = p + a + b + c) (hb : N ≤ 9007199254740992) : IntKind.i64.wrap (IntKind.i64.wrap (IntKind.i64.wrap ((p : Int) + (a : Int)) + (b : Int)) + (c : Int)) = (N : Int) := by
  have h1 : IntKind.i64.wrap ((p : Int) + (a : Int)) = (p : Int) + (a : Int) := by rw [IntKind.wrap_i64]; omega
  have h2 : IntKind.i64.wrap ((p : Int) + (a : Int) + (b : Int)) = (p : Int) + (a : Int) + (b : Int) := by rw [IntKind.wrap_i64]; omega
  rw [h1, h2, IntKind.wrap_i64]
  omega
theorem own_next {B k : Nat} {l X : List Nat} {s : ByteArray} {v : Value} {w : World} (hs : Sums.bl s = X) (h : w.ownsRow B 5 1 v k (byv l ++ Lib.strCells s)) (hk : k = (l ++ X).length) : ∃ p c m, v = .slice p m c ∧ m = (l ++ X).length ∧ w.ownsRow B 5 1 (.slice p m c) m (byv (l ++ X)) := by
  rw [str_byv, hs, ← byv_append, hk] at h
  obtain ⟨p, c, rfl⟩ := row_shape h
  exact ⟨p, c, _, rfl, rfl, h⟩
theorem own_up {w wr w1 : World} {v : Value} {B n : Nat} {xs : List Value} (hb : Below B w wr) (hown : wr.ownsRow B 5 1 v n xs) (hg : wr.grownBy w1 v.ownBlock) (hB : B ≤ wr.heap.size) : Below B w w1 :=
  hb.grown hg hB (fun k hk => (hown.lt k hk).1)
theorem own_keep {w w' : World} {v : Value} {B n : Nat} {xs : List Value} (h : w.ownsRow B 5 1 v n xs) (hb : Below w.heap.size w w') : w'.ownsRow B 5 1 v n xs :=
  ⟨h.1, h.2.imp id fun ⟨g, cap, cur, e1, e2, e3, r⟩ => ⟨g, cap, cur, e1, e2, (hb.block g (Array.getElem?_eq_some_iff.1 e3).1).trans e3, r⟩⟩
theorem lns_getD (l : List Rec.Ln) (j : Nat) : (Rec.lns l).getD j 0 = (l.getD j (0, ⟨#[]⟩)).2.size := by
  unfold Rec.lns
  rw [List.getD_eq_getElem?_getD, List.getElem?_map, List.getD_eq_getElem?_getD]
  cases l[j]? <;> rfl
theorem lns_le_getD {l : List Rec.Ln} (h : ∀ x ∈ l, Rec.bad x = 0) (j : Nat) : (Rec.lns l).getD j 0 ≤ 8192 := by
  rw [List.getD_eq_getElem?_getD]
  rcases e : (Rec.lns l)[j]? with _ | y
  · simp
  · exact Rec.lns_le h y (List.mem_of_getElem? e)
theorem sts_getD (l : List Rec.Ln) (j : Nat) : (Rec.sts l).getD j 0 = (l.getD j (0, ⟨#[]⟩)).1 := by
  unfold Rec.sts
  rw [List.getD_eq_getElem?_getD, List.getElem?_map, List.getD_eq_getElem?_getD]
  cases l[j]? <;> rfl
set_option maxHeartbeats 1000000 in
set_option maxRecDepth 100000 in
theorem rEncode_any (v : Value) (l : List Rec.Ln) (w : World) (h : LsAt v l w) (hl : l.length ≤ 1125899906842624) (ht : ∀ x ∈ l, x.2.size ≤ 1125899906842624) (err at_ : Nat) (A : List Rec.Ln) (hE : Rec.encG [] l = (err, at_, A)) (R : ByteArray) (hR : R = if err = 0 then nums (Rec.payF A) else ⟨#[]⟩) :
    Calls Try.prog 33 #[v] w fun e w' => e = .returned (.tuple #[.string R, .int .i64 (err : Int), .int .i64 (at_ : Int)]) ∧ Below w.heap.size w w' := by
  obtain ⟨i0, hi, hz0, hz1, hz2⟩ := info_parts infoB
  obtain ⟨a, c, rfl, h1⟩ := h
  obtain ⟨n, hn⟩ : ∃ n, n = l.length := ⟨_, rfl⟩
  have HC : Hid (∀ W, Below w.heap.size w W → ∀ i, i < n → ∃ q off, a = some ⟨q, off, none⟩ ∧ q < W.heap.size ∧ W.cell? ⟨q, off + i * 2, none⟩ = some (.int .i64 (l.getD i (0, ⟨#[]⟩)).1) ∧ W.cell? ⟨q, off + i * 2 + 1, none⟩ = some (.string (l.getD i (0, ⟨#[]⟩)).2)) := fun W hW i hi => by
    obtain ⟨q, off, rfl, hq, hc⟩ := h1 (by omega)
    exact ⟨q, off, rfl, Nat.lt_of_lt_of_le hq hW.size, (hW.cell (p := ⟨q, off + i * 2, none⟩) hq).trans (hc i (by omega)).1, (hW.cell (p := ⟨q, off + i * 2 + 1, none⟩) hq).trans (hc i (by omega)).2⟩
  rw [← hn]
  have HN := Hid.mk' hn
  have HE := Hid.mk' hE
  have HT := Hid.mk' ht
  have HR := Hid.mk' hR
  have HL : n ≤ 1125899906842624 := by omega
  clear h1 hE ht hl hn hR
  go_enter Try.func33, Try.ntmps33
  go_wp2_with fail
  go_loopw [5, 6, 7] (fun s5 s6 s7 wr => ∃ (i N : Nat) (p : Int), s7 = .int .i64 (i : Int) ∧ s5 = .int .i64 (N : Int) ∧ s6 = .int .i64 p ∧ i ≤ n ∧ N ≤ 131072 ∧ 0 ≤ p ∧ p ≤ 253402300799999 ∧ Hid (Rec.encG (l.take i) (l.drop i) = (err, at_, A) ∧ (∀ x ∈ l.take i, Rec.bad x = 0) ∧ N = Rec.nmF (l.take i) + (Rec.txs (l.take i)).length ∧ p = Rec.last (l.take i) ∧ Rec.szF (l.take i) ≤ 131072) ∧ Below w.heap.size w wr) (fun _ _ s7 _ => n - (intOf s7).toNat)
  case atStart => exact ⟨0, 0, 0, rfl, rfl, rfl, by omega, by omega, by omega, by omega, ⟨HE.out, by simp, rfl, rfl, (by decide : Rec.szF [] ≤ 131072)⟩, Below.refl _ _⟩
  case round =>
    obtain ⟨i, N, p, rfl, rfl, rfl, hin, hN, hp0, hp1, HX, hb⟩ := hrel
    have HB := Hid.mk' hb
    clear hb
    by_cases hlt : i < n
    · obtain ⟨q, off, rfl, hq, e0, e1⟩ := HC.out wr HB.out i hlt
      have hil : i < l.length := by rw [← HN.out]; exact hlt
      have hmem : l.getD i (0, ⟨#[]⟩) ∈ l := by
        rw [List.getD_eq_getElem?_getD, List.getElem?_eq_getElem hil]
        exact List.getElem_mem _
      have htx := HT.out _ hmem
      obtain ⟨htk, hdr⟩ := take_succ l i hil
      obtain ⟨x, t, hxt⟩ : ∃ x t, l.getD i (0, ⟨#[]⟩) = (x, t) := ⟨_, _, rfl⟩
      rw [hxt] at e0 e1 htx htk hdr
      have hst := HX.out.1
      rw [hdr, Rec.encG] at hst
      have HST := Hid.mk' hst
      have HTK := Hid.mk' htk
      have HXT := Hid.mk' hxt
      have hli : (l.take i).length = i := List.length_take_of_le (Nat.le_of_lt hil)
      have HLI := Hid.mk' hli
      have j0 : (0 : Int) ≤ (i : Int) := by omega
      have j1 : (i : Int) < (n : Int) := by omega
      have HLT := Hid.mk' hlt
      have HMAY := Hid.mk' (rMay_any x t wr htx)
      have hnb : i + 1 ≤ 1125899906842624 := by omega
      clear hil hmem htk hdr hst hxt hli hlt hin
      by_cases hbad : Rec.bad (x, t) = 0
      · have hgd := Rec.bad_le hbad
        have hx0 : 0 ≤ x := hgd.2.2.1
        have hx1 : x ≤ 253402300799999 := hgd.2.2.2
        have ht8 : t.size ≤ 8192 := hgd.1
        have HBD := Hid.mk' hbad
        rw [hbad] at HMAY
        have l1 := Code.uint_len (Code.zig (x - p)) (Code.zig_lt _ (by omega) (by omega))
        have l2 := Code.uint_len t.size (by omega)
        have n1 := nums_size (Code.uint (Code.zig (x - p)))
        have n2 := nums_size (Code.uint t.size)
        have hxy : IntKind.i64.wrap (x - p) = x - p := by rw [IntKind.wrap_i64]; omega
        have hts : IntKind.u64.wrap (t.size : Int) = (t.size : Int) := by rw [IntKind.wrap_u64]; omega
        obtain ⟨N2, hN2⟩ : ∃ N2, N2 = N + (Code.uint (Code.zig (x - p))).length + (Code.uint t.size).length + t.size := ⟨_, rfl⟩
        have hN2b : N2 ≤ 262144 := by omega
        have HN2 := Hid.mk' hN2
        clear hgd hbad htx hN2
        go_wp2_with fail
        refine HMAY.out.mono ?_
        rintro e w1 ⟨rfl, hb1⟩
        have HB1 : Hid (Below w.heap.size w w1) := below_up HB.out hb1 (Nat.le_refl _)
        have hq1 : q < w1.heap.size := Nat.lt_of_lt_of_le hq hb1.size
        have e0 : w1.cell? ⟨q, off + i * 2, none⟩ = some (.int .i64 x) := (hb1.cell (p := ⟨q, off + i * 2, none⟩) hq).trans e0
        have e1 : w1.cell? ⟨q, off + i * 2 + 1, none⟩ = some (.string t) := (hb1.cell (p := ⟨q, off + i * 2 + 1, none⟩) hq).trans e1
        have HQ := Hid.mk' hq1
        clear hb1 HB HMAY hq1
        go_upto_region 9 with fail
        go_cut [5] (fun s5 wx => s5 = .int .i64 (N2 : Int) ∧ Hid (Below w1.heap.size w1 wx))
        case first =>
          go_region_held3 (fun w' => w'.cell? ⟨q, off + i * 2, none⟩ = some (.int .i64 x) ∧ w'.cell? ⟨q, off + i * 2 + 1, none⟩ = some (.string t)) (first | go_keep | exact ⟨k0, k1⟩)
            ((first | (go_at_call 60; (try rw [hxy]); refine (rInt_any (x - p) _ (by omega) (by omega)).mono ?_; rintro e w' ⟨rfl, hb⟩; have HK : Hid (Below w1.heap.size w1 w') := (by first | exact below_up HK.out ⟨hb.os, hb.tape, hb.output, hb.size, hb.block⟩ (Nat.le_refl _) | exact ⟨hb.os, hb.tape, hb.output, hb.size, hb.block⟩); have k0 := (HK.out.cell (p := ⟨q, off + i * 2, none⟩) HQ.out).trans e0; have k1 := (HK.out.cell (p := ⟨q, off + i * 2 + 1, none⟩) HQ.out).trans e1; clear hb) | (go_at_call 61; (try rw [hts]); refine (rUint_any t.size _ (by omega)).mono ?_; rintro e w' ⟨rfl, hb⟩; have HK : Hid (Below w1.heap.size w1 w') := (by first | exact below_up HK.out ⟨hb.os, hb.tape, hb.output, hb.size, hb.block⟩ (Nat.le_refl _) | exact ⟨hb.os, hb.tape, hb.output, hb.size, hb.block⟩); have k0 := (HK.out.cell (p := ⟨q, off + i * 2, none⟩) HQ.out).trans e0; have k1 := (HK.out.cell (p := ⟨q, off + i * 2 + 1, none⟩) HQ.out).trans e1; clear hb)))
          all_goals (go_wp2_with fail; go_meet)
          all_goals exact ⟨by first | exact val_int (sum_w3 N _ _ _ N2 HN2.out (by omega)) | (congr 1; have := HN2.out; omega), HK.out⟩
        case rest =>
          obtain ⟨rfl, HB2⟩ := hcut
          rename World => w2
          have e0 := (HB2.out.cell (p := ⟨q, off + i * 2, none⟩) HQ.out).trans e0
          have HX2 : Hid (Below w.heap.size w w2) := below_up HB1.out HB2.out (Nat.le_refl _)
          obtain ⟨U, hU⟩ : ∃ U, U = Code.uint (i + 1) := ⟨_, rfl⟩
          have hul : U.length ≤ 10 := by rw [hU]; exact Code.uint_len _ (by omega)
          have hus := nums_size U
          have hiw : IntKind.i64.wrap ((i : Int) + 1) = (i : Int) + 1 := by rw [IntKind.wrap_i64]; omega
          have hiu : IntKind.u64.wrap ((i : Int) + 1) = ((i + 1 : Nat) : Int) := by rw [IntKind.wrap_u64]; omega
          have HUU : Hid (∀ W : World, Calls Try.prog 61 #[.int .u64 ((i : Int) + 1)] W fun e w' => e = .returned (.string (nums U)) ∧ Below W.heap.size W w') := fun W => by
            rw [hU, show ((i : Int) + 1) = ((i + 1 : Nat) : Int) by omega]
            exact rUint_any (i + 1) W (by omega)
          have HZ : Hid (Rec.szF (l.take i ++ [(x, t)]) = U.length + N2) := by
            have h5 := HX.out
            have hs := Rec.sz_snoc (l.take i) (x, t)
            have hp : (Rec.sts (l.take i)).getLastD 0 = p := h5.2.2.2.1.symm
            rw [Rec.sts_len, HLI.out, ← hU, hp] at hs
            have hn2 := HN2.out
            rw [h5.2.2.1] at hn2
            dsimp only at hs
            show Rec.szF (l.take i ++ [(x, t)]) = U.length + N2
            rw [hs, hn2]
            omega
          have HU := Hid.mk' hU
          clear hU
          go_wp2_with fail
          first
            | refine (HUU.out _).mono ?_
            | (rw [hiu, show ((i + 1 : Nat) : Int) = (i : Int) + 1 by omega]; refine (HUU.out _).mono ?_)
          rintro e w3 ⟨rfl, hb3⟩
          have HB3 : Hid (Below w.heap.size w w3) := below_up HX2.out hb3 (Nat.le_refl _)
          clear hb3 HX2 HB2 e0 e1
          by_cases hbig : 131072 < N2 + U.length
          · have hbig' : (131072 : Int) < (N2 : Int) + (U.length : Int) := by omega
            have hadd : Rec.addE (l.take i) (x, t) = 41 := Rec.add_full_ HBD.out (by rw [HZ.out]; omega)
            have hst := HST.out
            rw [hadd, if_neg (by decide), HLI.out] at hst
            simp only [Prod.mk.injEq] at hst
            have HSS := Hid.mk' hst
            clear hadd hst hbig
            go_wp2_with fail
            go_ret3
            have q3 : R = ⟨#[]⟩ := by rw [HR.out, if_neg (by rw [← HSS.out.1]; decide)]
            exact ⟨ret_tup3 (by rw [q3]; rfl) (by rw [← HSS.out.1]; rfl) (by rw [← HSS.out.2.1]; rfl), HB3.out⟩
          · have hbig' : ¬ (131072 : Int) < (N2 : Int) + (U.length : Int) := by omega
            have hadd : Rec.addE (l.take i) (x, t) = 0 := Rec.add_ok_ HBD.out (by rw [HZ.out]; omega)
            have hst := HST.out
            rw [if_pos hadd, ← HTK.out] at hst
            have HSS := Hid.mk' hst
            have HBG := Hid.mk' hbig
            clear hadd hst hbig
            go_wp2_with fail
            go_roundw
            case rel =>
              refine ⟨i + 1, N2, x, by go_num, rfl, rfl, HLT.out, by have := HBG.out; omega, hx0, hx1, ⟨HSS.out, ?_, ?_, ?_, ?_⟩, HB3.out⟩
              · intro y hy
                rw [HTK.out] at hy
                rcases List.mem_append.1 hy with hy | hy
                · exact HX.out.2.1 y hy
                · rw [List.mem_singleton.1 hy]
                  exact HBD.out
              · have h5 := HX.out
                rw [HTK.out, Rec.nm_snoc, Rec.txs_snoc, List.length_append, Sums.bl_length, HN2.out, h5.2.2.1, ← h5.2.2.2.1]
                show _ + (Code.uint (Code.zig (x - p))).length + (Code.uint t.size).length + t.size = _ + (Code.uint (Code.zig (x - p))).length + (Code.uint t.size).length + (_ + t.size)
                omega
              · rw [HTK.out]
                unfold Rec.last
                rw [Rec.sts_append, show Rec.sts [(x, t)] = [x] from rfl, List.getLastD_concat]
              · rw [HTK.out, HZ.out]
                have := HBG.out
                omega
            case measure => have := HLT.out; simp [intOf]; omega
      · have hb0 : ((((Rec.bad (x, t)) : Nat) : Int) == 0) = false := by rw [beq_eq_false_iff_ne]; omega
        obtain ⟨Eb, hEb⟩ : ∃ Eb, Eb = Rec.bad (x, t) := ⟨_, rfl⟩
        rw [← hEb] at hb0 HMAY
        have hst := HST.out
        rw [Rec.add_bad_ hbad, if_neg hbad, HLI.out, ← hEb] at hst
        simp only [Prod.mk.injEq] at hst
        have HSS := Hid.mk' hst
        have hEn : Eb ≠ 0 := by rw [hEb]; exact hbad
        have HEn := Hid.mk' hEn
        clear hst hbad hEb hEn
        go_wp2_with fail
        refine HMAY.out.mono ?_
        rintro e w1 ⟨rfl, hb1⟩
        have HB1 : Hid (Below w.heap.size w w1) := below_up HB.out hb1 (Nat.le_refl _)
        clear hb1 HB HMAY
        go_wp2_with fail
        go_ret3
        have q3 : R = ⟨#[]⟩ := by rw [HR.out, if_neg (by rw [← HSS.out.1]; exact HEn.out)]
        exact ⟨ret_tup3 (by rw [q3]; rfl) (by rw [← HSS.out.1]; rfl) (by rw [← HSS.out.2.1]; rfl), HB1.out⟩
    · obtain rfl : i = n := by omega
      have htk : l.take i = l := List.take_of_length_le (by rw [← HN.out]; exact Nat.le_refl _)
      have hdr : l.drop i = [] := List.drop_of_length_le (by rw [← HN.out]; exact Nat.le_refl _)
      have hx := HX.out
      rw [htk, hdr, Rec.encG] at hx
      have HOK : Hid (∀ x ∈ l, Rec.bad x = 0) := hx.2.1
      have HSZ : Hid (Rec.szF l ≤ 131072) := hx.2.2.2.2
      have hx1 := hx.1
      simp only [Prod.mk.injEq] at hx1
      have HXX := Hid.mk' hx1
      have i1 : ¬ (i : Int) < (i : Int) := by omega
      clear htk hdr hx hx1 hlt hin HX hN hp0 hp1
      obtain ⟨U, hU⟩ : ∃ U, U = Code.uint i := ⟨_, rfl⟩
      have HPL : Hid (U.length + (Rec.stN 0 (Rec.sts l)).length + (Rec.lnN (Rec.lns l)).length + (Rec.txs l).length ≤ 131072) := by
        have h := HSZ.out
        unfold Rec.szF Rec.nmF at h
        rw [← HN.out, ← hU] at h
        show U.length + (Rec.stN 0 (Rec.sts l)).length + (Rec.lnN (Rec.lns l)).length + (Rec.txs l).length ≤ 131072
        omega
      have hU10 : U.length ≤ 131072 := by have := HPL.out; omega
      have hni : IntKind.u64.wrap (i : Int) = (i : Int) := by rw [IntKind.wrap_u64]; omega
      have hub : Sums.bl (nums U) = U := bl_nums U (by rw [hU]; exact Code.uint_byt _ (by omega))
      have hus := nums_size U
      have HU := Hid.mk' hU
      have hw0 : w.heap.size ≤ wr.heap.size := HB.out.size
      clear hU
      go_wp2_with fail
      try rw [hni]
      refine (rUint_any i _ (by omega)).mono ?_
      rintro e w2 ⟨rfl, hb2⟩
      rw [← HU.out]
      have HB2 : Hid (Below w.heap.size w w2) := below_up HB.out hb2 (Nat.le_refl _)
      clear hb2 HB hw0
      go_wp2_with (at_builtin; refine Lib.wpList_append_own_string _ rfl _ _ 70 9 rfl w.heap.size 5 i0 Try.underlying70 Try.underlying9 hi hz0 hz1 hz2 (.slice none 0 0) 0 [] rfl (World.ownsRow_nil _ _ _ _) (nums U) rfl (by unfold maxLen; omega) (by omega) HB2.out.size ?_)
      intro v3 w3 ho3 hg3 _
      have HB3 : Hid (Below w.heap.size w w3) := own_up HB2.out (World.ownsRow_nil w2 w.heap.size 5 1) hg3 HB2.out.size
      obtain ⟨b3, c3, m3, rfl, hm3, ho3⟩ := own_next (l := []) hub ho3 (by simp)
      have HO3 := Hid.mk' (And.intro hm3 ho3)
      clear ho3 hg3 hm3 hub hus hni HB2
      go_wp2_with fail
      go_loopw [6, 9, 10] (fun s6 s9 s10 wr => ∃ (j m : Nat) (p : Int), ∃ b c, s6 = .int .i64 p ∧ s9 = .slice b m c ∧ s10 = .int .i64 (j : Int) ∧ j ≤ i ∧ m ≤ 131072 ∧ 0 ≤ p ∧ p ≤ 253402300799999 ∧ Hid (p = ((Rec.sts l).take j).getLastD 0 ∧ m = (U ++ Rec.stN 0 ((Rec.sts l).take j)).length ∧ wr.ownsRow w.heap.size 5 1 (.slice b m c) m (byv (U ++ Rec.stN 0 ((Rec.sts l).take j)))) ∧ Below w.heap.size w wr) (fun _ _ s10 _ => i - (intOf s10).toNat)
      case atStart => exact ⟨0, m3, 0, b3, c3, rfl, rfl, rfl, by omega, by have := HO3.out.1; simp at this; omega, by omega, by omega, ⟨rfl, by simpa [Rec.stN] using HO3.out.1, by simpa [Rec.stN] using HO3.out.2⟩, HB3.out⟩
      case round =>
        obtain ⟨j, m, p, b, c, rfl, rfl, rfl, hji, hm, hp0, hp1, HX, hb⟩ := hrel
        have HB := Hid.mk' hb
        clear hb HB3 HO3
        by_cases hlt : j < i
        · obtain ⟨q, off, rfl, hq, e0, e1⟩ := HC.out _ HB.out j hlt
          have hjl : j < l.length := by rw [← HN.out]; exact hlt
          obtain ⟨x, hx⟩ : ∃ x, x = (l.getD j (0, ⟨#[]⟩)).1 := ⟨_, rfl⟩
          have hx2 : x = (Rec.sts l).getD j 0 := by rw [hx, sts_getD]
          rw [← hx] at e0
          have hx0 : 0 ≤ x ∧ x ≤ Rec.MS := by rw [hx2]; exact Rec.getD_le (Rec.sts_le HOK.out) j
          have hx1 : x ≤ 253402300799999 := hx0.2
          have hx0 : 0 ≤ x := hx0.1
          have hxy : IntKind.i64.wrap (x - p) = x - p := by rw [IntKind.wrap_i64]; omega
          obtain ⟨X, hX⟩ : ∃ X, X = Code.uint (Code.zig (x - p)) := ⟨_, rfl⟩
          have hX10 : X.length ≤ 10 := by rw [hX]; exact Code.uint_len _ (Code.zig_lt _ (by omega) (by omega))
          have hxb : Sums.bl (nums X) = X := bl_nums X (by rw [hX]; exact Code.uint_byt _ (Code.zig_lt _ (by omega) (by omega)))
          have hxs := nums_size X
          have hnext : U ++ Rec.stN 0 ((Rec.sts l).take (j + 1)) = U ++ Rec.stN 0 ((Rec.sts l).take j) ++ X := by
            rw [Rec.stN_next _ _ (by rw [Rec.sts_len]; exact hjl), ← hx2, ← HX.out.1, ← hX, List.append_assoc]
          have hlast : ((Rec.sts l).take (j + 1)).getLastD 0 = x := by
            rw [Rec.last_next _ _ (by rw [Rec.sts_len]; exact hjl), ← hx2]
          have HNX := Hid.mk' (And.intro hnext (And.intro hlast (And.intro hxb hX)))
          have HXL := Hid.mk' hx
          have hle := Rec.stN_take 0 (Rec.sts l) (j + 1)
          have HLE := Hid.mk' hle
          have j0 : (0 : Int) ≤ (j : Int) := by omega
          have j1 : (j : Int) < (i : Int) := by omega
          have HLT := Hid.mk' hlt
          have HQ := Hid.mk' hq
          clear hx hx2 hnext hlast hxb hX hle hjl hlt hji hq e1
          go_wp2_with fail
          try rw [hxy]
          refine (rInt_any (x - p) _ (by omega) (by omega)).mono ?_
          rintro e w4 ⟨rfl, hb4⟩
          rw [← HNX.out.2.2.2]
          have HB4 : Hid (Below w.heap.size w w4) := below_up HB.out hb4 (Nat.le_refl _)
          have ho4 := own_keep HX.out.2.2 hb4
          have e0 := (hb4.cell (p := ⟨q, off + j * 2, none⟩) HQ.out).trans e0
          clear hb4 HB HQ
          go_wp2_with (at_builtin; refine Lib.wpList_append_own_string _ rfl _ _ 70 9 rfl w.heap.size 5 i0 Try.underlying70 Try.underlying9 hi hz0 hz1 hz2 _ _ _ rfl ho4 (nums X) rfl (by unfold maxLen; omega) (by omega) HB4.out.size ?_)
          intro v5 w5 ho5 hg5 _
          have HB5 : Hid (Below w.heap.size w w5) := own_up HB4.out ho4 hg5 HB4.out.size
          obtain ⟨b5, c5, m5, rfl, hm5, ho5⟩ := own_next HNX.out.2.2.1 ho5 (by rw [List.length_append, ← HX.out.2.1])
          rw [← HNX.out.1] at hm5 ho5
          have HO5 := Hid.mk' (And.intro hm5 ho5)
          obtain ⟨q2, off2, hqe, hq2, e0, e1⟩ := HC.out _ HB5.out j HLT.out
          obtain ⟨rfl, rfl⟩ : q = q2 ∧ off = off2 := by simpa using hqe
          rw [← HXL.out] at e0
          clear ho5 hg5 hm5 ho4 HB4 HC hqe
          go_wp2_with fail
          go_roundw
          case rel =>
            refine ⟨j + 1, m5, x, b5, c5, rfl, rfl, by go_num, HLT.out, ?_, hx0, hx1, ⟨HNX.out.2.1.symm, HO5.out.1, HO5.out.2⟩, HB5.out⟩
            have h1 := HO5.out.1
            have h2 := HLE.out
            have h3 := HPL.out
            rw [List.length_append] at h1
            omega
          case measure => have := HLT.out; simp [intOf]; omega
        · have h1 : ¬ (j : Int) < (i : Int) := by omega
          have hjl : (Rec.sts l).take j = Rec.sts l := List.take_of_length_le (by rw [Rec.sts_len, ← HN.out]; omega)
          have hoa := HX.out.2
          rw [hjl] at hoa
          obtain ⟨S, hS⟩ : ∃ S, S = U ++ Rec.stN 0 (Rec.sts l) := ⟨_, rfl⟩
          rw [← hS] at hoa
          have HO := Hid.mk' hoa
          have hSl : S.length = U.length + (Rec.stN 0 (Rec.sts l)).length := by rw [hS, List.length_append]
          have HSL := Hid.mk' hSl
          have HS := Hid.mk' hS
          clear hjl hlt hji HX hp0 hp1 hS hSl hoa
          go_wp2_with fail
          go_loopw [9, 11] (fun s9 s11 wr => ∃ (j m : Nat), ∃ b c, s9 = .slice b m c ∧ s11 = .int .i64 (j : Int) ∧ j ≤ i ∧ m ≤ 131072 ∧ Hid (m = (S ++ Rec.lnN ((Rec.lns l).take j)).length ∧ wr.ownsRow w.heap.size 5 1 (.slice b m c) m (byv (S ++ Rec.lnN ((Rec.lns l).take j)))) ∧ Below w.heap.size w wr) (fun _ s11 _ => i - (intOf s11).toNat)
          case atStart => exact ⟨0, m, b, c, rfl, rfl, by omega, hm, ⟨by simpa [Rec.lnN] using HO.out.1, by simpa [Rec.lnN] using HO.out.2⟩, HB.out⟩
          case round =>
            rename World => w3
            obtain ⟨j, m, b, c, rfl, rfl, hji, hm, HX, hb⟩ := hrel
            have HB := Hid.mk' hb
            clear hb HO
            by_cases hlt : j < i
            · obtain ⟨q, off, rfl, hq, e0, e1⟩ := HC.out _ HB.out j hlt
              have hjl : j < l.length := by rw [← HN.out]; exact hlt
              obtain ⟨t, ht⟩ : ∃ t, t = (l.getD j (0, ⟨#[]⟩)).2 := ⟨_, rfl⟩
              have ht2 : t.size = (Rec.lns l).getD j 0 := by rw [ht, lns_getD]
              rw [← ht] at e1
              have ht8 : t.size ≤ 8192 := by rw [ht2]; exact lns_le_getD HOK.out j
              have hts : IntKind.u64.wrap (t.size : Int) = (t.size : Int) := by rw [IntKind.wrap_u64]; omega
              obtain ⟨X, hX⟩ : ∃ X, X = Code.uint t.size := ⟨_, rfl⟩
              have hX10 : X.length ≤ 10 := by rw [hX]; exact Code.uint_len _ (by omega)
              have hxb : Sums.bl (nums X) = X := bl_nums X (by rw [hX]; exact Code.uint_byt _ (by omega))
              have hxs := nums_size X
              have hnext : S ++ Rec.lnN ((Rec.lns l).take (j + 1)) = S ++ Rec.lnN ((Rec.lns l).take j) ++ X := by
                rw [Rec.lnN_next _ _ (by rw [Rec.lns_len]; exact hjl), ← ht2, ← hX, List.append_assoc]
              have HNX := Hid.mk' (And.intro hnext (And.intro hxb hX))
              have hle := Rec.lnN_take (Rec.lns l) (j + 1)
              have HLE := Hid.mk' hle
              have j0 : (0 : Int) ≤ (j : Int) := by omega
              have j1 : (j : Int) < (i : Int) := by omega
              have HLT := Hid.mk' hlt
              clear ht ht2 hnext hxb hX hle hjl hlt hji hq e0
              go_wp2_with fail
              try rw [hts]
              refine (rUint_any t.size _ (by omega)).mono ?_
              rintro e w4 ⟨rfl, hb4⟩
              rw [← HNX.out.2.2]
              have HB4 : Hid (Below w.heap.size w w4) := below_up HB.out hb4 (Nat.le_refl _)
              have ho4 := own_keep HX.out.2 hb4
              clear hb4 HB e1 hts
              go_wp2_with (at_builtin; refine Lib.wpList_append_own_string _ rfl _ _ 70 9 rfl w.heap.size 5 i0 Try.underlying70 Try.underlying9 hi hz0 hz1 hz2 _ _ _ rfl ho4 (nums X) rfl (by unfold maxLen; omega) (by omega) HB4.out.size ?_)
              intro v5 w5 ho5 hg5 _
              have HB5 : Hid (Below w.heap.size w w5) := own_up HB4.out ho4 hg5 HB4.out.size
              obtain ⟨b5, c5, m5, rfl, hm5, ho5⟩ := own_next HNX.out.2.1 ho5 (by rw [List.length_append, ← HX.out.1])
              rw [← HNX.out.1] at hm5 ho5
              have HO5 := Hid.mk' (And.intro hm5 ho5)
              clear ho5 hg5 hm5 ho4 HB4 HC
              go_wp2_with fail
              go_roundw
              case rel =>
                refine ⟨j + 1, m5, b5, c5, rfl, by go_num, HLT.out, ?_, ⟨HO5.out.1, HO5.out.2⟩, HB5.out⟩
                have h1 := HO5.out.1
                have h2 := HLE.out
                have h3 := HPL.out
                have h4 := HSL.out
                rw [List.length_append] at h1
                omega
              case measure => have := HLT.out; simp [intOf]; omega
            · have h1 : ¬ (j : Int) < (i : Int) := by omega
              have hjl : (Rec.lns l).take j = Rec.lns l := List.take_of_length_le (by rw [Rec.lns_len, ← HN.out]; omega)
              have hoa := HX.out
              rw [hjl] at hoa
              obtain ⟨Y, hY⟩ : ∃ Y, Y = S ++ Rec.lnN (Rec.lns l) := ⟨_, rfl⟩
              rw [← hY] at hoa
              have HO := Hid.mk' hoa
              have hYl : Y.length = S.length + (Rec.lnN (Rec.lns l)).length := by rw [hY, List.length_append]
              have HYL := Hid.mk' hYl
              have HY := Hid.mk' hY
              clear hjl hlt hji HX hY hYl hoa
              go_wp2_with fail
              go_loopw [9, 12] (fun s9 s12 wr => ∃ (j m : Nat), ∃ b c, s9 = .slice b m c ∧ s12 = .int .i64 (j : Int) ∧ j ≤ i ∧ m ≤ 131072 ∧ Hid (m = (Y ++ Rec.txs (l.take j)).length ∧ wr.ownsRow w.heap.size 5 1 (.slice b m c) m (byv (Y ++ Rec.txs (l.take j)))) ∧ Below w.heap.size w wr) (fun _ s12 _ => i - (intOf s12).toNat)
              case atStart => exact ⟨0, m, b, c, rfl, rfl, by omega, hm, ⟨by simpa [Rec.txs] using HO.out.1, by simpa [Rec.txs] using HO.out.2⟩, HB.out⟩
              case round =>
                rename World => w3
                obtain ⟨j, m, b, c, rfl, rfl, hji, hm, HX, hb⟩ := hrel
                have HB := Hid.mk' hb
                clear hb HO
                by_cases hlt : j < i
                · obtain ⟨q, off, rfl, hq, e0, e1⟩ := HC.out _ HB.out j hlt
                  have hjl : j < l.length := by rw [← HN.out]; exact hlt
                  have hnext : Y ++ Rec.txs (l.take (j + 1)) = Y ++ Rec.txs (l.take j) ++ Sums.bl (l.getD j (0, ⟨#[]⟩)).2 := by
                    rw [(take_succ l j hjl).1, Rec.txs_snoc, List.append_assoc]
                  obtain ⟨t, ht⟩ : ∃ t, t = (l.getD j (0, ⟨#[]⟩)).2 := ⟨_, rfl⟩
                  have ht2 : t.size = (Rec.lns l).getD j 0 := by rw [ht, lns_getD]
                  rw [← ht] at e1 hnext
                  have ht8 : t.size ≤ 8192 := by rw [ht2]; exact lns_le_getD HOK.out j
                  have hle : (Rec.txs (l.take (j + 1))).length ≤ (Rec.txs l).length := by
                    rw [Rec.txs_split l (j + 1), List.length_append]
                    omega
                  have HNX := Hid.mk' hnext
                  have HLE := Hid.mk' hle
                  have j0 : (0 : Int) ≤ (j : Int) := by omega
                  have j1 : (j : Int) < (i : Int) := by omega
                  have HLT := Hid.mk' hlt
                  have ho4 := HX.out.2
                  clear ht ht2 hnext hle hjl hlt hji hq e0
                  go_wp2_with (at_builtin; refine Lib.wpList_append_own_string _ rfl _ _ 70 9 rfl w.heap.size 5 i0 Try.underlying70 Try.underlying9 hi hz0 hz1 hz2 _ _ _ rfl ho4 t rfl (by unfold maxLen; omega) (by omega) HB.out.size ?_)
                  intro v5 w5 ho5 hg5 _
                  have HB5 : Hid (Below w.heap.size w w5) := own_up HB.out ho4 hg5 HB.out.size
                  obtain ⟨b5, c5, m5, rfl, hm5, ho5⟩ := own_next (X := Sums.bl t) rfl ho5 (by rw [List.length_append, ← HX.out.1, Sums.bl_length])
                  rw [← HNX.out] at hm5 ho5
                  have HO5 := Hid.mk' (And.intro hm5 ho5)
                  clear ho5 hg5 hm5 ho4 HB HC e1
                  go_wp2_with fail
                  go_roundw
                  case rel =>
                    refine ⟨j + 1, m5, b5, c5, rfl, by go_num, HLT.out, ?_, ⟨HO5.out.1, HO5.out.2⟩, HB5.out⟩
                    have h1 := HO5.out.1
                    have h2 := HLE.out
                    have h3 := HPL.out
                    have h4 := HSL.out
                    have h5 := HYL.out
                    rw [List.length_append] at h1
                    omega
                  case measure => have := HLT.out; simp [intOf]; omega
                · have h1 : ¬ (j : Int) < (i : Int) := by omega
                  have hjl : l.take j = l := List.take_of_length_le (by rw [← HN.out]; omega)
                  have HO := HX.out
                  rw [hjl] at HO
                  obtain ⟨Z, hZ⟩ : ∃ Z, Z = Y ++ Rec.txs l := ⟨_, rfl⟩
                  rw [← hZ] at HO
                  have hcv := conv_own w.heap.size m Z _ _ HO.1.symm HO.2
                  have q3 : R = nums Z := by
                    rw [HR.out, if_pos HXX.out.1.symm, ← HXX.out.2.2, hZ, HY.out, HS.out, HU.out, HN.out]
                    unfold Rec.payF
                    simp only [List.append_assoc]
                  have HQ3 := Hid.mk' q3
                  clear hjl hlt hji HX hZ HO q3
                  go_wp2_with fail
                  go_ret3
                  exact ⟨ret_tup3 (by rw [HQ3.out]; rfl) (by rw [← HXX.out.1]; rfl) (by rw [← HXX.out.2.1]; rfl), HB.out⟩
end Go.Proofs.Ytchhdkmflppjhaa
