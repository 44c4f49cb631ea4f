/-
  record: the lines of a payload. Conditions: as each says.
-/
import Derived.Test.YtlplbnlfajdcbaaGreatDoorMgD
import Derived.Test.YtlplbnlfajdcbaaGreatDoorRcD
namespace Rec
open Code Sums
theorem stN_len : ∀ (l : List Int) (p : Int), l.length ≤ (stN p l).length
  | [], _ => Nat.le_refl _
  | x :: l, p => by
    rw [stN, List.length_append, List.length_cons]
    have := stN_len l x
    have := uint_pos (zig (x - p))
    omega
theorem tx_nil (s : ByteArray) (a : Nat) : txF s [] [] a = if a < s.size then (34, [], a) else (0, [], 0) := by unfold txF; rfl
end Rec
namespace Go.Proofs.YtlplbnlfajdcbaaGreatDoor
open Go.RowKit
set_option linter.unusedVariables false
def lnV : List Rec.Ln → List Value
  | [] => []
  | x :: l => .int .i64 x.1 :: .string x.2 :: lnV l
theorem lnV_append : ∀ (a b : List Rec.Ln), lnV (a ++ b) = lnV a ++ lnV b
  | [], b => rfl
  | x :: a, b => by rw [List.cons_append, lnV, lnV_append a b, lnV]; rfl
theorem infoLn : (Tryz.prog.info? 26).map (fun i => (i.zero, i.size, i.bytes)) = some (some (.agg #[.int .i64 0, .string ⟨#[]⟩]), 2, 24) := by kernel_rfl
theorem ln_one (x : Int) (t : ByteArray) : ∀ u ∈ [Value.int .i64 x, Value.string t], u.oneCell' = true := by
  intro u hu
  rcases List.mem_cons.1 hu with rfl | hu
  · rfl
  · rw [List.mem_singleton.1 hu]
    rfl
/-- what lines answers -/
def LnP (g : Nat) (err : Nat) (l : List Rec.Ln) (pos : Nat) (w : World) (e : Ending) (w' : World) : Prop :=
  ∃ v, e = .returned (.tuple #[v, .int .i64 (err : Int), .int .i64 (pos : Int)]) ∧ (err = 0 → w'.ownsRow w.heap.size 26 2 v l.length (lnV l)) ∧ (err ≠ 0 → v = .slice none 0 0) ∧ Only g w w'
set_option maxHeartbeats 2000000 in
set_option maxRecDepth 100000 in
theorem lines_any (B g : Nat) (s : ByteArray) (a0 : Nat) (S : List Int) (N : List Nat) (v1 v2 : Value) (w : World) (hr : Rdr g s a0 w) (h1 : w.ownsRow B 3 1 v1 S.length (itv S)) (h2 : w.ownsRow B 3 1 v2 (nat2 N).length (itv (nat2 N))) (hSN : S.length = N.length) (hSb : S.length ≤ 131072) (ha : a0 ≤ s.size) (hs : s.size ≤ 131072) (hN8 : ∀ x ∈ N, x ≤ 8192) (R : Nat × List Rec.Ln × Nat) (hR : R = Rec.txF s S N a0) :
    Calls Tryz.prog 108 #[.pointer (some ⟨g, 0, none⟩), v1, v2] w fun e w' => LnP g R.1 R.2.1 R.2.2 w e w' := by
  obtain ⟨i0, hi, hz0, hz1, hz2⟩ := info_parts infoLn
  have hnl : (nat2 N).length = S.length := by unfold nat2; rw [List.length_map, hSN]
  rw [hnl] at h2
  obtain ⟨b1, c1, rfl⟩ := row_shape h1
  obtain ⟨b2, c2, rfl⟩ := row_shape h2
  obtain ⟨n, hn⟩ : ∃ n, n = S.length := ⟨_, rfl⟩
  have HC : Hid (∀ W, Only g w W → ∀ i, i < n → ∃ q1 q2, b1 = some ⟨q1, 0, none⟩ ∧ b2 = some ⟨q2, 0, none⟩ ∧ W.cell? ⟨q1, i, none⟩ = some (.int .i64 (S.getD i 0)) ∧ W.cell? ⟨q2, i, none⟩ = some (.int .i64 ((N.getD i 0 : Nat) : Int))) := by
    intro W hW i hlt
    obtain ⟨q1, rfl, _, hq1, hc1⟩ := row_some h1 (by omega)
    obtain ⟨q2, rfl, _, hq2, hc2⟩ := row_some h2 (by omega)
    have ne1 : q1 ≠ g := fun e => by
      subst e
      exact own_ty h1 hr (by decide) rfl
    have ne2 : q2 ≠ g := fun e => by
      subst e
      exact own_ty h2 hr (by decide) rfl
    refine ⟨q1, q2, rfl, rfl, ?_, ?_⟩
    · rw [World.cell?_of_block (hW.block q1 hq1 ne1)]
      exact hc1 i (by omega)
    · rw [World.cell?_of_block (hW.block q2 hq2 ne2), hc2 i (by omega)]
      congr 2
      unfold nat2
      rw [List.getD_eq_getElem?_getD, List.getElem?_map, List.getD_eq_getElem?_getD, List.getElem?_eq_getElem (show i < N.length by omega)]
      rfl
  have HG : Hid (g < w.heap.size) := hr.lt
  have HR0 := Hid.mk' hr
  have HRR := Hid.mk' hR
  have HN := Hid.mk' hn
  have HSN := Hid.mk' hSN
  have HA0 := Hid.mk' ha
  have HN8 := Hid.mk' hN8
  have hnb : n ≤ 131072 := by omega
  rw [← hn]
  clear hr h1 h2 hnl hR hn hSN ha hSb hN8
  go_enter Tryz.func108, Tryz.ntmps108
  go_wp2_with (first | (at_make; refine wpList_make_own _ rfl _ _ 24 rfl w.heap.size 26 i0 _ 2 Tryz.underlying24 hi hz0 hz1 .i64 .i64 (n : Int) n rfl rfl rfl (by rw [hz2]; omega) (by unfold maxLen; omega) (Nat.le_refl _) ?_; intro w1 hownA hgrow) | fail)
  have HO1 : Hid (Only g w w1) := ⟨hgrow.os, hgrow.tape, hgrow.output, hgrow.size, fun k hk _ => hgrow.block k hk (by simp)⟩
  have HR1 : Hid (Rdr g s a0 w1) := (hgrow.block g HG.out (by simp)).trans HR0.out
  have HOA := Hid.mk' hownA
  clear hgrow hownA HR0
  go_loopw [9, 22] (fun s9 s22 wr => ∃ (a : Nat) (pre : List Rec.Ln), s22 = .int .i64 (pre.length : Int) ∧ pre.length ≤ n ∧ a ≤ s.size ∧ wr.ownsRow w.heap.size 26 2 s9 pre.length (lnV pre) ∧ Rdr g s a wr ∧ Only g w wr ∧ R = ((Rec.txF s (S.drop pre.length) (N.drop pre.length) a).1, pre ++ (Rec.txF s (S.drop pre.length) (N.drop pre.length) a).2.1, (Rec.txF s (S.drop pre.length) (N.drop pre.length) a).2.2)) (fun _ s22 _ => n - (intOf s22).toNat)
  case atStart => exact ⟨a0, [], rfl, Nat.zero_le _, HA0.out, HOA.out, HR1.out, HO1.out, by rw [HRR.out]; rfl⟩
  case round =>
    obtain ⟨a, pre, rfl, hpn, has, hown, hr, ht, hrel⟩ := hrel
    have HOWN := Hid.mk' hown
    have HT := Hid.mk' ht
    have HREL := Hid.mk' hrel
    have HR := Hid.mk' hr
    clear hown ht hrel hr HO1 HR1 HOA
    obtain ⟨b9, c9, rfl⟩ := row_shape HOWN.out
    obtain ⟨i, hii⟩ : ∃ i, i = pre.length := ⟨_, rfl⟩
    rw [← hii] at HOWN HREL hpn ⊢
    have HII := Hid.mk' hii
    clear hii
    by_cases hlt : i < n
    · obtain ⟨q1, q2, rfl, rfl, e1, e2⟩ := HC.out wr HT.out i hlt
      obtain ⟨st, hst⟩ : ∃ st, st = S.getD i 0 := ⟨_, rfl⟩
      obtain ⟨m, hm⟩ : ∃ m, m = N.getD i 0 := ⟨_, rfl⟩
      rw [← hst] at e1
      rw [← hm] at e2
      have hSl : i < S.length := by rw [← HN.out]; exact hlt
      have hNl : i < N.length := by rw [← HSN.out]; exact hSl
      have HD1 : Hid (S.drop i = st :: S.drop (i + 1)) := by
        have e3 : S[i] = st := by rw [hst, List.getD_eq_getElem?_getD, List.getElem?_eq_getElem hSl]; rfl
        rw [← e3]
        exact List.drop_eq_getElem_cons hSl
      have HD2 : Hid (N.drop i = m :: N.drop (i + 1)) := by
        have e3 : N[i] = m := by rw [hm, List.getD_eq_getElem?_getD, List.getElem?_eq_getElem hNl]; rfl
        rw [← e3]
        exact List.drop_eq_getElem_cons hNl
      have hm8 : m ≤ 8192 := by
        rw [hm, List.getD_eq_getElem?_getD, List.getElem?_eq_getElem hNl]
        exact HN8.out _ (List.getElem_mem _)
      have j0 : (0 : Int) ≤ (i : Int) := by omega
      have j1 : (i : Int) < (n : Int) := by omega
      have HLT := Hid.mk' hlt
      have hrl := HREL.out
      rw [HD1.out, HD2.out, Rec.txF] at hrl
      have HRL := Hid.mk' hrl
      have HPN := Hid.mk' hpn
      clear hst hm hSl hNl hlt hrl hpn
      by_cases hsh : s.size < a + m
      · have hx := HRL.out
        rw [if_pos hsh] at hx
        have HX := Hid.mk' hx
        have HTK := Hid.mk' (rtake_short g s a m wr HR.out has (by omega) hsh)
        have has' := has
        clear hx
        go_wp2_with fail
        refine (at_any g s a wr HR.out).mono ?_
        rintro e w' ⟨rfl, rfl⟩
        go_wp2_with fail
        refine HTK.out.mono ?_
        rintro e w2 ⟨rfl, kk, hw2⟩
        have HT2 : Hid (Only g w w2) := by rw [hw2]; exact HT.out.drewN kk
        have HR2 : Hid (Rdr g s a w2) := by rw [hw2]; exact HR.out
        clear hw2 HTK HT HR HOWN
        go_wp2_with fail
        refine (left_any g s a w2 HR2.out has (by omega)).mono ?_
        rintro e w3 ⟨rfl, kk, hw3⟩
        have HT3 : Hid (Only g w w3) := by rw [hw3]; exact HT2.out.drewN kk
        have hsum : IntKind.i64.wrap ((a : Int) + ((s.size - a : Nat) : Int)) = (s.size : Int) := by rw [IntKind.wrap_i64]; omega
        have hsum2 : (a : Int) + ((s.size - a : Nat) : Int) = (s.size : Int) := by omega
        clear hw3 HT2 HR2
        go_wp2_with fail
        go_ret3
        exact ⟨.slice none 0 0, ret_tup3 rfl (val_int (by rw [HX.out]; rfl)) (val_int (by rw [HX.out])), fun h => absurd h (by rw [HX.out]; intro h; cases h), fun _ => rfl, HT3.out⟩
      · have hx := HRL.out
        rw [if_neg hsh] at hx
        have HTK := Hid.mk' (rtake_in g s a m wr HR.out (by omega) (by omega) (by omega))
        obtain ⟨t, ht⟩ : ∃ t, t = s.extract a (a + m) := ⟨_, rfl⟩
        rw [← ht] at hx HTK
        have htm : t.size = m := by rw [ht, ByteArray.size_extract]; omega
        have HSH := Hid.mk' hsh
        clear ht hsh
        by_cases hnl : 0 ≤ Rec.nl t
        · rw [if_pos hnl] at hx
          have HX := Hid.mk' hx
          have hnlt := Rec.nl_lt t hnl
          obtain ⟨f, hf⟩ : ∃ f, f = Rec.nl t := ⟨_, rfl⟩
          rw [← hf] at hnl hnlt
          have HF := Hid.mk' hf
          have hsum : IntKind.i64.wrap ((a : Int) + f) = (a : Int) + f := by rw [IntKind.wrap_i64]; omega
          clear hx hf
          go_wp2_with fail
          refine (at_any g s a wr HR.out).mono ?_
          rintro e w' ⟨rfl, rfl⟩
          go_wp2_with fail
          refine HTK.out.mono ?_
          rintro e w2 ⟨rfl, hr2, ho2⟩
          have HT2 := Hid.mk' (HT.out.trans ho2)
          clear hr2 ho2 HTK HT HR HOWN
          go_wp2_with (go_at_call 115; refine (ixb_any _ _).mono ?_; rintro e w' ⟨rfl, rfl⟩; rw [← HF.out])
          go_ret3
          exact ⟨.slice none 0 0, ret_tup3 rfl (val_int (by rw [HX.out]; rfl)) (val_int (by rw [HX.out]; show _ = (((a + (Rec.nl t).toNat : Nat)) : Int); rw [← HF.out]; first | omega | (rw [hsum]; omega))), fun h => absurd h (by rw [HX.out]; intro h; cases h), fun _ => rfl, HT2.out⟩
        · rw [if_neg hnl] at hx
          have HX := Hid.mk' hx
          have hwn : IntKind.i64.wrap ((i : Int) + 1) = (i : Int) + 1 := by rw [IntKind.wrap_i64]; omega
          obtain ⟨f, hf⟩ : ∃ f, f = Rec.nl t := ⟨_, rfl⟩
          rw [← hf] at hnl
          have HF := Hid.mk' hf
          clear hx hf
          go_wp2_with fail
          refine (at_any g s a wr HR.out).mono ?_
          rintro e w' ⟨rfl, rfl⟩
          go_wp2_with fail
          refine HTK.out.mono ?_
          rintro e w2 ⟨rfl, hr2, ho2⟩
          have HT2 := Hid.mk' (HT.out.trans ho2)
          have HR2 := Hid.mk' hr2
          have hrow2 : w2.ownsRow w.heap.size 26 2 (.slice b9 i c9) i (lnV pre) := row_kept HOWN.out fun k hk => ho2.block k (HOWN.out.lt k hk).2 (by have := (HOWN.out.lt k hk).1; have := HG.out; omega)
          have hsz2 : w.heap.size ≤ w2.heap.size := HT2.out.size
          clear hr2 ho2 HTK HT HR HOWN
          go_wp2_with (first | (go_at_call 115; refine (ixb_any _ _).mono ?_; rintro e w' ⟨rfl, rfl⟩; rw [← HF.out]) | (at_builtin; refine wpList_append_own _ rfl _ _ 24 rfl w.heap.size 26 i0 _ 2 24 Tryz.underlying24 hi hz0 hz1 hz2 rfl (by decide) _ _ _ rfl (hrow2.alloc _) ⟨_, 0, none⟩ 1 1 [.int .i64 st, .string t] rfl rfl (World.news_of_block (cs := #[.int .i64 st, .string t]) (t := 26) (fr := (0, 0)) (heap_alloc_new _ _)) (ln_one st t) (by unfold maxLen; omega) (by omega) (by simp; omega) ?_; intro v' w3 hown' hgrow _; have hg' : (w'.alloc (.cells #[.int .i64 st, .string t] 26)).grownBy w3 (Value.slice b9 i c9).ownBlock := hgrow; have HOW := Hid.mk' hown'; have HK : Hid (∀ k, k < w.heap.size → w3.heap[k]? = w'.heap[k]?) := (fun k hk => (hg'.block k (by simp; omega) (fun e => by have := (hrow2.lt k e.symm).1; omega)).trans (Below.heap_alloc w' _ k (by omega))); have HT3 : Hid (Only g w w3) := ⟨hg'.os.trans HT2.out.os, hg'.tape.trans HT2.out.tape, hg'.output.trans HT2.out.output, Nat.le_trans hsz2 (Nat.le_trans (by simp) hg'.size), fun k hk h1 => (HK.out k hk).trans (HT2.out.block k hk h1)⟩; clear hown' hgrow hg') | fail)
          go_roundw
          case rel =>
            have hl2 : (pre ++ [(st, t)]).length = i + 1 := by rw [List.length_append, ← HII.out]; rfl
            refine ⟨a + m, pre ++ [(st, t)], ?_, by rw [hl2]; exact HLT.out, by have := HSH.out; omega, ?_, (HK.out g HG.out).trans HR2.out, HT3.out, ?_⟩
            · rw [hl2]
              go_num
            · rw [hl2, lnV_append]
              exact HOW.out
            · rw [hl2, HX.out, List.append_assoc]
              rfl
          case measure => have := HLT.out; simp [intOf]; omega
    · obtain rfl : i = n := by omega
      have hx := HREL.out
      have hd1 : S.drop i = [] := List.drop_of_length_le (by rw [← HN.out]; exact Nat.le_refl _)
      have hd2 : N.drop i = [] := List.drop_of_length_le (by rw [← HSN.out, ← HN.out]; exact Nat.le_refl _)
      rw [hd1, hd2, Rec.tx_nil] at hx
      have hlt' : ¬ (i : Int) < (i : Int) := by omega
      have HEND := Hid.mk' (end_any g s a wr HR.out has (by omega))
      by_cases hsh : a < s.size
      · rw [if_pos hsh] at hx
        rw [if_pos hsh] at HEND
        have HX := Hid.mk' hx
        clear hx hd1 hd2 hlt hsh
        go_wp2_with fail
        refine HEND.out.mono ?_
        rintro e w2 ⟨rfl, kk, hw2⟩
        have HT2 : Hid (Only g w w2) := by rw [hw2]; exact HT.out.drewN kk
        have HR2 : Hid (Rdr g s a w2) := by rw [hw2]; exact HR.out
        clear hw2 HEND HT HR HOWN
        go_wp2_with fail
        refine (at_any g s a w2 HR2.out).mono ?_
        rintro e w' ⟨rfl, rfl⟩
        go_wp2_with fail
        go_ret3
        exact ⟨.slice none 0 0, ret_tup3 rfl (val_int (by rw [HX.out]; rfl)) (val_int (by rw [HX.out])), fun h => absurd h (by rw [HX.out]; intro h; cases h), fun _ => rfl, HT2.out⟩
      · rw [if_neg hsh] at hx
        rw [if_neg hsh] at HEND
        have HX := Hid.mk' hx
        clear hx hd1 hd2 hlt hsh
        go_wp2_with fail
        refine HEND.out.mono ?_
        rintro e w2 ⟨rfl, kk, hw2⟩
        have HT2 : Hid (Only g w w2) := by rw [hw2]; exact HT.out.drewN kk
        have HO2 : Hid (w2.ownsRow w.heap.size 26 2 (.slice b9 i c9) i (lnV pre)) := by rw [hw2]; exact HOWN.out
        clear hw2 HEND HT HR HOWN
        go_wp2_with fail
        go_ret3
        have q1 : R.2.1 = pre := by rw [HX.out]; simp
        refine ⟨_, ret_tup3 rfl (val_int (by rw [HX.out]; rfl)) (val_int (by rw [HX.out]; rfl)), fun _ => ?_, fun h => absurd (by rw [HX.out]) h, HT2.out⟩
        rw [q1, ← HII.out]
        exact HO2.out
end Go.Proofs.YtlplbnlfajdcbaaGreatDoor
