/-
  The document's own Decode of chapter 17. Conditions: as it says.
-/
import Derived.Test.YtchhdkmflppjhaaEnE
import Derived.Test.YtchhdkmflppjhaaEnC
import Derived.Test.YtchhdkmflppjhaaRcN
import Derived.Test.YtchhdkmflppjhaaEnG
namespace Go.Proofs.Ytchhdkmflppjhaa
open Go.RowKit
set_option linter.unusedVariables false
set_option linter.unusedSimpArgs false
theorem st_of_step (s : ByteArray) (k a : Nat) (p : Int) : Rec.stF s (k + 1) a p = if (stepS (rdAt s a) p).2.1 ≠ 0 then ((stepS (rdAt s a) p).2.1, [], a) else ((Rec.stF s k (a + (rdAt s a).2.2) (stepS (rdAt s a) p).1).1, (stepS (rdAt s a) p).1 :: (Rec.stF s k (a + (rdAt s a).2.2) (stepS (rdAt s a) p).1).2.1, (Rec.stF s k (a + (rdAt s a).2.2) (stepS (rdAt s a) p).1).2.2) := by
  rw [Rec.stF]
  show (if (rdAt s a).2.1 ≠ 0 then _ else _) = _
  unfold stepS
  by_cases h : (rdAt s a).2.1 ≠ 0
  · rw [if_pos h, if_pos h, if_pos h]
    rfl
  · rw [if_neg h, if_neg h]
    by_cases h2 : Code.zag (rdAt s a).1 < -p ∨ Rec.MS - p < Code.zag (rdAt s a).1
    · rw [if_pos h2, if_pos (by exact h2), if_pos (by intro h; cases h)]
    · rw [if_neg h2, if_neg (by exact h2), if_neg (fun h => h rfl)]
      rfl
theorem step_ok (s : ByteArray) (a : Nat) (p : Int) (ha : a ≤ s.size) (h : (stepS (rdAt s a) p).2.1 = 0) : 0 ≤ (stepS (rdAt s a) p).1 ∧ (stepS (rdAt s a) p).1 ≤ 253402300799999 ∧ 1 ≤ (rdAt s a).2.2 ∧ a + (rdAt s a).2.2 ≤ s.size := by
  unfold stepS at h ⊢
  by_cases h1 : (rdAt s a).2.1 ≠ 0
  · rw [if_pos h1] at h
    exact absurd h h1
  · rw [if_neg h1] at h ⊢
    by_cases h2 : Code.zag (rdAt s a).1 < -p ∨ Rec.MS - p < Code.zag (rdAt s a).1
    · rw [if_pos h2] at h
      cases h
    · rw [if_neg h2]
      have h3 : (Code.rd ((Sums.bl s).drop a)).2.1 = 0 := by simpa [rdAt] using h1
      obtain ⟨_, q2, q3, _⟩ := Rec.rd_step s a ha h3
      have q4 := Code.uint_pos (Code.rd ((Sums.bl s).drop a)).1
      have hms : Rec.MS = 253402300799999 := rfl
      refine ⟨?_, ?_, ?_, q2⟩
      · show 0 ≤ p + _
        omega
      · show p + _ ≤ _
        omega
      · show 1 ≤ (Code.rd ((Sums.bl s).drop a)).2.2
        omega
/-- what Decode keeps while it reads: its Reader in the block that it took first -/
structure D7 (g : Nat) (s : ByteArray) (a : Nat) (w W : World) : Prop where
  rd : Rd7 g s a W
  bel : Below g w W
theorem D7.read {g : Nat} {s : ByteArray} {a b : Nat} {w W W' : World} (h : D7 g s a w W) (hr : Rd7 g s b W') (ho : Only g W W') : D7 g s b w W' :=
  ⟨hr, h.bel.trans (ho.below (Nat.le_refl _) (Nat.le_of_lt h.rd.lt))⟩
theorem row_read {g n e sz : Nat} {W W' : World} {v : Value} {xs : List Value} (h : W.ownsRow (g + 1) e sz v n xs) (ho : Only g W W') : W'.ownsRow (g + 1) e sz v n xs :=
  row_kept h fun k hk => ho.block k (h.lt k hk).2 (by have := (h.lt k hk).1; omega)
theorem D7.put {g n e sz : Nat} {s : ByteArray} {a : Nat} {w W W' : World} {v : Value} {xs : List Value} {o : Obj} (h : D7 g s a w W) (hrow : W.ownsRow (g + 1) e sz v n xs) (hg : (W.alloc o).grownBy W' v.ownBlock) : D7 g s a w W' := by
  have hl := h.rd.lt
  have hb : Below (g + 1) W W' := ((Below.refl (g + 1) W).alloc hl o).grown hg (by simp; omega) (fun k hk => (hrow.lt k hk).1)
  exact ⟨(hb.block g (Nat.lt_succ_self _)).trans h.rd, h.bel.trans ⟨hb.os, hb.tape, hb.output, hb.size, fun k hk => hb.block k (by omega)⟩⟩
theorem rows_apart {w : World} {B e1 e2 s1 s2 n1 n2 : Nat} {v1 v2 : Value} {x1 x2 : List Value} (h1 : w.ownsRow B e1 s1 v1 n1 x1) (h2 : w.ownsRow B e2 s2 v2 n2 x2) (he : e1 ≠ e2) {k : Nat} (hk : v1.ownBlock = some k) : v2.ownBlock ≠ some k := by
  rcases h1.2 with ⟨rfl, _⟩ | ⟨g, cap, cur, rfl, _, hh, _⟩
  · cases hk
  · have e : g = k := by simpa [Value.ownBlock] using hk
    subst e
    exact own_ty h2 hh he
theorem row_addr {w : World} {B e n sz c : Nat} {p : Option Addr} {xs : List Value} (h : w.ownsRow B e sz (.slice p n c) n xs) (hn : 0 < n) : ∃ q, p = some ⟨q, 0, none⟩ ∧ B ≤ q ∧ q < w.heap.size := by
  rcases h.2 with ⟨h1, h2⟩ | ⟨g, cap, cur, h1, hb, hg, hr⟩
  · omega
  · cases h1
    exact ⟨g, rfl, hb, (Array.getElem?_eq_some_iff.1 hg).1⟩
theorem nat2_getD (l : List Nat) (i : Nat) (h : i < l.length) : (nat2 l).getD i 0 = ((l.getD i 0 : Nat) : Int) := by
  unfold nat2
  rw [List.getD_eq_getElem?_getD, List.getElem?_map, List.getD_eq_getElem?_getD, List.getElem?_eq_getElem h]
  rfl
theorem drop_getD {α : Type} (l : List α) (d : α) (i : Nat) (h : i < l.length) : l.drop i = l.getD i d :: l.drop (i + 1) := by
  have e : l[i] = l.getD i d := by rw [List.getD_eq_getElem?_getD, List.getElem?_eq_getElem h]; rfl
  rw [← e]
  exact List.drop_eq_getElem_cons h
theorem getD_mem {l : List Nat} {P : Nat → Prop} (h : ∀ x ∈ l, P x) (i : Nat) (hi : i < l.length) : P (l.getD i 0) := by
  rw [List.getD_eq_getElem?_getD, List.getElem?_eq_getElem hi]
  exact h _ (List.getElem_mem _)
def bare (S : List Int) : List Rec.Ln := S.map fun x => (x, ⟨#[]⟩)
theorem bare_len (S : List Int) : (bare S).length = S.length := List.length_map ..
theorem bare_snoc (S : List Int) (x : Int) : bare (S ++ [x]) = bare S ++ [(x, ⟨#[]⟩)] := by unfold bare; rw [List.map_append]; rfl
theorem lnV_set1 : ∀ (M : List Rec.Ln) (j : Nat) (t : ByteArray), (lnV M).set (j * 2 + 1) (.string t) = lnV (M.set j ((M.getD j noL).1, t))
  | [], j, t => rfl
  | y :: M, 0, t => rfl
  | y :: M, j + 1, t => by
    have h := lnV_set1 M j t
    rw [lnV, show (j + 1) * 2 + 1 = j * 2 + 1 + 1 + 1 by omega, List.set_cons_succ, List.set_cons_succ, h, List.set_cons_succ, lnV, List.getD_cons_succ]
theorem put_text {g gq gs k cc c2 j m2 x : Nat} {s t : ByteArray} {w V : World} {pre : List Rec.Ln} {st : Int} {S : List Int} {N : List Int} (hd : D7 g s m2 w V) (h1 : V.ownsRow (g + 1) 35 2 (.slice (some ⟨gq, 0, none⟩) k cc) k (lnV (pre ++ bare (st :: S)))) (h2 : V.ownsRow (g + 1) 3 1 (.slice (some ⟨gs, 0, none⟩) k c2) k (itv N)) (hj : pre.length = j) (hgq : g + 1 ≤ gq) :
    D7 g s x w ((V.setCell ⟨gq, j * 2 + 1, none⟩ (.string t)).setCell ⟨g, 1, none⟩ (.int .i64 (x : Int))) ∧ ((V.setCell ⟨gq, j * 2 + 1, none⟩ (.string t)).setCell ⟨g, 1, none⟩ (.int .i64 (x : Int))).ownsRow (g + 1) 35 2 (.slice (some ⟨gq, 0, none⟩) k cc) k (lnV ((pre ++ [(st, t)]) ++ bare S)) ∧ ((V.setCell ⟨gq, j * 2 + 1, none⟩ (.string t)).setCell ⟨g, 1, none⟩ (.int .i64 (x : Int))).ownsRow (g + 1) 3 1 (.slice (some ⟨gs, 0, none⟩) k c2) k (itv N) := by
  have a1 := h1.stored (j * 2 + 1) (.string t)
  have e1 : (pre ++ bare (st :: S)).getD j noL = (st, ⟨#[]⟩) := by
    rw [List.getD_eq_getElem?_getD, List.getElem?_append_right (by omega), ← hj, Nat.sub_self]
    rfl
  have e2 : (pre ++ bare (st :: S)).set j (st, t) = (pre ++ [(st, t)]) ++ bare S := by
    rw [List.set_append_right _ _ (by omega), ← hj, Nat.sub_self, List.append_assoc]
    rfl
  have r1 := a1.1
  rw [lnV_set1, e1, e2] at r1
  have i1 : (V.setCell ⟨gq, j * 2 + 1, none⟩ (.string t)).ownsRow (g + 1) 3 1 (.slice (some ⟨gs, 0, none⟩) k c2) k (itv N) := row_kept h2 fun y hy => a1.2.block y (h2.lt y hy).2 (fun e => rows_apart h2 h1 (by decide) hy (by rw [e]; rfl))
  have d1 : Rd7 g s m2 (V.setCell ⟨gq, j * 2 + 1, none⟩ (.string t)) := (((Below.refl (g + 1) V).setCell (p := ⟨gq, j * 2 + 1, none⟩) hgq (.string t)).block g (Nat.lt_succ_self _)).trans hd.rd
  have b1 : Below g w (V.setCell ⟨gq, j * 2 + 1, none⟩ (.string t)) := hd.bel.setCell (p := ⟨gq, j * 2 + 1, none⟩) (by show g ≤ gq; omega) _
  exact ⟨⟨(d1.set x).1, b1.setCell (p := ⟨g, 1, none⟩) (Nat.le_refl _) _⟩, row_read r1 (d1.set x).2, row_read i1 (d1.set x).2⟩
set_option maxHeartbeats 4000000 in
set_option maxRecDepth 100000 in
theorem rDecode_any (s : ByteArray) (w : World) (hs0 : s.size ≤ 1125899906842624) (R : Nat × List Rec.Ln × Nat) (hR : R = Rec.decF s) :
    Calls Try.prog 8 #[.string s] w fun e w' => DecP R.1 R.2.1 R.2.2 w e w' := by
  obtain ⟨i0, hi, hz0, hz1, hz2⟩ := info_parts infoLn
  obtain ⟨i9, hj, hy0, hy1, hy2⟩ := info_parts infoI
  unfold Rec.decF at hR
  by_cases hs : 131072 < s.size
  · rw [if_pos hs] at hR
    have hs' : (131072 : Int) < (s.size : Int) := by omega
    go_enter Try.func8, Try.ntmps8
    go_wp2_with fail
    go_ret3
    rw [hR]
    exact ⟨.slice none 0 0, rfl, fun h => absurd h (by decide), fun _ => rfl, Below.refl _ _⟩
  rw [if_neg hs] at hR
  have hs' : ¬ (131072 : Int) < (s.size : Int) := by omega
  have hle := Rec.rd_le s 0 (Nat.zero_le _)
  rw [List.drop_zero, Nat.zero_add] at hle
  have hclt := (Code.rd_lt (Sums.bl s) (Sums.bl_byt s)).1
  have hrd0 : rdAt s 0 = Code.rd (Sums.bl s) := rfl
  obtain ⟨g, hg⟩ : ∃ g, g = w.heap.size := ⟨_, rfl⟩
  obtain ⟨w0, hw0⟩ : ∃ w0, w0 = w.alloc (.cells (rdrC s 0).toArray 66) := ⟨_, rfl⟩
  have HD0 : Hid (D7 g s 0 w w0) := by
    rw [hw0, hg]
    exact ⟨heap_alloc_new w _, (Below.refl _ _).alloc (Nat.le_refl _) _⟩
  have HU : Hid (Calls Try.prog 28 #[.pointer (some ⟨g, 0, none⟩)] w0 fun e w' => e = .returned (.tuple #[.int .u64 ((Code.rd (Sums.bl s)).1 : Int), .int .i64 ((Code.rd (Sums.bl s)).2.1 : Int)]) ∧ Rd7 g s (Code.rd (Sums.bl s)).2.2 w' ∧ Only g w0 w') := by
    have := dUint_any g s 0 w0 HD0.out.rd (Nat.zero_le _) (by omega)
    rw [hrd0, Nat.zero_add] at this
    exact this
  have HW0 : Hid (w0 = w.alloc (.cells (rdrC s 0).toArray 66)) := hw0
  have HGG := Hid.mk' hg
  clear hrd0 hw0 hg
  obtain ⟨c, E0, p0, hq⟩ : ∃ c E0 p0, Code.rd (Sums.bl s) = (c, E0, p0) := ⟨_, _, _, rfl⟩
  rw [hq] at hR hle hclt HU
  simp only at hR hle hclt HU
  clear hq
  by_cases h0 : ¬ E0 = 0
  · rw [if_pos h0] at hR
    have HR := Hid.mk' hR
    have h0' : ((E0 : Int) == 0) = false := by simp; exact h0
    have H0 := Hid.mk' h0
    clear hR h0
    go_enter Try.func8, Try.ntmps8
    go_wp2_with fail
    rw [← HGG.out, show w.alloc (.cells #[.string s, .int .i64 0] 66) = w0 from HW0.out.symm]
    refine HU.out.mono ?_
    rintro e w2 ⟨rfl, hr2, ho2⟩
    have HD2 := Hid.mk' (HD0.out.read hr2 ho2)
    clear hr2 ho2
    go_wp2_with fail
    go_ret3
    exact ⟨.slice none 0 0, ret_tup3 rfl (val_int (by rw [HR.out])) (val_int (by rw [HR.out]; rfl)), fun h => absurd h (by rw [HR.out]; exact H0.out), fun _ => rfl, by rw [← HGG.out]; exact HD2.out.bel⟩
  have h0 : E0 = 0 := by omega
  rw [if_neg (by omega)] at hR
  subst h0
  have HR := Hid.mk' hR
  clear hR
  have HCL := Hid.mk' hclt
  have hc63 : (c : Int) < 18446744073709551616 := by omega
  have HC63 := Hid.mk' hc63
  clear hclt hc63
  go_enter Try.func8, Try.ntmps8
  go_wp2_with fail
  rw [← HGG.out, show w.alloc (.cells #[.string s, .int .i64 0] 66) = w0 from HW0.out.symm]
  refine HU.out.mono ?_
  rintro e w2 ⟨rfl, hr2, ho2⟩
  have HD2 := Hid.mk' (HD0.out.read hr2 ho2)
  clear hr2 ho2
  clear h0 HU HD0 HW0
  go_wp2_with fail
  go_loopw [7, 8, 9, 10, 11] (fun s7 s8 s9 s10 s11 wr => ∃ (i a : Nat) (p : Int) (S : List Int), ∃ b cc, s8 = .slice b i cc ∧ s9 = .int .i64 p ∧ s10 = .int .u64 (i : Int) ∧ i ≤ c ∧ i ≤ a ∧ a ≤ s.size ∧ 0 ≤ p ∧ p ≤ 253402300799999 ∧ Hid (D7 g s a w wr ∧ wr.ownsRow (g + 1) 35 2 (.slice b i cc) i (lnV (bare S)) ∧ S.length = i ∧ Rec.stF s c p0 0 = ((Rec.stF s (c - i) a p).1, S ++ (Rec.stF s (c - i) a p).2.1, (Rec.stF s (c - i) a p).2.2))) (fun _ _ _ s10 _ _ => c - (intOf s10).toNat)
  case atStart => exact ⟨0, p0, 0, [], none, 0, rfl, rfl, rfl, by omega, by omega, hle, by omega, by omega, HD2.out, World.ownsRow_nil _ _ _ _, rfl, rfl⟩
  case round =>
    obtain ⟨i, a, p, S, b, cc, rfl, rfl, rfl, hic, hia, has, hp0, hp1, HX⟩ := hrel
    by_cases hlt : i < c
    · have c1 := HX.out.1.rd.c1
      have HST := Hid.mk' (dStamp_any g s a p _ HX.out.1.rd hp0 hp1 has (by omega))
      have hok := step_ok s a p has
      have hstp := st_of_step s (c - (i + 1)) a p
      rw [show c - (i + 1) + 1 = c - i by omega] at hstp
      have hrel2 := HX.out.2.2.2
      rw [hstp] at hrel2
      obtain ⟨q1, q2, q3, hq⟩ : ∃ q1 q2 q3, stepS (rdAt s a) p = (q1, q2, q3) := ⟨_, _, _, rfl⟩
      obtain ⟨u, hu⟩ : ∃ u, u = (rdAt s a).2.2 := ⟨_, rfl⟩
      rw [hq, ← hu] at hok hrel2 HST
      simp only at hok hrel2 HST
      have HREL := Hid.mk' hrel2
      have HLT := Hid.mk' hlt
      have l1 : (i : Int) < (c : Int) := by omega
      have HI64 : Hid ((i : Int) + 1 < 18446744073709551616) := by have := HC63.out; unfold Hid; omega
      have hg0 : w.heap.size ≤ g := by rw [HGG.out]; exact Nat.le_refl _
      clear hstp hrel2 hq hu hlt hic
      by_cases he : q2 = 0
      · obtain ⟨k0, k1, k2, k3⟩ := hok he
        have he' : ((q2 : Nat) : Int) = 0 := by omega
        have HE := Hid.mk' he
        subst he
        have hi64 := HI64.out
        clear hok
        go_wp2_with fail
        refine HST.out.mono ?_
        rintro e w3 ⟨rfl, hr3, ho3⟩
        have HD3 := Hid.mk' (HX.out.1.read hr3 ho3)
        have hrow3 := row_read HX.out.2.1 ho3
        have hb3 : g + 1 ≤ w3.heap.size := HD3.out.rd.lt
        clear hr3 ho3 HST c1
        go_wp2_with (at_builtin; refine wpList_append_own _ rfl _ _ 23 rfl (g + 1) 35 i0 _ 2 24 Try.underlying23 hi hz0 hz1 hz2 rfl (by decide) _ _ _ rfl (hrow3.alloc _) ⟨_, 0, none⟩ 1 1 [.int .i64 q1, .string ⟨#[]⟩] rfl rfl (World.news_of_block (cs := #[.int .i64 q1, .string ⟨#[]⟩]) (t := 35) (fr := (0, 0)) (heap_alloc_new _ _)) (ln_one q1 ⟨#[]⟩) (by unfold maxLen; omega) (by omega) (by simp; omega) ?_)
        intro v4 w4 ho4 hg4 _
        have HD4 : Hid (D7 g s (a + u) w w4) := HD3.out.put hrow3 (o := .cells #[.int .i64 q1, .string ⟨#[]⟩] 35) hg4
        obtain ⟨b4, c4, rfl⟩ := row_shape ho4
        have ho4' : w4.ownsRow (g + 1) 35 2 (.slice b4 (i + 1) c4) (i + 1) (lnV (bare (S ++ [q1]))) := by
          rw [bare_snoc, lnV_append]
          exact ho4
        have HO4 := Hid.mk' ho4'
        have HSL : Hid ((S ++ [q1]).length = i + 1) := by
          unfold Hid
          rw [List.length_append, HX.out.2.2.1]
          rfl
        have HRL : Hid (Rec.stF s c p0 0 = ((Rec.stF s (c - (i + 1)) (a + u) q1).1, (S ++ [q1]) ++ (Rec.stF s (c - (i + 1)) (a + u) q1).2.1, (Rec.stF s (c - (i + 1)) (a + u) q1).2.2)) := by
          have := HREL.out
          rw [if_neg (fun h => h rfl)] at this
          rw [Hid, this, List.append_assoc]
          rfl
        clear ho4 ho4' hg4 hrow3 HREL
        go_wp2_with fail
        go_roundw
        case rel => exact ⟨i + 1, a + u, q1, S ++ [q1], b4, c4, rfl, rfl, by go_num, HLT.out, by omega, k3, k0, k1, HD4.out, HO4.out, HSL.out, HRL.out⟩
        case measure => have := HLT.out; simp [intOf]; omega
      · obtain ⟨E, hE⟩ : ∃ E : Int, E = ((q2 : Nat) : Int) := ⟨_, rfl⟩
        rw [← hE] at HST
        have he' : (E == 0) = false := by rw [beq_eq_false_iff_ne]; omega
        have HEE := Hid.mk' hE
        clear hE
        have HE := Hid.mk' he
        have hR := HR.out
        have h2 := HREL.out
        rw [if_pos he] at h2
        rw [h2, if_pos (by exact he)] at hR
        have HR2 := Hid.mk' hR
        clear hok he hR h2 HREL HR
        go_wp2_with fail
        refine HST.out.mono ?_
        rintro e w3 ⟨rfl, hr3, ho3⟩
        have HD3 := Hid.mk' (HX.out.1.read hr3 ho3)
        clear hr3 ho3 HST c1 hp0 hp1 l1 hs' hia hs0 hs has hle hg0
        have hnb : (E != 0) = true := by rw [bne_iff_ne]; have := HEE.out; have := HE.out; omega
        have hdc : decide (E = 0) = false := decide_eq_false (by have := HEE.out; have := HE.out; omega)
        go_upto_region 14 with fail
        clear he'
        go_wp2_with fail
        go_ret3
        exact ⟨.slice none 0 0, ret_tup3 rfl (val_int (by rw [HR2.out]; exact HEE.out)) (val_int (by rw [HR2.out])), fun h => absurd h (by rw [HR2.out]; exact HE.out), fun _ => rfl, by rw [← HGG.out]; exact HD3.out.bel⟩
    · obtain rfl : i = c := by omega
      have l1 : ¬ (i : Int) < (i : Int) := by omega
      have hx := HX.out.2.2.2
      rw [Nat.sub_self] at hx
      have hx2 : Rec.stF s i p0 0 = (0, S, a) := by
        rw [hx]
        show (0, S ++ [], a) = _
        rw [List.append_nil]
      have hR := HR.out
      rw [hx2, if_neg (fun h => h rfl)] at hR
      simp only at hR
      have HR2 := Hid.mk' hR
      have HSL := Hid.mk' HX.out.2.2.1
      have HDX := Hid.mk' (And.intro HX.out.1 HX.out.2.1)
      have hi1 : i ≤ 131072 := by omega
      clear hx hx2 hR HR HX hlt hic hp0 hp1 HD2 HC63 HCL
      obtain ⟨RL, hRL⟩ : ∃ RL, RL = Rec.lnF s i a := ⟨_, rfl⟩
      rw [← hRL] at HR2
      have HRL := Hid.mk' hRL
      clear hRL
      go_wp2_with fail
      go_loopw [12, 13, 14, 15, 16] (fun s12 s13 s14 s15 s16 wr => ∃ (k m : Nat) (N : List Nat), ∃ b2 c2, s12 = .slice b2 k c2 ∧ s13 = .int .i64 (k : Int) ∧ k ≤ i ∧ m ≤ s.size ∧ Hid (D7 g s m w wr ∧ wr.ownsRow (g + 1) 35 2 (.slice b i cc) i (lnV (bare S)) ∧ wr.ownsRow (g + 1) 3 1 (.slice b2 k c2) k (itv (nat2 N)) ∧ N.length = k ∧ (∀ x ∈ N, x ≤ 8192) ∧ RL = ((Rec.lnF s (i - k) m).1, N ++ (Rec.lnF s (i - k) m).2.1, (Rec.lnF s (i - k) m).2.2))) (fun _ s13 _ _ _ _ => i - (intOf s13).toNat)
      case atStart => exact ⟨0, a, [], none, 0, rfl, rfl, by omega, has, HDX.out.1, HDX.out.2, World.ownsRow_nil _ _ _ _, rfl, by simp, HRL.out⟩
      case round =>
        rename World => wr0
        obtain ⟨k, m, N, b2, c2, rfl, rfl, hki, hms, HX⟩ := hrel
        rename World => wr
        clear HDX
        by_cases hlt : k < i
        · have c1 := HX.out.1.rd.c1
          have HUI := Hid.mk' (dUint_any g s m _ HX.out.1.rd hms (by omega))
          have hln : Rec.lnF s (i - k) m = (if (rdAt s m).2.1 ≠ 0 then ((rdAt s m).2.1, [], m) else if 8192 < (rdAt s m).1 then (170, [], m) else ((Rec.lnF s (i - (k + 1)) (m + (rdAt s m).2.2)).1, (rdAt s m).1 :: (Rec.lnF s (i - (k + 1)) (m + (rdAt s m).2.2)).2.1, (Rec.lnF s (i - (k + 1)) (m + (rdAt s m).2.2)).2.2)) := by
            rw [show i - k = i - (k + 1) + 1 by omega]
            rfl
          have hrel2 := HX.out.2.2.2.2.2
          rw [hln] at hrel2
          have hml := (rdAt_lt s m hms).2
          obtain ⟨q1, q2, q3, hq⟩ : ∃ q1 q2 q3, rdAt s m = (q1, q2, q3) := ⟨_, _, _, rfl⟩
          rw [hq] at hrel2 HUI hml
          simp only at hrel2 HUI hml
          have HREL := Hid.mk' hrel2
          have HLT := Hid.mk' hlt
          have l1 : (k : Int) < (i : Int) := by omega
          clear hln hrel2 hq hlt hki
          by_cases he : q2 = 0
          · subst he
            by_cases hbig : 8192 < q1
            · have hbi : (8192 : Int) < (q1 : Int) := by omega
              have h2 := HREL.out
              rw [if_neg (fun h => h rfl), if_pos hbig] at h2
              have hR := HR2.out
              rw [h2, if_pos (by intro h; cases h)] at hR
              have HR3 := Hid.mk' hR
              clear h2 hR hbig HREL
              go_wp2_with fail
              refine HUI.out.mono ?_
              rintro e w3 ⟨rfl, hr3, ho3⟩
              have HD3 := Hid.mk' (HX.out.1.read hr3 ho3)
              clear hr3 ho3 HUI c1
              go_wp2_with fail
              go_ret3
              exact ⟨.slice none 0 0, ret_tup3 rfl (val_int (by rw [HR3.out]; rfl)) (val_int (by rw [HR3.out])), fun h => absurd h (by rw [HR3.out]; intro h; cases h), fun _ => rfl, by rw [← HGG.out]; exact HD3.out.bel⟩
            · have hbi : ¬ (8192 : Int) < (q1 : Int) := by omega
              have h2 := HREL.out
              rw [if_neg (fun h => h rfl), if_neg hbig] at h2
              have HR3 := Hid.mk' h2
              have hq8 : q1 ≤ 8192 := by omega
              have hqi : IntKind.i64.wrap (q1 : Int) = (q1 : Int) := by rw [IntKind.wrap_i64]; omega
              clear h2 hbig HREL
              go_wp2_with fail
              refine HUI.out.mono ?_
              rintro e w3 ⟨rfl, hr3, ho3⟩
              have HD3 := Hid.mk' (HX.out.1.read hr3 ho3)
              have hrow3 := row_read HX.out.2.2.1 ho3
              have hln3 := row_read HX.out.2.1 ho3
              have HLN3 := Hid.mk' hln3
              have hb3 : g + 1 ≤ w3.heap.size := HD3.out.rd.lt
              clear hr3 ho3 HUI c1 hln3
              go_wp2_with (at_builtin; refine wpList_append_own _ rfl _ _ 58 rfl (g + 1) 3 i9 (.int .i64 0) 1 8 Try.underlying58 hj hy0 hy1 hy2 rfl (by decide) _ _ _ rfl (hrow3.alloc _) ⟨w3.heap.size, 0, none⟩ 1 1 [.int .i64 (q1 : Int)] rfl rfl (cell_one_new _ _ _) (by simp [Value.oneCell']) (by unfold maxLen; omega) (by omega) (by simp; omega) ?_)
              intro v4 w4 ho4 hg4 _
              have HD4 : Hid (D7 g s (m + q3) w w4) := HD3.out.put hrow3 (o := .cells #[.int .i64 (q1 : Int)] 3) hg4
              have hln4 : w4.ownsRow (g + 1) 35 2 (.slice b i cc) i (lnV (bare S)) := row_kept HLN3.out fun x hx => (hg4.block x (by have := (HLN3.out.lt x hx).2; simp; omega) (fun e => rows_apart HLN3.out hrow3 (by decide) hx e.symm)).trans (Below.heap_alloc w3 _ x (HLN3.out.lt x hx).2)
              have HLN4 := Hid.mk' hln4
              obtain ⟨b4, c4, rfl⟩ := row_shape ho4
              have ho4' : w4.ownsRow (g + 1) 3 1 (.slice b4 (k + 1) c4) (k + 1) (itv (nat2 (N ++ [q1]))) := by
                unfold itv nat2 at ho4 ⊢
                rw [List.map_append, List.map_append]
                exact ho4
              have HO4 := Hid.mk' ho4'
              have HN1 : Hid ((N ++ [q1]).length = k + 1 ∧ (∀ x ∈ N ++ [q1], x ≤ 8192) ∧ RL = ((Rec.lnF s (i - (k + 1)) (m + q3)).1, (N ++ [q1]) ++ (Rec.lnF s (i - (k + 1)) (m + q3)).2.1, (Rec.lnF s (i - (k + 1)) (m + q3)).2.2)) := by
                refine ⟨by rw [List.length_append, HX.out.2.2.2.1]; rfl, fun x hx => ?_, by rw [HR3.out, List.append_assoc]; rfl⟩
                rcases List.mem_append.1 hx with h | h
                · exact HX.out.2.2.2.2.1 x h
                · rw [List.mem_singleton.1 h]
                  exact hq8
              clear ho4 ho4' hg4 hrow3 hln4
              go_wp2_with fail
              go_roundw
              case rel => exact ⟨k + 1, m + q3, N ++ [q1], b4, c4, rfl, by go_num, HLT.out, hml, HD4.out, HLN4.out, HO4.out, HN1.out.1, HN1.out.2.1, HN1.out.2.2⟩
              case measure => have := HLT.out; simp [intOf]; omega
          · obtain ⟨E, hE⟩ : ∃ E : Int, E = ((q2 : Nat) : Int) := ⟨_, rfl⟩
            rw [← hE] at HUI
            have h2 := HREL.out
            rw [if_pos he] at h2
            have hR := HR2.out
            rw [h2, if_pos (by exact he)] at hR
            have HR3 := Hid.mk' hR
            have HEE := Hid.mk' hE
            have HE := Hid.mk' he
            have hnb : (E != 0) = true := by rw [bne_iff_ne]; omega
            have hdc : decide (E = 0) = false := decide_eq_false (by omega)
            have heb : (E == 0) = false := by rw [beq_eq_false_iff_ne]; omega
            clear h2 hR HREL hE he
            go_wp2_with fail
            refine HUI.out.mono ?_
            rintro e w3 ⟨rfl, hr3, ho3⟩
            have HD3 := Hid.mk' (HX.out.1.read hr3 ho3)
            clear hr3 ho3 HUI c1
            go_upto_region 25 with fail
            clear heb
            go_wp2_with fail
            go_ret3
            exact ⟨.slice none 0 0, ret_tup3 rfl (val_int (by rw [HR3.out]; exact HEE.out)) (val_int (by rw [HR3.out])), fun h => absurd h (by rw [HR3.out]; exact HE.out), fun _ => rfl, by rw [← HGG.out]; exact HD3.out.bel⟩
        · obtain rfl : k = i := by omega
          have l1 : ¬ (k : Int) < (k : Int) := by omega
          have hx := HX.out.2.2.2.2.2
          rw [Nat.sub_self] at hx
          have hx2 : RL = (0, N, m) := by
            rw [hx]
            show (0, N ++ [], m) = _
            rw [List.append_nil]
          have hR := HR2.out
          rw [hx2, if_neg (fun h => h rfl)] at hR
          simp only at hR
          have HR3 := Hid.mk' hR
          clear hx hx2 hR HR2 HRL hlt hki
          have HNL := Hid.mk' HX.out.2.2.2.1
          have HN8 := Hid.mk' HX.out.2.2.2.2.1
          have HDX := Hid.mk' (And.intro HX.out.1 (And.intro HX.out.2.1 HX.out.2.2.1))
          clear HX
          go_wp2_with fail
          go_loopw [17, 18] (fun s17 s18 wr => ∃ (j m2 : Nat) (pre : List Rec.Ln), s17 = .int .i64 (j : Int) ∧ j ≤ k ∧ m2 ≤ s.size ∧ Hid (D7 g s m2 w wr ∧ wr.ownsRow (g + 1) 35 2 (.slice b k cc) k (lnV (pre ++ bare (S.drop j))) ∧ wr.ownsRow (g + 1) 3 1 (.slice b2 k c2) k (itv (nat2 N)) ∧ pre.length = j ∧ R = ((Rec.txF s (S.drop j) (N.drop j) m2).1, pre ++ (Rec.txF s (S.drop j) (N.drop j) m2).2.1, (Rec.txF s (S.drop j) (N.drop j) m2).2.2))) (fun s17 _ _ => k - (intOf s17).toNat)
          case atStart => exact ⟨0, m, [], rfl, by omega, hms, HDX.out.1, HDX.out.2.1, HDX.out.2.2, rfl, HR3.out⟩
          case round =>
            rename World => wr1
            obtain ⟨j, m2, pre, rfl, hjk, hm2, HX⟩ := hrel
            rename World => wr
            clear HDX HR3
            by_cases hlt : j < k
            · have c1 := HX.out.1.rd.c1
              obtain ⟨gq, rfl, hgq, hgq2⟩ := row_addr HX.out.2.1 (by omega)
              obtain ⟨gs, rfl, hgs, hgs2, hcs⟩ := row_some HX.out.2.2.1 (by omega)
              have e2 := hcs j hlt
              rw [nat2_getD N j (by rw [HNL.out]; exact hlt)] at e2
              have hn8 := getD_mem HN8.out j (by rw [HNL.out]; exact hlt)
              have hd1 := drop_getD S 0 j (by rw [HSL.out]; exact hlt)
              have hd2 := drop_getD N 0 j (by rw [HNL.out]; exact hlt)
              obtain ⟨st, hst⟩ : ∃ st, st = S.getD j 0 := ⟨_, rfl⟩
              obtain ⟨n, hn⟩ : ∃ n, n = N.getD j 0 := ⟨_, rfl⟩
              rw [← hst] at hd1
              rw [← hn] at hd2 e2 hn8
              have hrl := HX.out.2.2.2.2
              rw [hd1, hd2, Rec.txF] at hrl
              have HRL := Hid.mk' hrl
              have HD1 := Hid.mk' hd1
              obtain ⟨T, hT⟩ : ∃ T, T = m2 + n := ⟨_, rfl⟩
              have hTi : (m2 : Int) + (n : Int) = (T : Int) := by omega
              have HT := Hid.mk' hT
              have HLT := Hid.mk' hlt
              have l1 : (j : Int) < (k : Int) := by omega
              have l0 : (0 : Int) ≤ (j : Int) := by omega
              have hTw : IntKind.i64.wrap ((m2 : Int) + (n : Int)) = (T : Int) := by rw [IntKind.wrap_i64]; omega
              clear hst hn hcs hd1 hd2 hrl hlt hjk
              by_cases hsh : s.size < T
              · have hx := HRL.out
                rw [if_pos (by rw [← HT.out]; exact hsh)] at hx
                have HX2 := Hid.mk' hx
                have hsi : (s.size : Int) < (T : Int) := by omega
                have gd : decide ((s.size : Int) < (T : Int)) = true := decide_eq_true hsi
                clear hx hsh hT
                go_wp2_with fail
                go_quiet (fail)
                go_wp2_with fail
                go_ret3
                exact ⟨.slice none 0 0, ret_tup3 rfl (val_int (by rw [HX2.out]; rfl)) (val_int (by rw [HX2.out])), fun h => absurd h (by rw [HX2.out]; intro h; cases h), fun _ => rfl, by rw [← HGG.out]; exact (HX.out.1.bel).drewN' _⟩
              · have hx := HRL.out
                rw [if_neg (by rw [← HT.out]; exact hsh)] at hx
                have HX2 := Hid.mk' hx
                have hsi : ¬ (s.size : Int) < (T : Int) := by omega
                have gd : decide ((s.size : Int) < (T : Int)) = false := decide_eq_false hsi
                have gd2 : decide (s.size < T) = false := decide_eq_false hsh
                have hTs : T ≤ s.size := by omega
                clear hx hsh HRL hT
                go_wp2_with fail
                go_quiet (fail)
                go_wp2_with fail
                go_loopw [18] (fun s18 wy => ∃ x kk : Nat, s18 = .int .i64 (x : Int) ∧ m2 ≤ x ∧ x ≤ T ∧ Hid (∀ y, m2 ≤ y → y < x → (Sums.bl s).getD y 0 ≠ 10) ∧ wy = wr.drewN kk) (fun s18 _ => T - (intOf s18).toNat)
                case atStart => exact ⟨m2, _, rfl, Nat.le_refl _, by omega, fun y h1 h2 => by omega, rfl⟩
                case round =>
                  obtain ⟨x, kk, rfl, hx0, hxT, HNO, rfl⟩ := hrel
                  by_cases hxl : x < T
                  · obtain ⟨ch, hch⟩ : ∃ ch, ch = (Sums.bl s).getD x 0 := ⟨_, rfl⟩
                    have hidx := ix7 s x ch (by omega) hch
                    have hxi : (x : Int) < (T : Int) := by omega
                    have gx : decide ((x : Int) < (T : Int)) = true := decide_eq_true hxi
                    have hx9 : (0 : Int) ≤ (x : Int) := by omega
                    have HXL := Hid.mk' hxl
                    have HCH := Hid.mk' hch
                    clear hch
                    by_cases hten : ch = 10
                    · have hp := Rec.piece_first s m2 n x (by rw [← HT.out]; exact hTs) hx0 (by rw [← HT.out]; exact hxl) HNO.out (by rw [← HCH.out]; exact hten)
                      have hx2 := HX2.out
                      rw [if_pos hp.1, hp.2] at hx2
                      have HX3 := Hid.mk' hx2
                      have hci : ((ch : Nat) : Int) = 10 := by omega
                      clear hp hx2 hxl
                      subst hten
                      go_wp2_with fail
                      go_quiet (fail)
                      go_wp2_with fail
                      go_ret3
                      exact ⟨.slice none 0 0, ret_tup3 rfl (val_int (by rw [HX3.out]; rfl)) (val_int (by rw [HX3.out])), fun h => absurd h (by rw [HX3.out]; intro h; cases h), fun _ => rfl, by rw [← HGG.out]; exact (HX.out.1.bel).drewN' _⟩
                    · have hnb : ((ch : Int) == 10) = false := by rw [beq_eq_false_iff_ne]; omega
                      have hnd : decide ((ch : Int) = 10) = false := decide_eq_false (by omega)
                      have HNO2 : Hid (∀ y, m2 ≤ y → y < x + 1 → (Sums.bl s).getD y 0 ≠ 10) := fun y h1 h2 => by
                        by_cases hy : y < x
                        · exact HNO.out y h1 hy
                        · obtain rfl : y = x := by omega
                          rw [← HCH.out]
                          exact hten
                      clear hxl hten
                      go_wp2_with fail
                      go_quiet (fail)
                      go_wp2_with fail
                      go_roundw
                      case rel => exact ⟨x + 1, _, by go_num, by omega, HXL.out, HNO2.out, rfl⟩
                      case measure => have := HXL.out; simp [intOf]; omega
                  · obtain rfl : x = T := by omega
                    have hxi : ¬ (x : Int) < (x : Int) := by omega
                    have gx : decide ((x : Int) < (x : Int)) = false := decide_eq_false hxi
                    have hnn := Rec.piece_none s m2 n (by rw [← HT.out]; exact hTs) (fun y h1 h2 => HNO.out y h1 (by rw [HT.out]; exact h2))
                    have hx2 := HX2.out
                    rw [if_neg hnn] at hx2
                    have HX3 := Hid.mk' hx2
                    have hoat := (own_at HX.out.2.1 j HLT.out).2
                    have hofz := HX.out.2.1.frozenAt (j * 2 + 1)
                    have hcfz : wr.frozen? ⟨g, 1, none⟩ = false := HX.out.1.rd.fz
                    have hgg : g ≠ gq := by omega
                    have hgg2 : gs ≠ g := by omega
                    have hgs3 : gs ≠ gq := fun e => by
                      subst e
                      exact rows_apart HX.out.2.1 HX.out.2.2.1 (by decide) (k := gs) rfl rfl
                    have hmx : (m2 : Int) ≤ (x : Int) := by omega
                    clear hnn hx2 hxl hxT
                    go_wp2_with fail
                    go_quiet (fail)
                    go_upto_region 38 with fail
                    go_region
                    go_wp2_with fail
                    go_region
                    go_wp2_with fail
                    go_roundw
                    case rel =>
                      have hpt := fun q : Nat => put_text (V := wr.drewN q) (st := st) (S := S.drop (j + 1)) (t := s.extract m2 x) (x := x) ⟨HX.out.1.rd, HX.out.1.bel.drewN' q⟩ (by rw [← HD1.out]; exact HX.out.2.1) HX.out.2.2.1 HX.out.2.2.2.1 hgq
                      refine ⟨j + 1, x, pre ++ [(st, s.extract m2 x)], by go_num, HLT.out, hTs, ⟨(hpt (kk + nq + 1)).1.rd, (hpt (kk + nq + 1)).1.bel.drewN' 1⟩, (hpt (kk + nq + 1)).2.1, (hpt (kk + nq + 1)).2.2, by rw [List.length_append, HX.out.2.2.2.1]; rfl, ?_⟩
                      rw [HX3.out, HT.out, List.append_assoc]
                      rfl
                    case measure => have := HLT.out; simp [intOf]; omega
            · obtain rfl : j = k := by omega
              have hrl := HX.out.2.2.2.2
              rw [List.drop_of_length_le (by rw [HSL.out]; exact Nat.le_refl _), List.drop_of_length_le (by rw [HNL.out]; exact Nat.le_refl _), Rec.tx_nil] at hrl
              have hro := HX.out.2.1
              rw [List.drop_of_length_le (l := S) (by rw [HSL.out]; exact Nat.le_refl _)] at hro
              have hro2 : wr.ownsRow (g + 1) 35 2 (.slice b j cc) j (lnV pre) := by
                have e : pre ++ bare [] = pre := List.append_nil _
                rw [e] at hro
                exact hro
              have HRO := Hid.mk' hro2
              have l1 : ¬ (j : Int) < (j : Int) := by omega
              have c1 := HX.out.1.rd.c1
              have hpl := HX.out.2.2.2.1
              have HPL := Hid.mk' hpl
              clear hro hro2 hpl hlt hjk
              by_cases hsh : m2 < s.size
              · rw [if_pos hsh] at hrl
                have HX2 := Hid.mk' hrl
                have hsi : (m2 : Int) < (s.size : Int) := by omega
                have gd : decide ((m2 : Int) < (s.size : Int)) = true := decide_eq_true hsi
                clear hrl hsh
                go_wp2_with fail
                first
                  | (go_quiet (fail); go_wp2_with fail; go_ret3; exact ⟨.slice none 0 0, ret_tup3 rfl (val_int (by rw [HX2.out]; rfl)) (val_int (by rw [HX2.out])), fun h => absurd h (by rw [HX2.out]; intro h; cases h), fun _ => rfl, by rw [← HGG.out]; exact (HX.out.1.bel).drewN' _⟩)
                  | (go_ret3; exact ⟨.slice none 0 0, ret_tup3 rfl (val_int (by rw [HX2.out]; rfl)) (val_int (by rw [HX2.out])), fun h => absurd h (by rw [HX2.out]; intro h; cases h), fun _ => rfl, by rw [← HGG.out]; exact HX.out.1.bel⟩)
              · rw [if_neg hsh] at hrl
                have HX2 := Hid.mk' hrl
                have hsi : ¬ (m2 : Int) < (s.size : Int) := by omega
                have gd : decide ((m2 : Int) < (s.size : Int)) = false := decide_eq_false hsi
                clear hrl hsh
                have hfin : (R.1 = 0 → wr.ownsRow w.heap.size 35 2 (.slice b j cc) R.2.1.length (lnV R.2.1)) := fun _ => by
                  rw [HX2.out]
                  show wr.ownsRow w.heap.size 35 2 (.slice b j cc) (pre ++ []).length (lnV (pre ++ []))
                  rw [List.append_nil, HPL.out]
                  exact own_mono HRO.out (by rw [HGG.out]; omega)
                have HFIN := Hid.mk' hfin
                clear hfin
                go_wp2_with fail
                first
                  | (go_ret3; exact ⟨.slice b j cc, ret_tup3 rfl (val_int (by rw [HX2.out]; rfl)) (val_int (by rw [HX2.out]; rfl)), HFIN.out, fun h => absurd (by rw [HX2.out]) h, by rw [← HGG.out]; exact HX.out.1.bel⟩)
                  | (go_quiet (fail); go_wp2_with fail; go_ret3; exact ⟨.slice b j cc, ret_tup3 rfl (val_int (by rw [HX2.out]; rfl)) (val_int (by rw [HX2.out]; rfl)), HFIN.out, fun h => absurd (by rw [HX2.out]) h, by rw [← HGG.out]; exact (HX.out.1.bel).drewN' _⟩)
end Go.Proofs.Ytchhdkmflppjhaa
