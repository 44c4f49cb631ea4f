/-
  The document's Packed: the packing of a text with these copies. Conditions: as it says.
-/
import Derived.Test.YtchjmhgalbkjkaaRfk
import Derived.Deep.RegionHeld3
import Derived.Deep.AppendLies
import Derived.Deep.DeepCutAuto
import Derived.Deep.CutBlock
namespace Go.Proofs.Ytchjmhgalbkjkaa
open Go.RowKit
set_option linter.unusedVariables false
theorem row_eq {w : World} {base n m : Nat} {v : Value} {xs ys : List Value} (h : w.ownsRow base 5 1 v n xs) (hn : n = m) (hx : xs = ys) : w.ownsRow base 5 1 v m ys := by
  subst hn
  subst hx
  exact h
/-- out's row, and what stays beside it -/
structure Po (base : Nat) (w0 : World) (ov : Value) (L : List Nat) (w : World) : Prop where
  row : w.ownsRow base 5 1 ov L.length (byv L)
  ap : Ap base w0 w
  siz : base ≤ w.heap.size
/-- the same behind the last sequence -/
def PoEnd (s : ByteArray) (l : List Lz.Cp) (w0 : World) (ov : Value) (j i : Nat) (L : List Nat) (w : World) : Prop :=
  (j ≤ l.length ∧ Wr s l w0.heap.size w0 ov j i L w) ∨ (j = l.length + 1 ∧ L = Lz.packed (Sums.bl s) 0 l ∧ Po w0.heap.size w0 ov L w)
theorem PoEnd.shape {s : ByteArray} {l : List Lz.Cp} {w0 w : World} {ov : Value} {j i : Nat} {L : List Nat} (h : PoEnd s l w0 ov j i L w) : ∃ b cap, ov = .slice b L.length cap := by
  rcases h with h | h
  · exact own_shape h.2.row
  · exact own_shape h.2.2.row
theorem Po.add1 {base : Nat} {w0 w w' : World} {ov : Value} {L L1 : List Nat} {v' : Value} {o : Obj} {t : Nat} (h : Po base w0 ov L w) (hL : L1 = L ++ [t]) (ho : w'.ownsRow base 5 1 v' (L.length + 1) (byv L ++ [.int .u8 (t : Int)])) (hg : (w.alloc o).grownBy w' ov.ownBlock) : Po base w0 v' L1 w' := by
  have hh := ap_add h.ap h.row h.siz hg
  refine ⟨row_eq ho (by rw [hL]; simp) (by rw [hL, byv_append]; rfl), hh.1, hh.2⟩
theorem Po.add2 {base : Nat} {w0 w w' : World} {ov : Value} {L L1 : List Nat} {v' : Value} {o : Obj} {t u : Nat} (h : Po base w0 ov L w) (hL : L1 = L ++ [t, u]) (ho : w'.ownsRow base 5 1 v' (L.length + 2) (byv L ++ [.int .u8 (t : Int), .int .u8 (u : Int)])) (hg : (w.alloc o).grownBy w' ov.ownBlock) : Po base w0 v' L1 w' := by
  have hh := ap_add h.ap h.row h.siz hg
  refine ⟨row_eq ho (by rw [hL]; simp) (by rw [hL, byv_append]; rfl), hh.1, hh.2⟩
theorem Po.addL {base : Nat} {w0 w w' : World} {ov : Value} {L L1 B : List Nat} {v' : Value} (h : Po base w0 ov L w) (hL : L1 = L ++ B) (ho : w'.ownsRow base 5 1 v' (L.length + B.length) (byv L ++ byv B)) (hg : w.grownBy w' ov.ownBlock) : Po base w0 v' L1 w' :=
  ⟨row_eq ho (by rw [hL]; simp) (by rw [hL, byv_append]), h.ap.grown h.row h.siz hg, Nat.le_trans h.siz hg.size⟩
theorem Po.addS {base : Nat} {w0 w w' : World} {ov : Value} {L L1 : List Nat} {T : ByteArray} {v' : Value} (h : Po base w0 ov L w) (hL : L1 = L ++ Sums.bl T) (ho : w'.ownsRow base 5 1 v' (L.length + T.size) (byv L ++ Go.Lib.strCells T)) (hg : w.grownBy w' ov.ownBlock) : Po base w0 v' L1 w' :=
  ⟨row_eq ho (by rw [hL]; simp [Sums.bl_length]) (by rw [hL, byv_append, strc_byv]), h.ap.grown h.row h.siz hg, Nat.le_trans h.siz hg.size⟩
theorem Po.thru {base : Nat} {w0 w w' : World} {ov : Value} {L : List Nat} (h : Po base w0 ov L w) (ha : Ap w.heap.size w w') : Po base w0 ov L w' :=
  ⟨row_through h.row ha.below, h.ap.trans (ha.low h.siz), Nat.le_trans h.siz ha.below.size⟩
theorem Po.back {s : ByteArray} {l : List Lz.Cp} {w0 w : World} {ov : Value} {j i : Nat} {L : List Nat} (h : Wr s l w0.heap.size w0 ov j i L w) : Po w0.heap.size w0 ov L w := ⟨h.row, h.ap, h.siz⟩
set_option maxRecDepth 100000 in
set_option maxHeartbeats 2000000 in
theorem refPacked_any (s : ByteArray) (cv : Value) (l : List Lz.Cp) (w0 : World) (hs : s.size ≤ 4294967296) (hcp : CprR w0 cv l) (hl : okc s.size 0 l) :
    Calls Try.prog 24 #[.string s, cv] w0 fun e w' => e = .returned (.string (nums (Lz.packed (Sums.bl s) 0 l))) ∧ Ap w0.heap.size w0 w' := by
  obtain ⟨i0, hi, hz0, hz1, hz2⟩ := info_parts infoB
  have hshape : ∃ b cap, cv = .slice b l.length cap := by
    rcases hcp with ⟨rfl, rfl⟩ | ⟨g, cap, cur, fz, rfl, _⟩
    · exact ⟨none, 0, rfl⟩
    · exact ⟨_, cap, rfl⟩
  obtain ⟨b, cap, rfl⟩ := hshape
  have HCP := Hid.mk' hcp
  have HL := Hid.mk' hl
  have hst : PoEnd s l w0 (.slice none 0 0) 0 0 [] w0 := .inl ⟨Nat.zero_le _, World.ownsRow_nil _ _ _ _, rfl, Nat.zero_le _, hl, Ap.refl _ _, Nat.le_refl _⟩
  have HST := Hid.mk' hst
  obtain ⟨P, hP⟩ : ∃ P, Lz.packed (Sums.bl s) 0 l = P := ⟨_, rfl⟩
  have hPl := packed_len (Sums.bl s) l 0 (Nat.zero_le _) (by rw [Sums.bl_length]; exact hl)
  rw [hP, Sums.bl_length] at hPl
  rw [hP]
  have HP := Hid.mk' hP
  have hlen := okc_len s.size l 0 (Nat.zero_le _) hl
  clear hst hl hcp hP
  obtain ⟨nl, hnl⟩ : ∃ nl, l.length = nl := ⟨_, rfl⟩
  rw [hnl] at hlen ⊢
  have HNL := Hid.mk' hnl
  clear hnl
  go_enter Try.func24, Try.ntmps24
  go_wp2
  go_loopw [5, 6, 7] (fun ov iv jv wr => ∃ (j i : Nat) (L : List Nat), iv = .int .i64 (i : Int) ∧ jv = .int .i64 (j : Int) ∧ j ≤ nl + 1 ∧ Hid (PoEnd s l w0 ov j i L wr)) (fun _ _ jv _ => nl + 2 - (intOf jv).toNat)
  case atStart => exact ⟨0, 0, [], rfl, rfl, Nat.zero_le _, HST⟩
  case round =>
    obtain ⟨j, i, L, rfl, rfl, hj, hpo⟩ := hrel
    clear HST
    obtain ⟨b1, cap1, rfl⟩ := hpo.out.shape
    by_cases hje : j = nl + 1
    · have hjI : ¬ (j : Int) ≤ (nl : Int) := by omega
      have hfin : L = P ∧ Po w0.heap.size w0 (.slice b1 L.length cap1) L wr := by
        rcases hpo.out with h | ⟨_, h2, h3⟩
        · have := HNL.out
          omega
        · exact ⟨h2.trans HP.out, h3⟩
      obtain ⟨rfl, hfo⟩ := hfin
      have hcv := conv_own w0.heap.size _ _ wr _ rfl hfo.row
      have HFO := Hid.mk' hfo
      clear hfo hpo
      go_wp2
      go_ret
      exact ⟨rfl, HFO.out.ap⟩
    · have hjI : (j : Int) ≤ (nl : Int) := by omega
      have hwr : Wr s l w0.heap.size w0 (.slice b1 L.length cap1) j i L wr := by
        rcases hpo.out with h | ⟨h1, _⟩
        · exact h.2
        · have := HNL.out
          omega
      clear hpo
      have hLs := hwr.small HL.out
      have hile := hwr.le
      have hbw := hwr.siz
      have HPO := Hid.mk' (Po.back hwr)
      by_cases hjl : j = nl
      · have hlt : ¬ (j : Int) < (nl : Int) := by omega
        have hd : l.drop j = [] := List.drop_eq_nil_of_le (by have := HNL.out; omega)
        have heq := hwr.eq
        rw [hd, Lz.packed] at heq
        obtain ⟨T, hT⟩ : ∃ T, s.extract i s.size = T := ⟨_, rfl⟩
        have hTs : T.size = s.size - i := by rw [← hT]; exact exts s i s.size hile (Nat.le_refl _)
        have hTb : Sums.bl T = (Sums.bl s).drop i := by rw [← hT]; exact Sums.bl_drop s i
        rw [← hTb] at heq
        obtain ⟨tl, htl⟩ : ∃ tl, s.size - i = tl := ⟨_, rfl⟩
        have htlI : (s.size : Int) - (i : Int) = (tl : Int) := by omega
        obtain ⟨h2, hh2⟩ : ∃ h2, min tl 15 = h2 := ⟨_, rfl⟩
        obtain ⟨B2, hB2⟩ : ∃ B2, Lz.lenb tl = B2 := ⟨_, rfl⟩
        have hB2l : B2.length ≤ tl + 1 := by
          have := lenb_len tl
          rw [← hB2]
          omega
        have HH := Hid.mk' (fun w => refHalf_any tl w (by omega))
        rw [hh2, hB2] at HH
        obtain ⟨tk, htk⟩ : ∃ tk, 16 * h2 = tk := ⟨_, rfl⟩
        have htkI : 16 * (h2 : Int) = (tk : Int) := by omega
        have htk256 : tk < 256 := by omega
        have hh2b : h2 ≤ 15 := by omega
        obtain ⟨L1, hL1⟩ : ∃ L1, L1 = L ++ [tk] := ⟨_, rfl⟩
        obtain ⟨L2, hL2⟩ : ∃ L2, L2 = L1 ++ B2 := ⟨_, rfl⟩
        obtain ⟨L3, hL3⟩ : ∃ L3, L3 = L2 ++ Sums.bl T := ⟨_, rfl⟩
        have hL1l : L1.length ≤ 17179869189 := by rw [hL1]; simp; omega
        have hL2l : L2.length ≤ 34359738368 := by rw [hL2]; simp; omega
        have hfin : L3 = Lz.packed (Sums.bl s) 0 l := by
          rw [← heq, hL3, hL2, hL1, Lz.lits, Sums.bl_length, hTs, htl, hh2, hB2]
          simp [← htk]
        have HE1 := Hid.mk' hL1
        have HE2 := Hid.mk' hL2
        have HE3 := Hid.mk' hL3
        have HF := Hid.mk' hfin
        have hTl : T.size ≤ 4294967296 := by omega
        clear hwr heq hd hTb hB2 hL1 hL2 hL3 hfin htk htl hh2 hTs
        go_wp2_with (first | (go_at_call 43; refine (HH.out _).mono ?_; rintro e w1 ⟨lv, rfl, hrl, hap1⟩; have HP1 := Hid.mk' (HPO.out.thru hap1); have HW1 := Hid.mk' (away_new HPO.out.row hrl (Nat.le_refl _)); have HRL := Hid.mk' hrl; have hs1 := HP1.out.siz; obtain ⟨lb, lcap, rfl⟩ := own_shape hrl; clear hrl hap1) | (at_builtin; refine wpList_append_own_at _ rfl _ _ 58 rfl w0.heap.size 5 i0 (.int .u8 0) 1 1 Try.underlying58 hi hz0 hz1 hz2 rfl (by decide) (.slice b1 L.length cap1) L.length (byv L) rfl (by exact (own_alloc HP1.out.row _)) ⟨_, 0, none⟩ 1 1 [.int .u8 (tk : Int)] rfl rfl (n1_news _ _ _) (byv_one [tk]) (by unfold maxLen; omega) (by omega) (by simp; omega) ?_; intro v2 w2 hown2 hgrow2 _ hat2; have HP2 := Hid.mk' (HP1.out.add1 HE1.out hown2 hgrow2); have HN2 := Hid.mk' (away_next (own_alloc HRL.out _) HW1.out hgrow2 hat2); have hs2 := HP2.out.siz; obtain ⟨b2, cap2, rfl⟩ := own_shape HP2.out.row; clear hown2 hgrow2 hat2) | (at_builtin; refine wpList_append_rows_at rfl _ _ rfl w0.heap.size (.slice b2 L1.length cap2) L1.length (byv L1) rfl (by exact HP2.out.row) _ (.slice lb B2.length lcap) B2 rfl (by exact HN2.out.1) (by unfold maxLen; omega) (by omega) hs2 ?_; intro v3 w3 hown3 hgrow3 hat3; have HP3 := Hid.mk' (HP2.out.addL HE2.out hown3 hgrow3); have hs3 := HP3.out.siz; obtain ⟨b3, cap3, rfl⟩ := own_shape HP3.out.row; clear hown3 hgrow3 hat3) | (at_builtin; refine wpList_append_string_at _ rfl _ _ 58 9 rfl w0.heap.size 5 i0 Try.underlying58 Try.underlying9 hi hz0 hz1 hz2 (.slice b3 L2.length cap3) L2.length (byv L2) rfl (by exact HP3.out.row) T rfl (by unfold maxLen; omega) (by omega) hs3 ?_; intro v4 w4 hown4 hgrow4 hat4; have HP4 := Hid.mk' (HP3.out.addS HE3.out hown4 hgrow4); obtain ⟨b4, cap4, rfl⟩ := own_shape HP4.out.row; clear hown4 hgrow4 hat4) | fail)
        go_roundw
        case rel => exact ⟨j + 1, i, L3, rfl, by simp; omega, by omega, .inr ⟨by have := HNL.out; omega, HF.out, HP4.out⟩⟩
        case measure =>
          simp [intOf]
          omega
      · have hltN : j < l.length := by have := HNL.out; omega
        have hlt : (j : Int) < (nl : Int) := by omega
        obtain ⟨c, hc⟩ : ∃ c, l[j]? = some c := ⟨_, List.getElem?_eq_getElem hltN⟩
        have hsome : ∃ g, b = some ⟨g, 0, none⟩ := by
          rcases HCP.out with ⟨h, h1⟩ | ⟨g, _, _, _, h, _⟩
          · rw [h1] at hltN
            simp at hltN
          · simp only [Value.slice.injEq] at h
            exact ⟨g, h.1⟩
        obtain ⟨g, rfl⟩ := hsome
        obtain ⟨ca, co, cn⟩ := c
        have HCL : Hid (∀ W, Ap w0.heap.size w0 W → W.cell? ⟨g, j * 3, none⟩ = some (.int .i64 (ca : Int)) ∧ W.cell? ⟨g, j * 3 + 1, none⟩ = some (.int .i64 (co : Int)) ∧ W.cell? ⟨g, j * 3 + 2, none⟩ = some (.int .i64 (cn : Int))) := fun W hW => (HCP.out.keep hW.keep).cells j ⟨ca, co, cn⟩ hc
        obtain ⟨k1, k2, k3⟩ := HCL.out wr hwr.ap
        have hok := hwr.ok
        have heq := hwr.eq
        rw [List.drop_eq_getElem_cons hltN] at hok heq
        rw [List.getElem?_eq_getElem hltN, Option.some.injEq] at hc
        rw [hc] at hok heq
        obtain ⟨o1, o2, o3, o4, o5⟩ := hok
        simp only at o1 o2 o3 o4 o5
        have HOK := Hid.mk' o5
        obtain ⟨be, hbe⟩ : ∃ be, cn = 4 + be := ⟨cn - 4, by omega⟩
        have hbeI : (cn : Int) - 4 = (be : Int) := by omega
        obtain ⟨e2, he2⟩ : ∃ e2, ca + cn = e2 := ⟨_, rfl⟩
        have he2I : (ca : Int) + (cn : Int) = (e2 : Int) := by omega
        have hcas : ca ≤ s.size := by omega
        obtain ⟨T, hT⟩ : ∃ T, s.extract i ca = T := ⟨_, rfl⟩
        have hTs : T.size = ca - i := by rw [← hT]; exact exts s i ca o1 hcas
        have hTb : Sums.bl T = ((Sums.bl s).take ca).drop i := by rw [← hT]; exact Sums.bl_extract s i ca
        obtain ⟨tl, htl⟩ : ∃ tl, ca - i = tl := ⟨_, rfl⟩
        have htlI : (ca : Int) - (i : Int) = (tl : Int) := by omega
        obtain ⟨x0, hx0⟩ : ∃ x0, co % 256 = x0 := ⟨_, rfl⟩
        obtain ⟨x1, hx1⟩ : ∃ x1, co / 256 = x1 := ⟨_, rfl⟩
        have hx0I : (co : Int) % 256 = (x0 : Int) := by omega
        have hx1I : (co : Int) / 256 = (x1 : Int) := by omega
        have hx1b : x1 < 256 := by omega
        obtain ⟨h1, hh1⟩ : ∃ h1, min be 15 = h1 := ⟨_, rfl⟩
        obtain ⟨h2, hh2⟩ : ∃ h2, min tl 15 = h2 := ⟨_, rfl⟩
        obtain ⟨B1, hB1⟩ : ∃ B1, Lz.lenb be = B1 := ⟨_, rfl⟩
        obtain ⟨B2, hB2⟩ : ∃ B2, Lz.lenb tl = B2 := ⟨_, rfl⟩
        have hB1l : B1.length ≤ be + 1 := by
          have := lenb_len be
          rw [← hB1]
          omega
        have hB2l : B2.length ≤ tl + 1 := by
          have := lenb_len tl
          rw [← hB2]
          omega
        have HH1 := Hid.mk' (fun w => refHalf_any be w (by omega))
        have HH2 := Hid.mk' (fun w => refHalf_any tl w (by omega))
        rw [hh1, hB1] at HH1
        rw [hh2, hB2] at HH2
        obtain ⟨tk, htk⟩ : ∃ tk, 16 * h2 + h1 = tk := ⟨_, rfl⟩
        have htkI : 16 * (h2 : Int) + (h1 : Int) = (tk : Int) := by omega
        have htk256 : tk < 256 := by omega
        have hh2b : h2 ≤ 15 := by omega
        have hh1b : h1 ≤ 15 := by omega
        obtain ⟨L1, hL1⟩ : ∃ L1, L1 = L ++ [tk] := ⟨_, rfl⟩
        obtain ⟨L2, hL2⟩ : ∃ L2, L2 = L1 ++ B2 := ⟨_, rfl⟩
        obtain ⟨L3, hL3⟩ : ∃ L3, L3 = L2 ++ Sums.bl T := ⟨_, rfl⟩
        obtain ⟨L4, hL4⟩ : ∃ L4, L4 = L3 ++ [x0, x1] := ⟨_, rfl⟩
        obtain ⟨L5, hL5⟩ : ∃ L5, L5 = L4 ++ B1 := ⟨_, rfl⟩
        have hL1l : L1.length ≤ 17179869189 := by rw [hL1]; simp; omega
        have hL2l : L2.length ≤ 34359738368 := by rw [hL2]; simp; omega
        have hL3l : L3.length ≤ 68719476736 := by rw [hL3]; simp [Sums.bl_length]; omega
        have hL4l : L4.length ≤ 68719476738 := by rw [hL4]; simp; omega
        have hfin : L5 ++ Lz.packed (Sums.bl s) e2 (l.drop (j + 1)) = Lz.packed (Sums.bl s) 0 l := by
          rw [← heq, hL5, hL4, hL3, hL2, hL1, Lz.packed, ← he2]
          simp only [Lz.lits]
          rw [show cn - 4 = be by omega, hx0, hx1, ← hTb, Sums.bl_length, hTs, htl, hh2, hB2, hh1, hB1, htk]
          simp
        have HE1 := Hid.mk' hL1
        have HE2 := Hid.mk' hL2
        have HE3 := Hid.mk' hL3
        have HE4 := Hid.mk' hL4
        have HE5 := Hid.mk' hL5
        have HF := Hid.mk' hfin
        have HEE := Hid.mk' he2
        have hTl : T.size ≤ 4294967296 := by omega
        have hbb : be ≤ 4294967296 := by omega
        have htlb : tl ≤ 4294967296 := by omega
        have he2s : e2 ≤ s.size := by omega
        clear hwr heq o5 hc hTb hB1 hB2 hL1 hL2 hL3 hL4 hL5 hfin htk htl hh1 hh2 hTs hx0 hx1 hbe he2
        go_upto_region 17 with (first | (go_at_call_of 43 be; refine (HH1.out _).mono ?_; rintro e w1 ⟨mv, rfl, hrm, hap1⟩; have HP1 := Hid.mk' (HPO.out.thru hap1); have HW1 := Hid.mk' (away_new HPO.out.row hrm (Nat.le_refl _)); have HRM := Hid.mk' hrm; obtain ⟨mb, mcap, rfl⟩ := own_shape hrm; clear hrm hap1) | (go_at_call_of 43 tl; refine (HH2.out _).mono ?_; rintro e w2 ⟨lv, rfl, hrl, hap2⟩; have HP2 := Hid.mk' (HP1.out.thru hap2); have HM2 := Hid.mk' (row_through HRM.out hap2.below); have HW2 := Hid.mk' (away_new HP1.out.row hrl (Nat.le_refl _)); have HRL := Hid.mk' hrl; have hs2 := HP2.out.siz; obtain ⟨lb, lcap, rfl⟩ := own_shape hrl; clear hrl hap2) | (at_builtin; refine wpList_append_own_at _ rfl _ _ 58 rfl w0.heap.size 5 i0 (.int .u8 0) 1 1 Try.underlying58 hi hz0 hz1 hz2 rfl (by decide) (.slice b1 L.length cap1) L.length (byv L) rfl (by exact (own_alloc HP2.out.row _)) ⟨_, 0, none⟩ 1 1 [.int .u8 (tk : Int)] rfl rfl (n1_news _ _ _) (byv_one [tk]) (by unfold maxLen; omega) (by omega) (by simp; omega) ?_; intro v3 w3 hown3 hgrow3 _ hat3; have HP3 := Hid.mk' (HP2.out.add1 HE1.out hown3 hgrow3); have HN3 := Hid.mk' (away_next (own_alloc HRL.out _) HW2.out hgrow3 hat3); have HM3 := Hid.mk' (away_next (own_alloc HM2.out _) HW1.out hgrow3 hat3); have hs3 := HP3.out.siz; obtain ⟨b3, cap3, rfl⟩ := own_shape HP3.out.row; clear hown3 hgrow3 hat3) | (at_builtin; refine wpList_append_rows_at rfl _ _ rfl w0.heap.size (.slice b3 L1.length cap3) L1.length (byv L1) rfl (by exact HP3.out.row) _ (.slice lb B2.length lcap) B2 rfl (by exact HN3.out.1) (by unfold maxLen; omega) (by omega) hs3 ?_; intro v4 w4 hown4 hgrow4 hat4; have HP4 := Hid.mk' (HP3.out.addL HE2.out hown4 hgrow4); have HM4 := Hid.mk' (away_next HM3.out.1 HM3.out.2 hgrow4 hat4); have hs4 := HP4.out.siz; obtain ⟨b4, cap4, rfl⟩ := own_shape HP4.out.row; clear hown4 hgrow4 hat4) | (at_builtin; refine wpList_append_string_at _ rfl _ _ 58 9 rfl w0.heap.size 5 i0 Try.underlying58 Try.underlying9 hi hz0 hz1 hz2 (.slice b4 L2.length cap4) L2.length (byv L2) rfl (by exact HP4.out.row) T rfl (by unfold maxLen; omega) (by omega) hs4 ?_; intro v5 w5 hown5 hgrow5 hat5; have HP5 := Hid.mk' (HP4.out.addS HE3.out hown5 hgrow5); have HM5 := Hid.mk' (away_next HM4.out.1 HM4.out.2 hgrow5 hat5); have hs5 := HP5.out.siz; have n2 := (HCL.out w5 HP5.out.ap).2.1; obtain ⟨b5, cap5, rfl⟩ := own_shape HP5.out.row; clear hown5 hgrow5 hat5) | fail)
        have hx1Q : Int.tdiv (co : Int) 256 = (x1 : Int) := by
          rw [Int.tdiv_eq_ediv_of_nonneg (by omega)]
          exact hx1I
        have hx0w : IntKind.u8.wrap (co : Int) = (x0 : Int) := by
          rw [IntKind.wrap_u8]
          exact hx0I
        have hx1w : IntKind.i64.wrap (x1 : Int) = (x1 : Int) := by
          rw [IntKind.wrap_i64]
          omega
        have hx1u : IntKind.u8.wrap (x1 : Int) = (x1 : Int) := by
          rw [IntKind.wrap_u8]
          omega
        go_region_held3 (fun w' => w'.cell? ⟨g, j * 3 + 1, none⟩ = some (.int .i64 (co : Int))) (first | go_keep | exact n2)
          ((refine step_append_lies _ (by rfl) _ _ _ (by rfl) w0.heap.size 5 i0 (.int .u8 0) 1 1 Try.underlying58 hi hz0 hz1 hz2 rfl (by omega) (.slice b5 L3.length cap5) L3.length (byv L3) (by rfl) (by exact (own_alloc HP5.out.row _)) ⟨w5.heap.size, 0, none⟩ 2 2 [.int .u8 (x0 : Int), .int .u8 (x1 : Int)] (by rfl) (by rfl) (World.news_of_block (cs := #[.int .u8 (x0 : Int), .int .u8 (x1 : Int)]) (t := 5) (fr := (0, 0)) (by exact heap_alloc_new w5 _)) (byv_one [x0, x1]) (by omega) (by unfold maxLen; omega) (by omega) (by simp; omega) (w5.heap.size + 1) (by simp) ?_; intro g6 cap6 w6 hown6 hgrow6 hat6 hlt6; have HP6 := Hid.mk' (Po.add2 (w := w5.drew) ⟨HP5.out.row, HP5.out.ap.drewN 1, HP5.out.siz⟩ HE4.out hown6 hgrow6); have n2 : w6.cell? ⟨g, j * 3 + 1, none⟩ = some (.int .i64 (co : Int)) := (HCL.out w6 HP6.out.ap).2.1; have HM6 := Hid.mk' (away_next (o' := .slice (some ⟨g6, 0, none⟩) (L3.length + 2) cap6) (own_alloc (w := w5.drew) HM5.out.1 _) HM5.out.2 hgrow6 (by rcases hat6 with h | h; exact .inl h.symm; exact .inr (by rw [h]; simp [Value.ownBlock]))); have hs6 := HP6.out.siz; clear hown6 hgrow6 hat6 hlt6))
        go_wp2_with (first | (at_builtin; refine wpList_append_rows_at rfl _ _ rfl w0.heap.size (.slice (some ⟨g6, 0, none⟩) (L3.length + 2) cap6) L4.length (byv L4) rfl (by exact HP6.out.row) _ (.slice mb B1.length mcap) B1 rfl (by exact HM6.out.1) (by unfold maxLen; omega) (by omega) hs6 ?_; intro v7 w7 hown7 hgrow7 hat7; have HP7 := Hid.mk' (HP6.out.addL HE5.out hown7 hgrow7); have n3 := (HCL.out w7 HP7.out.ap).2.2; obtain ⟨b7, cap7, rfl⟩ := own_shape HP7.out.row; clear hown7 hgrow7 hat7) | fail)
        go_roundw
        case rel => exact ⟨j + 1, e2, L5, rfl, by simp, by omega, .inl ⟨by have := HNL.out; omega, HP7.out.row, HF.out, he2s, by rw [← HEE.out]; exact HOK.out, HP7.out.ap, HP7.out.siz⟩⟩
        case measure =>
          simp [intOf]
          omega
end Go.Proofs.Ytchjmhgalbkjkaa
