/-
  Lz4Greedy returns true. Conditions: the text has at most 1048576 bytes; the list's cells are read as the argument's.
-/
import Derived.Test.YtchjmhgalbkjkaaCopD
import Derived.Test.YtchjmhgalbkjkaaLzL
import Derived.Test.YtchjmhgalbkjkaaSam
import Derived.Test.YtchjmhgalbkjkaaShn
import Derived.Deep.DeepCutAuto
import Derived.Deep.CutBlock
namespace Go.Proofs.Ytchjmhgalbkjkaa
open Go.RowKit Go.Shelf
set_option linter.unusedVariables false
set_option linter.unusedSimpArgs false
theorem lenb_le (n : Nat) : (Lz.lenb n).length ≤ n := by
  unfold Lz.lenb
  split
  · simp
  · simp
    omega
theorem lits_le (l : List Nat) (k : Nat) : (Lz.lits l k).length ≤ 2 * l.length + 1 := by
  have := lenb_le l.length
  simp [Lz.lits]
  omega
theorem packed_le (bs : List Nat) : ∀ (l : List Lz.Cp) (i : Nat), Lz.tru bs i l → i ≤ bs.length → (Lz.packed bs i l).length ≤ 2 * (bs.length - i) + 1
  | [], i, _, hi => by
    have := lits_le (bs.drop i) 0
    rw [List.length_drop] at this
    rw [Lz.packed]
    exact this
  | c :: l, i, ⟨h1, h2, h3⟩, hi => by
    obtain ⟨t1, t2, t3, t4, t5, t6, t7⟩ := h2
    have ih := packed_le bs l (c.at_ + c.cnt) h3 (by omega)
    have a1 := lits_le ((bs.take c.at_).drop i) (c.cnt - 4)
    rw [Lz.lit_len bs i c.at_ h1 (by omega)] at a1
    have a2 := lenb_le (c.cnt - 4)
    rw [Lz.packed]
    simp only [List.length_append, List.length_cons, List.length_nil]
    omega
theorem packC_le (s : ByteArray) (cs : List Lz.Cp) (h : Lz.tru (Sums.bl s) 0 cs) : (packC s cs).size ≤ 2 * s.size + 1 := by
  have h1 := packed_le (Sums.bl s) cs 0 h (Nat.zero_le _)
  have h2 : (packC s cs).size = (Lz.packed (Sums.bl s) 0 cs).length := by
    rw [← Sums.bl_length, packC_bl s cs h, lastT_bl, Lz.packed_enc]
  rw [Sums.bl_length] at h1
  omega
theorem four_at (s : ByteArray) (c : Nat) (hc : c + 4 ≤ s.size) : Sums.bl (s.extract c (c + 4)) = [(Sums.bl s).getD c 0, (Sums.bl s).getD (c + 1) 0, (Sums.bl s).getD (c + 2) 0, (Sums.bl s).getD (c + 3) 0] := by
  have hl := Sums.bl_length s
  rw [Sums.bl_extract]
  apply List.ext_getElem?
  intro i
  rw [List.getElem?_drop, List.getElem?_take]
  by_cases hi : i < 4
  · rw [if_pos (by omega), List.getElem?_eq_getElem (by omega)]
    rcases (show i = 0 ∨ i = 1 ∨ i = 2 ∨ i = 3 by omega) with rfl | rfl | rfl | rfl <;> simp [List.getD_eq_getElem?_getD, List.getElem?_eq_getElem, hl, show c < s.size by omega, show c + 1 < s.size by omega, show c + 2 < s.size by omega, show c + 3 < s.size by omega]
  · rw [if_neg (by omega), List.getElem?_eq_none (by simp; omega)]
theorem four_ext (s : ByteArray) (c p : Nat) (hc : c + 4 ≤ s.size) (hp : p + 4 ≤ s.size) : s.extract c (c + 4) = s.extract p (p + 4) ↔ Lz.four (Sums.bl s) c = Lz.four (Sums.bl s) p := by
  constructor
  · intro h
    have h1 := congrArg Sums.bl h
    rw [four_at s c hc, four_at s p hp] at h1
    simp only [List.cons.injEq, and_true] at h1
    unfold Lz.four
    rw [h1.1, h1.2.1, h1.2.2.1, h1.2.2.2]
  · intro h
    obtain ⟨h0, h1, h2, h3⟩ := Lz.four_same (Sums.bl s) (Sums.bl_byt s) c p h
    apply Sums.bl_inj
    rw [four_at s c hc, four_at s p hp, h0, h1, h2, h3]
theorem str_nq_ne (a b : ByteArray) (h : a ≠ b) (w : World) : (binOp .neq 9 (.string a) (.string b)).run Try.prog w = .ok (.bool true) w := by
  have hne : ¬ a.toList = b.toList := by
    intro e
    rw [ByteArray.toList_eq, ByteArray.toList_eq] at e
    exact h (ByteArray.ext (Array.toList_inj.1 e))
  simp [go_sem]
  exact hne
/-- the rows that copies answered, at a world that has but drawn since -/
structure CpRows (cs : List Lz.Cp) (ab ob : Option Addr) (W : World) : Prop where
  at_ : ∀ (q : Nat) (c : Lz.Cp), cs[q]? = some c → ∃ g, ab = some ⟨g, 0, none⟩ ∧ W.cell? ⟨g, q, none⟩ = some (.int .i64 (c.at_ : Int))
  seq : ∀ (q : Nat) (c : Lz.Cp), cs[q]? = some c → ∃ g, ob = some ⟨g, 0, none⟩ ∧ W.cell? ⟨g, q * 3 + 1, none⟩ = some (.int .i64 (c.off : Int)) ∧ W.cell? ⟨g, q * 3 + 2, none⟩ = some (.int .i64 (c.cnt : Int))
theorem CpRows.drewN {cs : List Lz.Cp} {ab ob : Option Addr} {W : World} (h : CpRows cs ab ob W) (n : Nat) : CpRows cs ab ob (W.drewN n) := ⟨h.at_, h.seq⟩
theorem ptsP_pos : ∀ (l : List Lz.Pc) (i : Nat), (∀ y ∈ l, 4 ≤ y.len) → (ptsP i l).filter (fun x => decide (0 < x.2.2.2)) = ptsP i l
  | [], i, _ => rfl
  | y :: l, i, h => by
    have h4 := h y (List.mem_cons_self ..)
    rw [ptsP, List.filter_cons, if_pos (by simp; omega), ptsP_pos l _ (fun z hz => h z (List.mem_cons_of_mem _ hz))]
theorem cpP_parts (s : ByteArray) (cs : List Lz.Cp) (h : Lz.tru (Sums.bl s) 0 cs) : cpP (partsC s cs) = ptsP 0 (Lz.pcs (Sums.bl s) 0 cs) := by
  have hok := Lz.okP_pcs (Sums.bl s) cs 0 h
  unfold cpP partsC
  rw [List.filter_append, ptsP_pos _ _ (fun y hy => (okP_mem _ _ hok y hy).1)]
  simp
theorem cpRows_of {s : ByteArray} {cs : List Lz.Cp} (h : Lz.tru (Sums.bl s) 0 cs) {W : World} {d n ac oc : Nat} {ab ob : Option Addr} (hn : n = cs.length) (ra : W.ownsRow d 3 1 (.slice ab n ac) n (atv cs)) (ro : W.ownsRow d 39 3 (.slice ob n oc) n (pqv (cpP (partsC s cs)))) : CpRows cs ab ob W := by
  rw [cpP_parts s cs h] at ro
  refine ⟨fun q c hq => ?_, fun q c hq => ?_⟩
  · have hlt := (List.getElem?_eq_some_iff.1 hq).1
    rcases ra.2 with ⟨_, h0⟩ | ⟨g, cap, cur, hv, _⟩
    · omega
    · cases hv
      refine ⟨g, rfl, ?_⟩
      rw [ra.cellAt q (by omega), atv, List.getElem?_map, hq]
      rfl
  · have hlt := (List.getElem?_eq_some_iff.1 hq).1
    obtain ⟨p1, p2, p3, p4⟩ := pcs_at (Sums.bl s) cs 0 q c hq h
    obtain ⟨tok, h5⟩ := ptsP_at _ 0 q _ p1
    obtain ⟨v0, v1, v2⟩ := pqv_at _ _ _ h5
    rcases ro.2 with ⟨_, h0⟩ | ⟨g, cap, cur, hv, _⟩
    · omega
    · cases hv
      refine ⟨g, rfl, ?_, ?_⟩
      · rw [ro.cellAt (q * 3 + 1) (by omega), show q * 3 + 1 = 3 * q + 1 by omega, v1]
      · rw [ro.cellAt (q * 3 + 2) (by omega), show q * 3 + 2 = 3 * q + 2 by omega, v2]
set_option maxRecDepth 100000 in
set_option maxHeartbeats 4000000 in
theorem lz4Greedy_any (s : ByteArray) (pp : Option Addr) (cap : Nat) (L : List Int) (w : World) (hs : s.size ≤ 1048576) (hz : ∀ z ∈ L, -9223372036854775808 ≤ z ∧ z ≤ 9223372036854775807) (hc : ∀ i, i < L.length → ∃ g off, pp = some ⟨g, off, none⟩ ∧ w.cell? ⟨g, off + i, none⟩ = some (.int .i64 (L.getD i 0))) :
    Calls Try.prog 8 #[.string s, .slice pp L.length cap] w fun e w' => e = .returned (.bool true) ∧ Below w.heap.size w w' := by
  have hsl := Sums.bl_length s
  obtain ⟨cs, hcs⟩ : ∃ cs, Lz.greedy (Sums.bl s) 1 = cs := ⟨_, rfl⟩
  have htru := Lz.greedy_true (Sums.bl s) (Sums.bl_byt s) 1
  have hfit := Lz.greedy_fits (Sums.bl s) 1
  rw [hcs] at htru hfit
  have hpl := packC_le s cs htru
  have hnb : 4 * cs.length ≤ s.size := by
    have h1 := tru_len (Sums.bl s) cs 0 htru
    have h2 := Lz.restOf_le (Sums.bl s) cs 0 (Nat.zero_le _) htru
    rw [hsl] at h2
    omega
  have HSH := Hid.mk' (shown_any w)
  have HCM := Hid.mk' (fun w => compress1_any s w (by omega))
  rw [hcs] at HCM
  have HCP := Hid.mk' (fun w => copies_any s cs w (by omega) htru (by omega))
  obtain ⟨P, hP⟩ : ∃ P, packC s cs = P := ⟨_, rfl⟩
  rw [hP] at HCP
  have HCM2 : Hid (∀ w : World, Calls Try.prog 10 #[.string s, .int .i64 1] w fun e w' => e = .returned (.tuple #[.string P, .int .i64 0]) ∧ Below w.heap.size w w') := by
    intro w1
    have := HCM.out w1
    unfold pkV at this
    rw [show nums (Lz.packed (Sums.bl s) 0 cs) = P from hP] at this
    exact this
  obtain ⟨n, hn⟩ : ∃ n, cs.length = n := ⟨_, rfl⟩
  rw [hn] at HCP hnb
  have hnm : n ≤ 1048576 := by omega
  have HT := Hid.mk' (And.intro htru (And.intro hfit (And.intro hn hsl)))
  have HC := Hid.mk' hc
  have HZ := Hid.mk' hz
  have hn0 : s.size < 13 → n = 0 := by
    intro h
    rw [← hn]
    cases hcc : cs with
    | nil => rfl
    | cons c l =>
      exfalso
      rw [hcc] at htru
      obtain ⟨_, ⟨t1, t2, t3, t4, t5, t6, t7⟩, _⟩ := htru
      rw [hsl] at t5
      omega
  clear HCM hP hcs htru hfit hpl hc hz hn hsl hnb
  go_enter Try.func8, Try.ntmps8
  by_cases h13 : s.size < 13
  · have h13I : (s.size : Int) < 13 := by omega
    obtain rfl := hn0 h13
    go_wp2_with (first | (go_at_call 9; refine HSH.out.mono ?_; rintro e w1 ⟨rfl, hb1⟩; have HB1 := Hid.mk' hb1; clear hb1) | (go_at_call 10; refine (HCM2.out _).mono ?_; rintro e w2 ⟨rfl, hb2⟩; have HB2 := Hid.mk' hb2; clear hb2) | (go_at_call 18; refine (HCP.out _).mono ?_; rintro e w3 ⟨av, ov, rfl, hra, hro, hb3⟩; obtain ⟨ab, ac, rfl⟩ := row_shape' hra; obtain ⟨ob, oc, rfl⟩ := row_shape' hro; have HB3 := Hid.mk' hb3; clear hra hro hb3) | fail)
    go_ret
    exact ⟨rfl, below_up2 (below_up2 HB1.out HB1.out.size HB2.out) (Nat.le_trans HB1.out.size HB2.out.size) HB3.out⟩
  · have h13I : ¬ (s.size : Int) < 13 := by omega
    go_wp2_with (first | (go_at_call 9; refine HSH.out.mono ?_; rintro e w1 ⟨rfl, hb1⟩; have HB1 := Hid.mk' hb1; clear hb1) | (go_at_call 10; refine (HCM2.out _).mono ?_; rintro e w2 ⟨rfl, hb2⟩; have HB2 := Hid.mk' hb2; clear hb2) | (go_at_call 18; refine (HCP.out _).mono ?_; rintro e w3 ⟨av, ov, rfl, hra, hro, hb3⟩; obtain ⟨ab, ac, rfl⟩ := row_shape' hra; obtain ⟨ob, oc, rfl⟩ := row_shape' hro; have HR3 := Hid.mk' (cpRows_of HT.out.1 HT.out.2.2.1.symm hra hro); have HB3 := Hid.mk' hb3; clear hra hro hb3) | fail)
    have hb03 : Below w.heap.size w w3 := below_up2 (below_up2 HB1.out HB1.out.size HB2.out) (Nat.le_trans HB1.out.size HB2.out.size) HB3.out
    have HB03 := Hid.mk' hb03
    clear hb03 HB1 HB2 HB3 HSH HCM2 HCP hn0
    go_loopw [11] (fun iv wr => ∃ i : Nat, iv = .int .i64 (i : Int) ∧ i ≤ 12 ∧ Hid (∃ m, wr = w3.drewN m)) (fun iv _ => 12 - (intOf iv).toNat)
    case atStart => exact ⟨0, rfl, by omega, ⟨0, rfl⟩⟩
    case round =>
      obtain ⟨i, rfl, hi, hm⟩ := hrel
      rename World => wo
      have hrows : CpRows cs ab ob wo := by
        obtain ⟨m, rfl⟩ := hm.out
        exact HR3.out.drewN m
      have hbel : Below w.heap.size w wo := by
        obtain ⟨m, rfl⟩ := hm.out
        exact HB03.out.drewN' m
      have HROWS := Hid.mk' hrows
      have HBEL := Hid.mk' hbel
      clear hrows hbel HR3
      by_cases hin : i < L.length ∧ i < 12
      · obtain ⟨hiL, hi12⟩ := hin
        have a1 : (i : Int) < (L.length : Int) := by omega
        have a2 : (i : Int) < 12 := by omega
        obtain ⟨g, off, rfl, hcell⟩ := HC.out i hiL
        have hgl : g < w.heap.size := World.block_lt_of_cell? w ⟨g, off + i, none⟩ hcell
        have hcell2 : wo.cell? ⟨g, off + i, none⟩ = some (.int .i64 (L.getD i 0)) := (HBEL.out.cell (p := ⟨g, off + i, none⟩) hgl).trans hcell
        obtain ⟨z, hz⟩ : ∃ z, L.getD i 0 = z := ⟨_, rfl⟩
        have hzb : -9223372036854775808 ≤ z ∧ z ≤ 9223372036854775807 := by
          refine HZ.out z ?_
          rw [← hz, List.getD_eq_getElem?_getD, List.getElem?_eq_getElem hiL]
          exact List.getElem_mem hiL
        rw [hz] at hcell2
        clear hz hcell
        have hp11 : (0 : Int) < (s.size : Int) - 11 := by omega
        have HPK := Hid.mk' (fun W => pick_det z ((s.size : Int) - 11) W hp11 (by omega) hzb.1 hzb.2)
        have hplt := pickN_lt z ((s.size : Int) - 11) hp11
        obtain ⟨p, hp⟩ : ∃ p, pickN z ((s.size : Int) - 11) = p := ⟨_, rfl⟩
        rw [hp] at HPK hplt
        clear hp
        go_upto_block 2 with (go_at_call 15; refine (HPK.out _).mono ?_; rintro e w' ⟨rfl, hw'⟩; have hw2 := hw'.symm; subst hw2)
        go_cut [13] (fun kv wc => wo = wc ∧ ∃ (m : Nat) (kI : Int), kv = .int .i64 kI ∧ kI = (m : Int) - 1 ∧ m ≤ n ∧ Hid (∀ t c, m ≤ t → cs[t]? = some c → p < c.at_) ∧ Hid (∀ q c, m = q + 1 → cs[q]? = some c → c.at_ ≤ p))
        case first =>
          go_wp2_with fail
          go_loopw [13] (fun kv wx => wo = wx ∧ ∃ (m : Nat) (kI : Int), kv = .int .i64 kI ∧ kI = (m : Int) - 1 ∧ m ≤ n ∧ Hid (∀ t c, m ≤ t → cs[t]? = some c → p < c.at_)) (fun kv _ => (intOf kv + 1).toNat)
          case atStart => exact ⟨rfl, n, _, rfl, rfl, Nat.le_refl _, fun t c h1 h2 => by have := (List.getElem?_eq_some_iff.1 h2).1; have := HT.out.2.2.1; omega⟩
          case round =>
            obtain ⟨rfl, m, kI, rfl, hkI, hmn, hge⟩ := hrel
            cases m with
            | zero =>
              obtain rfl : kI = -1 := by omega
              clear hkI
              go_wp2
              go_meet
              exact ⟨rfl, 0, -1, rfl, by omega, by omega, hge, fun q c h => by omega⟩
            | succ q =>
              obtain rfl : kI = (q : Int) := by omega
              have hqn : q < n := by omega
              have hqnI : (q : Int) < (n : Int) := by omega
              obtain ⟨c, hq⟩ : ∃ c, cs[q]? = some c := ⟨_, List.getElem?_eq_getElem (by have := HT.out.2.2.1; omega)⟩
              obtain ⟨ga, rfl, hca⟩ := HROWS.out.at_ q c hq
              have HQ := Hid.mk' hq
              have hq0 : decide ((0 : Int) ≤ (q : Int)) = true := by simp
              clear hkI hq
              by_cases hpc : p < c.at_
              · have hpI : (p : Int) < (c.at_ : Int) := by omega
                have hpB : decide ((p : Int) < (c.at_ : Int)) = true := by simp; omega
                go_wp2
                go_roundw
                case rel =>
                  refine ⟨by trivial, q, _, rfl, by omega, by omega, fun t c' h1 h2 => ?_⟩
                  by_cases e : t = q
                  · subst e
                    have := HQ.out
                    rw [this] at h2
                    cases h2
                    exact hpc
                  · exact hge.out t c' (by omega) h2
                case measure =>
                  simp [intOf]
              · have hpI : ¬ (p : Int) < (c.at_ : Int) := by omega
                have hpB : decide ((p : Int) < (c.at_ : Int)) = false := by simp; omega
                go_wp2
                go_meet
                exact ⟨rfl, q + 1, (q : Int), rfl, by omega, by omega, hge, fun q' c' h1 h2 => by
                  obtain rfl : q = q' := by omega
                  have := HQ.out
                  rw [this] at h2
                  cases h2
                  omega⟩
        case rest =>
          obtain ⟨rfl, m, kI, rfl, hkI, hmn, hge, hle⟩ := hcut
          obtain ⟨cov, hcov⟩ : ∃ cov : Bool, cov = true ↔ (∃ q c, m = q + 1 ∧ cs[q]? = some c ∧ c.at_ ≠ p ∧ p < c.at_ + c.cnt) := (Classical.em (∃ q c, m = q + 1 ∧ cs[q]? = some c ∧ c.at_ ≠ p ∧ p < c.at_ + c.cnt)).elim (fun h => ⟨true, fun _ => h, fun _ => rfl⟩) (fun h => ⟨false, fun e => (by cases e), fun h2 => absurd h2 h⟩)
          have HCOV := Hid.mk' hcov
          have HKI := Hid.mk' hkI
          clear hcov hkI
          go_upto_region 15 with fail
          go_cut [101] (fun bv wc => Hid (∃ j, wc = wo.drewN j) ∧ bv = .bool cov)
          case first =>
            cases m with
            | zero =>
              obtain rfl : kI = -1 := by have := HKI.out; omega
              go_quiet (fail)
              go_wp2_with fail
              go_meet
              refine ⟨⟨nq, rfl⟩, ?_⟩
              cases hc0 : cov with
              | false => rfl
              | true =>
                obtain ⟨q, c, h1, _⟩ := HCOV.out.1 hc0
                omega
            | succ q =>
              obtain rfl : kI = (q : Int) := by have := HKI.out; omega
              have hqn : q < n := by omega
              have hqnI : (q : Int) < (n : Int) := by omega
              obtain ⟨c, hq⟩ : ∃ c, cs[q]? = some c := ⟨_, List.getElem?_eq_getElem (by have := HT.out.2.2.1; omega)⟩
              obtain ⟨ga, rfl, hca⟩ := HROWS.out.at_ q c hq
              obtain ⟨gb, rfl, hcb, hcc⟩ := HROWS.out.seq q c hq
              have HQ := Hid.mk' hq
              have hq0 : decide ((0 : Int) ≤ (q : Int)) = true := by simp
              have htr := (pcs_at (Sums.bl s) cs 0 q c hq HT.out.1).2.2.1
              obtain ⟨t1, t2, t3, t4, t5, t6, t7⟩ := htr
              rw [HT.out.2.2.2] at t5 t6
              have hcp := hle.out q c rfl hq
              obtain ⟨e, he⟩ : ∃ e, c.at_ + c.cnt = e := ⟨_, rfl⟩
              have heI : (c.at_ : Int) + (c.cnt : Int) = (e : Int) := by omega
              have hew : IntKind.i64.wrap (e : Int) = (e : Int) := by rw [IntKind.wrap_i64]; omega
              have HEE := Hid.mk' he
              clear hq t7 he
              have hone : ∀ c', cs[q]? = some c' → c' = c := fun c' h => by
                have := HQ.out
                rw [this] at h
                cases h
                rfl
              have HONE := Hid.mk' hone
              clear hone
              by_cases e1 : c.at_ = p
              · have e1I : ((c.at_ : Int) != (p : Int)) = false := by simp; omega
                go_quiet (fail)
                go_wp2_with fail
                go_meet
                refine ⟨⟨nq, rfl⟩, ?_⟩
                cases hc0 : cov with
                | false => rfl
                | true =>
                  obtain ⟨q', c', h1, h2, h3, _⟩ := HCOV.out.1 hc0
                  obtain rfl : q = q' := by omega
                  have := HONE.out c' h2
                  subst this
                  exact absurd e1 h3
              · have e1I : ((c.at_ : Int) != (p : Int)) = true := by simp; omega
                by_cases e2 : p < e
                · have e2I : (p : Int) < (e : Int) := by omega
                  have e2B : decide ((p : Int) < (e : Int)) = true := by simp; omega
                  go_quiet (fail)
                  go_wp2_with fail
                  go_meet
                  refine ⟨⟨nq, rfl⟩, ?_⟩
                  rw [HCOV.out.2 ⟨q, c, rfl, HQ.out, e1, by rw [HEE.out]; exact e2⟩]
                · have e2I : ¬ (p : Int) < (e : Int) := by omega
                  have e2B : decide ((p : Int) < (e : Int)) = false := by simp; omega
                  go_quiet (fail)
                  go_wp2_with fail
                  go_meet
                  refine ⟨⟨nq, rfl⟩, ?_⟩
                  cases hc0 : cov with
                  | false => rfl
                  | true =>
                    obtain ⟨q', c', h1, h2, h3, h4⟩ := HCOV.out.1 hc0
                    obtain rfl : q = q' := by omega
                    have := HONE.out c' h2
                    subst this
                    rw [HEE.out] at h4
                    exact absurd h4 e2
          case rest =>
            obtain ⟨hwc, rfl⟩ := hcut
            rename World => w5
            have hrows5 : CpRows cs ab ob w5 := by
              obtain ⟨j, rfl⟩ := hwc.out
              exact HROWS.out.drewN j
            have hm5 : ∃ m, w5 = w3.drewN m := by
              obtain ⟨j, rfl⟩ := hwc.out
              obtain ⟨j2, rfl⟩ := hm.out
              exact ⟨j2 + j, World.drewN_drewN _ _ _⟩
            have HROWS5 := Hid.mk' hrows5
            have HM5 := Hid.mk' hm5
            clear hrows5 hm5 hwc HROWS HBEL hm hcell2 HPK
            go_upto_if 101 with fail
            go_cut [12] (fun pv wc => w5 = wc ∧ ∃ p' : Nat, pv = .int .i64 (p' : Int) ∧ p' + 12 ≤ s.size ∧ Hid ((m = 0 ∧ (Lz.long (Sums.bl s) 1 p').2 = 0) ∨ (∃ q c, m = q + 1 ∧ cs[q]? = some c ∧ (c.at_ = p' ∨ (c.at_ < p' ∧ (Lz.long (Sums.bl s) 1 p').2 = 0)))))
            case first =>
              cases hcv : cov with
              | true =>
                obtain ⟨q, c, hmq, hq, h3, h4⟩ := HCOV.out.1 hcv
                obtain rfl : kI = (q : Int) := by have := HKI.out; omega
                have hqn : q < n := by omega
                have hqnI : (q : Int) < (n : Int) := by omega
                obtain ⟨ga, rfl, hca⟩ := HROWS5.out.at_ q c hq
                have htr := (pcs_at (Sums.bl s) cs 0 q c hq HT.out.1).2.2.1
                obtain ⟨t1, t2, t3, t4, t5, t6, t7⟩ := htr
                rw [HT.out.2.2.2] at t5 t6
                have HQ := Hid.mk' (And.intro hmq hq)
                clear hq h3 h4 hmq t7 hcv
                go_wp2_with fail
                go_meet
                exact ⟨rfl, c.at_, rfl, t5, .inr ⟨q, c, HQ.out.1, HQ.out.2, .inl rfl⟩⟩
              | false =>
                have hno : ¬ (∃ q c, m = q + 1 ∧ cs[q]? = some c ∧ c.at_ ≠ p ∧ p < c.at_ + c.cnt) := fun h => by
                  have := HCOV.out.2 h
                  rw [hcv] at this
                  cases this
                have HNO := Hid.mk' hno
                clear hno hcv
                go_wp2_with fail
                go_meet
                refine ⟨rfl, p, rfl, by omega, ?_⟩
                cases m with
                | zero => exact .inl ⟨rfl, Lz.fits_none (Sums.bl s) 1 cs 0 p HT.out.2.1 (Nat.zero_le _) (by rw [HT.out.2.2.2]; omega) (fun c hc => hge.out 0 c (Nat.le_refl _) hc)⟩
                | succ q =>
                  obtain ⟨c, hq⟩ : ∃ c, cs[q]? = some c := ⟨_, List.getElem?_eq_getElem (by have := HT.out.2.2.1; omega)⟩
                  refine .inr ⟨q, c, rfl, hq, ?_⟩
                  by_cases e1 : c.at_ = p
                  · exact .inl e1
                  · have h1 := hle.out q c rfl hq
                    refine .inr ⟨by omega, ?_⟩
                    have h2 : c.at_ + c.cnt ≤ p := by
                      apply Nat.le_of_not_lt
                      intro h
                      exact HNO.out ⟨q, c, rfl, hq, e1, h⟩
                    exact Lz.fits_behind (Sums.bl s) 1 cs 0 q p c HT.out.2.1 hq h2 (by rw [HT.out.2.2.2]; omega) (fun c' hc' => hge.out (q + 1) c' (Nat.le_refl _) hc')
            case rest =>
              obtain ⟨rfl, p', rfl, hp12, hfin⟩ := hcut
              clear hge hle HCOV hplt
              obtain ⟨P4, hP4⟩ : ∃ P4, p' + 4 = P4 := ⟨_, rfl⟩
              have hP4I : (p' : Int) + 4 = (P4 : Int) := by omega
              have hP4w : IntKind.i64.wrap (P4 : Int) = (P4 : Int) := by rw [IntKind.wrap_i64]; omega
              have hP4s : P4 ≤ s.size := by omega
              have hpP4 : p' ≤ P4 := by omega
              obtain ⟨B4, hB4⟩ : ∃ B4, s.extract p' P4 = B4 := ⟨_, rfl⟩
              have HP4 := Hid.mk' hP4
              clear hP4
              go_upto_block 4 with fail
              go_cut [14] (fun cv wc => Hid (∃ j, wc = w5.drewN j) ∧ ∃ cI : Int, cv = .int .i64 cI ∧ -1 ≤ cI ∧ cI < (p' : Int) ∧ Hid (∀ d : Nat, cI < (d : Int) → d < p' → Lz.four (Sums.bl s) d ≠ Lz.four (Sums.bl s) p') ∧ Hid (cI < 0 ∨ 65535 < (p' : Int) - cI ∨ Lz.four (Sums.bl s) cI.toNat = Lz.four (Sums.bl s) p'))
              case first =>
                go_wp2_with fail
                go_loopw [14] (fun cv wx => Hid (∃ j, wx = w5.drewN j) ∧ ∃ cI : Int, cv = .int .i64 cI ∧ -1 ≤ cI ∧ cI < (p' : Int) ∧ Hid (∀ d : Nat, cI < (d : Int) → d < p' → Lz.four (Sums.bl s) d ≠ Lz.four (Sums.bl s) p')) (fun cv _ => (intOf cv + 1).toNat)
                case atStart => exact ⟨⟨0, rfl⟩, (p' : Int) - 1, rfl, by omega, by omega, fun d h1 h2 => by omega⟩
                case round =>
                  obtain ⟨hj, cI, rfl, hc1, hc2, hne⟩ := hrel
                  by_cases h0 : cI < 0
                  · obtain rfl : cI = -1 := by omega
                    clear h0 hc1 hc2
                    go_wp2_with fail
                    go_quiet (fail)
                    go_wp2_with fail
                    go_meet
                    obtain ⟨j, rfl⟩ := hj.out
                    exact ⟨⟨j + nq, World.drewN_drewN _ _ _⟩, -1, rfl, by omega, by omega, hne, .inl (by omega)⟩
                  · obtain ⟨c, rfl⟩ := Int.eq_ofNat_of_zero_le (show 0 ≤ cI by omega)
                    have hc0 : decide ((0 : Int) ≤ (c : Int)) = true := by simp
                    obtain ⟨D, hD⟩ : ∃ D, p' - c = D := ⟨_, rfl⟩
                    have hDI : (p' : Int) - (c : Int) = (D : Int) := by omega
                    have hDw : IntKind.i64.wrap (D : Int) = (D : Int) := by rw [IntKind.wrap_i64]; omega
                    have HD := Hid.mk' hD
                    clear hD h0 hc1
                    by_cases hf : 65535 < D
                    · have hfI : ¬ (D : Int) ≤ 65535 := by omega
                      have hfB : decide ((D : Int) ≤ 65535) = false := by simp; omega
                      go_wp2_with fail
                      go_quiet (fail)
                      go_wp2_with fail
                      go_meet
                      obtain ⟨j, rfl⟩ := hj.out
                      exact ⟨⟨j + nq, World.drewN_drewN _ _ _⟩, (c : Int), rfl, by omega, by omega, hne, .inr (.inl (by omega))⟩
                    · have hfI : (D : Int) ≤ 65535 := by omega
                      have hfB : decide ((D : Int) ≤ 65535) = true := by simp; omega
                      obtain ⟨C4, hC4⟩ : ∃ C4, c + 4 = C4 := ⟨_, rfl⟩
                      have hC4I : (c : Int) + 4 = (C4 : Int) := by omega
                      have hC4w : IntKind.i64.wrap (C4 : Int) = (C4 : Int) := by rw [IntKind.wrap_i64]; omega
                      have hC4s : C4 ≤ s.size := by omega
                      have hcC4 : c ≤ C4 := by omega
                      obtain ⟨A4, hA4⟩ : ∃ A4, s.extract c C4 = A4 := ⟨_, rfl⟩
                      have hiff : A4 = B4 ↔ Lz.four (Sums.bl s) c = Lz.four (Sums.bl s) p' := by
                        rw [← hA4, ← hB4, ← hC4, ← HP4.out]
                        exact four_ext s c p' (by omega) (by have := HP4.out; omega)
                      have HIFF := Hid.mk' hiff
                      clear hiff hC4
                      by_cases hab : A4 = B4
                      · have hnq := fun W => str_nq A4 W
                        have HAB := Hid.mk' (HIFF.out.1 hab)
                        rw [← hab] at hB4
                        clear hab HIFF
                        go_wp2_with fail
                        go_quiet (fail)
                        go_wp2_with fail
                        go_meet
                        obtain ⟨j, rfl⟩ := hj.out
                        exact ⟨⟨j + nq, World.drewN_drewN _ _ _⟩, (c : Int), rfl, by omega, by omega, hne, .inr (.inr (by simpa using HAB.out))⟩
                      · have hnq := fun W => str_nq_ne A4 B4 hab W
                        have HAB : Hid (¬ Lz.four (Sums.bl s) c = Lz.four (Sums.bl s) p') := fun h => hab (HIFF.out.2 h)
                        have hbl : (A4.toList == B4.toList) = false := by
                          simp only [beq_eq_false_iff_ne, ne_eq]
                          intro e
                          rw [ByteArray.toList_eq, ByteArray.toList_eq] at e
                          exact hab (ByteArray.ext (Array.toList_inj.1 e))
                        clear hab HIFF
                        go_wp2_with fail
                        go_quiet (fail)
                        go_wp2_with fail
                        go_roundw
                        case rel =>
                          obtain ⟨j, rfl⟩ := hj.out
                          refine ⟨⟨j + nq, World.drewN_drewN _ _ _⟩, _, rfl, by omega, by omega, fun d h1 h2 => ?_⟩
                          by_cases e : d = c
                          · subst e
                            exact HAB.out
                          · exact hne.out d (by omega) h2
                        case measure =>
                          simp [intOf]
              case rest =>
                obtain ⟨hwc, cI, rfl, hc1, hc2, hne, hend⟩ := hcut
                rename World => w6
                have hrows6 : CpRows cs ab ob w6 := by
                  obtain ⟨j, rfl⟩ := hwc.out
                  exact HROWS5.out.drewN j
                have HM6 : Hid (∃ m, w6 = w3.drewN m) := by
                  obtain ⟨j, rfl⟩ := hwc.out
                  obtain ⟨j2, rfl⟩ := HM5.out
                  exact ⟨j2 + j, World.drewN_drewN _ _ _⟩
                have hnb1 : ∀ W, (binOp .neq 4 (.bool true) (.bool true)).run Try.prog W = .ok (.bool false) W := fun W => by kernel_rfl
                have hnb0 : ∀ W, (binOp .neq 4 (.bool false) (.bool false)).run Try.prog W = .ok (.bool false) W := fun W => by kernel_rfl
                have HROWS6 := Hid.mk' hrows6
                clear hrows6 hwc HROWS5 HM5 hB4 hP4I hP4w hP4s hpP4 HP4
                by_cases hfd : 0 ≤ cI ∧ (p' : Int) - cI ≤ 65535
                · obtain ⟨c, rfl⟩ := Int.eq_ofNat_of_zero_le hfd.1
                  have hfour : Lz.four (Sums.bl s) c = Lz.four (Sums.bl s) p' := by
                    rcases hend.out with h | h | h
                    · omega
                    · omega
                    · simpa using h
                  have hcp : c < p' := by omega
                  obtain ⟨hl1, hl2⟩ := Lz.long1_some (Sums.bl s) (Sums.bl_byt s) p' c hcp (by rw [HT.out.2.2.2]; exact hp12) (by omega) hfour (fun d h1 h2 => hne.out d (by omega) h2)
                  obtain ⟨q, cc, hmq, hq, hat⟩ : ∃ q cc, m = q + 1 ∧ cs[q]? = some cc ∧ cc.at_ = p' := by
                    rcases hfin.out with ⟨_, h⟩ | ⟨q, cc, h1, h2, h | ⟨_, h⟩⟩
                    · rw [hl1] at h
                      exact absurd h hl2
                    · exact ⟨q, cc, h1, h2, h⟩
                    · rw [hl1] at h
                      exact absurd h hl2
                  obtain ⟨_, hl3, _, _⟩ := Lz.fits_at (Sums.bl s) 1 cs 0 q cc HT.out.2.1 hq
                  rw [hat, hl1] at hl3
                  obtain rfl : kI = (q : Int) := by have := HKI.out; omega
                  have hqn : q < n := by omega
                  have hqnI : (q : Int) < (n : Int) := by omega
                  obtain ⟨ga, rfl, hca⟩ := HROWS6.out.at_ q cc hq
                  obtain ⟨gb, rfl, hcb, hcc⟩ := HROWS6.out.seq q cc hq
                  obtain ⟨D, hD⟩ : ∃ D, p' - c = D := ⟨_, rfl⟩
                  obtain ⟨R, hR⟩ : ∃ R, Lz.agree (Sums.bl s) c p' = R := ⟨_, rfl⟩
                  rw [hD, hR] at hl3
                  have hoff : cc.off = D := (congrArg Prod.fst hl3).symm
                  have hcnt : cc.cnt = R := (congrArg Prod.snd hl3).symm
                  rw [hat] at hca
                  rw [hoff] at hcb
                  rw [hcnt] at hcc
                  have HSM := Hid.mk' (fun W => same_any s c p' W (by omega) hcp (by omega))
                  rw [hR] at HSM
                  have hDI : (p' : Int) - (c : Int) = (D : Int) := by omega
                  have hDw : IntKind.i64.wrap (D : Int) = (D : Int) := by rw [IntKind.wrap_i64]; omega
                  have hDle : (D : Int) ≤ 65535 := by omega
                  have hDleB : decide ((D : Int) ≤ 65535) = true := by simp; omega
                  have hc0 : decide ((0 : Int) ≤ (c : Int)) = true := by simp
                  have hq0 : decide ((0 : Int) ≤ (q : Int)) = true := by simp
                  have hpp : ((p' : Int) == (p' : Int)) = true := by simp
                  have hDD : ((D : Int) != (D : Int)) = false := by simp
                  have hRR : ((R : Int) != (R : Int)) = false := by simp
                  clear hfd hfour hl1 hl2 hl3 hat hq hD hR hoff hcnt hend hne hfin hmq hc1 hc2
                  go_wp2_with fail
                  go_quiet ((go_at_call 20; exact Calls.quiet_of (HSM.out _)))
                  go_wp2_with fail
                  go_roundw
                  case rel =>
                    obtain ⟨j, hj⟩ := HM6.out
                    exact ⟨i + 1, by simp, by omega, ⟨j + nq, by rw [hj, World.drewN_drewN]⟩⟩
                  case measure =>
                    simp [intOf]
                    omega
                · have hlz : (Lz.long (Sums.bl s) 1 p').2 = 0 := Lz.long1_none (Sums.bl s) p' cI (fun d h1 h2 => hne.out d h1 h2) (by omega)
                  have hk : kI = -1 ∨ ∃ (q : Nat) (cc : Lz.Cp), kI = (q : Int) ∧ q < n ∧ cs[q]? = some cc ∧ cc.at_ < p' := by
                    rcases hfin.out with ⟨h, _⟩ | ⟨q, cc, h1, h2, h | ⟨h, _⟩⟩
                    · left
                      have := HKI.out
                      omega
                    · exfalso
                      obtain ⟨_, hl3, hl4, _⟩ := Lz.fits_at (Sums.bl s) 1 cs 0 q cc HT.out.2.1 h2
                      rw [h] at hl3
                      rw [hl3] at hlz
                      exact hl4 hlz
                    · right
                      exact ⟨q, cc, by have := HKI.out; omega, by omega, h2, h⟩
                  clear hlz hend hne hfin HKI
                  have hcc : cI = -1 ∨ ∃ c D : Nat, cI = (c : Int) ∧ (p' : Int) - (c : Int) = (D : Int) ∧ 65535 < D := by
                    clear hk
                    by_cases h0 : cI < 0
                    · left; omega
                    · right
                      obtain ⟨c, rfl⟩ := Int.eq_ofNat_of_zero_le (show 0 ≤ cI by omega)
                      exact ⟨c, p' - c, rfl, by omega, by omega⟩
                  clear hfd
                  rcases hcc with rfl | ⟨c, D, rfl, hDI, hD65⟩
                  · rcases hk with rfl | ⟨q, cc, rfl, hqn, hq, hlt⟩
                    · go_wp2_with fail
                      go_quiet (fail)
                      go_wp2_with fail
                      go_roundw
                      case rel =>
                        obtain ⟨j, hj⟩ := HM6.out
                        exact ⟨i + 1, by simp, by omega, ⟨j + nq, by rw [hj, World.drewN_drewN]⟩⟩
                      case measure =>
                        simp [intOf]
                        omega
                    · have hqnI : (q : Int) < (n : Int) := by omega
                      obtain ⟨ga, rfl, hca⟩ := HROWS6.out.at_ q cc hq
                      have hq0 : decide ((0 : Int) ≤ (q : Int)) = true := by simp
                      have hpp : ((cc.at_ : Int) == (p' : Int)) = false := by simp; omega
                      clear hq
                      go_wp2_with fail
                      go_quiet (fail)
                      go_wp2_with fail
                      go_roundw
                      case rel =>
                        obtain ⟨j, hj⟩ := HM6.out
                        exact ⟨i + 1, by simp, by omega, ⟨j + nq, by rw [hj, World.drewN_drewN]⟩⟩
                      case measure =>
                        simp [intOf]
                        omega
                  · rcases hk with rfl | ⟨q, cc, rfl, hqn, hq, hlt⟩
                    · have hDw : IntKind.i64.wrap (D : Int) = (D : Int) := by rw [IntKind.wrap_i64]; omega
                      have hDle : ¬ (D : Int) ≤ 65535 := by omega
                      have hDleB : decide ((D : Int) ≤ 65535) = false := by simp; omega
                      have hc0 : decide ((0 : Int) ≤ (c : Int)) = true := by simp
                      go_wp2_with fail
                      go_quiet (fail)
                      go_wp2_with fail
                      go_roundw
                      case rel =>
                        obtain ⟨j, hj⟩ := HM6.out
                        exact ⟨i + 1, by simp, by omega, ⟨j + nq, by rw [hj, World.drewN_drewN]⟩⟩
                      case measure =>
                        simp [intOf]
                        omega
                    · have hDw : IntKind.i64.wrap (D : Int) = (D : Int) := by rw [IntKind.wrap_i64]; omega
                      have hDle : ¬ (D : Int) ≤ 65535 := by omega
                      have hDleB : decide ((D : Int) ≤ 65535) = false := by simp; omega
                      have hc0 : decide ((0 : Int) ≤ (c : Int)) = true := by simp
                      have hqnI : (q : Int) < (n : Int) := by omega
                      obtain ⟨ga, rfl, hca⟩ := HROWS6.out.at_ q cc hq
                      have hq0 : decide ((0 : Int) ≤ (q : Int)) = true := by simp
                      have hpp : ((cc.at_ : Int) == (p' : Int)) = false := by simp; omega
                      clear hq
                      go_wp2_with fail
                      go_quiet (fail)
                      go_wp2_with fail
                      go_roundw
                      case rel =>
                        obtain ⟨j, hj⟩ := HM6.out
                        exact ⟨i + 1, by simp, by omega, ⟨j + nq, by rw [hj, World.drewN_drewN]⟩⟩
                      case measure =>
                        simp [intOf]
                        omega
      · have hx : (decide ((i : Int) < (L.length : Int)) = false ∧ ¬ (i : Int) < (L.length : Int)) ∨ (decide ((i : Int) < (L.length : Int)) = true ∧ (i : Int) < (L.length : Int) ∧ decide ((i : Int) < 12) = false ∧ ¬ (i : Int) < 12) := by
          by_cases h : i < L.length
          · right
            refine ⟨by simp; omega, by omega, by simp; omega, by omega⟩
          · left
            exact ⟨by simp; omega, by omega⟩
        clear hin
        rcases hx with ⟨x1, x2⟩ | ⟨x1, x2, x3, x4⟩
        · go_wp2_with fail
          go_ret
          exact ⟨rfl, HBEL.out⟩
        · go_wp2_with fail
          go_ret
          exact ⟨rfl, HBEL.out⟩
end Go.Proofs.Ytchjmhgalbkjkaa
