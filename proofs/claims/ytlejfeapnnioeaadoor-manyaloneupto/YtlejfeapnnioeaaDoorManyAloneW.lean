/-
  dragnetlaw7.ManyAlone, for every input. Conditions: as it says.
-/
import Derived.Test.YtlejfeapnnioeaaDoorKpt
import Derived.Test.YtlejfeapnnioeaaDoorAlo
namespace Go.Proofs.YtlejfeapnnioeaaDoor
open Go.RowKit Go.Shelf
set_option linter.unusedVariables false
theorem kept_tab : KeptA Tab := fun V V' hb h => h.below hb
theorem al_alone {K : World → Prop} {b : Nat} {w V : World} (x s : ByteArray) (h : AlW K b w V) (hx : 1 ≤ x.size) (hxs : x.size ≤ 1000000) (hs : s.size ≤ 4294967296) (ht : Tab V) {l : List Nat} (hl : Mn.alL x s s.size = l) {n : Nat} (hn : l.length = n) :
    Calls Tryd.prog 11 #[.string x, .string s] V fun e w' => ∃ B q c, e = .returned (.slice q n c) ∧ w'.ownsRow B 3 1 (.slice q n c) n (intL l) ∧ AlW K b w w' := by
  subst hl hn
  refine (alone_any x s V hx hxs hs ht).mono ?_
  rintro e w' ⟨v, rfl, ho, hb⟩
  obtain ⟨q, c, rfl⟩ := mr_shape ho
  exact ⟨_, q, c, rfl, ho, h.keep hb⟩
theorem al_has {K : World → Prop} {b : Nat} {w V : World} (sb : Nat) (W : List (List Nat)) (fold : Bool) (s : ByteArray) (h : AlW K b w V) (hM : ∃ B, ManyM B sb W fold V) (hw : Wok W) (hs : s.size ≤ 4294967296) {l : List Nat} (hl : Mn.hasL W (tx fold s) = l) {n : Nat} (hn : l.length = n) :
    Calls Tryd.prog 10 #[.pointer (some ⟨sb, 0, none⟩), .string s] V fun e w' => ∃ B q c, e = .returned (.slice q n c) ∧ AlW (fun V => K V ∧ V.ownsRow B 3 1 (.slice q n c) n (intL l)) b w w' := by
  subst hl hn
  obtain ⟨B, hM⟩ := hM
  refine (has_any B sb W fold s V hM hw (by omega)).mono ?_
  rintro e w' ⟨v, rfl, ho, hb⟩
  obtain ⟨q, c, rfl⟩ := mr_shape ho
  exact ⟨_, q, c, rfl, (h.keep hb).more (kept_row _ _ _ _ _) ho⟩
theorem tx_fd (fold : Bool) (s : ByteArray) : tx fold s = Sums.bl (Mn.fd fold s) := (Mn.bl_fd fold s).symm
/-- the places behind a word: as found tells, as alone tells -/
theorem plc_al {fold : Bool} {L : List ByteArray} (hf : Mn.Fit fold L) (h0 : 0 < L.length) (s : ByteArray) {i : Nat} (hi : i < L.length) {x : ByteArray} (hx : L.getD i ByteArray.empty = x) : Mn.plc (Mn.allF (Mn.wds fold L) (tx fold s)) i = Mn.alL x (Mn.fd fold s) (Mn.fd fold s).size ∧ 1 ≤ x.size ∧ x.size ≤ 40 := by
  have hm : x ∈ L := by
    rw [← hx, List.getD_eq_getElem?_getD, List.getElem?_eq_getElem hi]
    exact List.getElem_mem _
  have hz := hf.siz x hm
  have hw := Wok.of (hf.good h0)
  have hget : (Mn.wds fold L)[i]? = some (Sums.bl x) := by rw [Mn.wds_get fold L i hi, hx, hf.small x hm]
  refine ⟨?_, hz.1, hz.2⟩
  rw [Mn.plc_allF hw.nod _ hget (fun e => by
    have := congrArg List.length e
    rw [Sums.bl_length, List.length_nil] at this
    omega), tx_fd, Sums.bl_length]
  exact Mn.plc_alone x _ hz.1
theorem int_at {V : World} {B n c : Nat} {q : Option Addr} {l : List Nat} (h : V.ownsRow B 3 1 (.slice q n c) n (intL l)) (hn : l.length = n) {k v : Nat} (hk : l[k]? = some v) : ∃ g, q = some ⟨g, 0, none⟩ ∧ k < n ∧ V.cell? ⟨g, k, none⟩ = some (.int .i64 (v : Int)) := by
  have hkl := (List.getElem?_eq_some_iff.1 hk).1
  subst hn
  rcases own_ints h with ⟨_, e⟩ | ⟨g, c', e, _, _, h3⟩
  · rw [e] at hkl
    simp at hkl
  · simp only [Value.slice.injEq] at e
    obtain ⟨rfl, _, rfl⟩ := e
    refine ⟨g, rfl, hkl, ?_⟩
    rw [h3 k hkl, List.getD_eq_getElem?_getD, hk]
    rfl
set_option maxRecDepth 100000 in
set_option maxHeartbeats 4000000 in
theorem manyAlone_any (p : Option Addr) (cap : Nat) (R : List ByteArray) (fold : Bool) (s : ByteArray) (w : World) (h : StrAt w p R) (hl : R.length ≤ 140737488351232) (hR : ∀ x ∈ R, x.size ≤ 140737488351232) (hs : s.size ≤ 1048576) (ht : Tab w) :
    Calls Tryd.prog 3 #[.slice p R.length cap, .bool fold, .string s] w fun e w' => e = .returned (.bool true) ∧ Below w.heap.size w w' := by
  obtain ⟨b, hb⟩ : ∃ b, w.heap.size = b := ⟨_, rfl⟩
  obtain ⟨n, hn⟩ : ∃ n, R.length = n := ⟨_, rfl⟩
  obtain ⟨L, hL⟩ : ∃ L, Mn.fitL fold R = L := ⟨_, rfl⟩
  have HFL := Hid.mk' (Mn.fitL_fit fold R)
  rw [hL] at HFL
  obtain ⟨m, hm⟩ : ∃ m, L.length = m := ⟨_, rfl⟩
  have hm0 : 0 < m := by rw [← hm]; exact HFL.out.2
  have HG := Hid.mk' (HFL.out.1.good HFL.out.2)
  have HW := Hid.mk' (Wok.of HG.out)
  have hm30 : m ≤ 30 := by rw [← hm]; exact HFL.out.1.len
  have HM := Hid.mk' hm
  have HPL := Hid.mk' (fun i hi x hx => plc_al HFL.out.1 HFL.out.2 s (i := i) hi (x := x) hx)
  rw [hm] at HPL
  obtain ⟨T, hT⟩ : ∃ T, tx fold s = T := ⟨_, rfl⟩
  obtain ⟨A, hA⟩ : ∃ A, Mn.allF (Mn.wds fold L) T = A := ⟨_, rfl⟩
  obtain ⟨hs_, hhs⟩ : ∃ l, Mn.hasL (Mn.wds fold L) T = l := ⟨_, rfl⟩
  obtain ⟨nh, hnh⟩ : ∃ nh, hs_.length = nh := ⟨_, rfl⟩
  have HHL : Hid (nh = Mn.cntK A m) := Hid.mk' (by
    have := Mn.hasL_len (Mn.wds fold L) HW.out.nod T HW.out.few
    rw [hhs, hnh, hA, Mn.wds_len, hm] at this
    exact this)
  have HHA : Hid (∀ i, i < m → Mn.seen A i = true → hs_[Mn.cntK A i]? = some i) := fun i hi h => by
    have := Mn.hasL_at (Mn.wds fold L) T i (by omega) (by rw [hA]; exact h)
    rw [hhs, hA] at this
    exact this
  have HAN := Hid.mk' (Mn.any_has HW.out.nod HW.out.few T)
  rw [hhs, hnh] at HAN
  rw [hT, hA] at HPL
  have H0 : Hid (AlW (fun V => Tab V ∧ StrAt V p R) b w w) := ⟨Below.refl _ _, by omega, fun V V' hb hx => ⟨hx.1.below hb, hx.2.keep hb⟩, ht, h⟩
  have HSH := Hid.mk' (shown_any w)
  have HFI := Hid.mk' (fun V (K : World → Prop) (hV : AlW K b w V) (hst : StrAt V p R) => al_fits (fold := fold) p cap n R hn hV hst (by omega) (fun x hx => by have := hR x hx; omega) hL hm hm0)
  have HNW := Hid.mk' (fun V (K : World → Prop) q c (hV : AlW K b w V) (hst : StrAt V q L) h1 h2 => al_new (fold := fold) q c hm hV hst HG.out (fun x hx => by have := (HFL.out.1.siz x hx).2; omega) h1 h2)
  have HFO := Hid.mk' (fun V (K : World → Prop) sb q c (hV : AlW K b w V) hM (hst : StrAt V q L) => al_found (fold := fold) sb q c s hm hV hM hst HG.out (by omega))
  rw [hT, hA] at HFO
  have HHS := Hid.mk' (fun V (K : World → Prop) sb (hV : AlW K b w V) hM => al_has sb (Mn.wds fold L) fold s hV hM HW.out (by omega) (hl := by rw [hT]; exact hhs) hnh)
  have HAY := Hid.mk' (fun B sb V hM => anyOf_any B sb (Mn.wds fold L) fold s V hM HW.out (by omega))
  rw [hT, HAN.out] at HAY
  obtain ⟨t, ht2⟩ : ∃ t, Mn.fd fold s = t := ⟨_, rfl⟩
  have hts : t.size ≤ 1048576 := by rw [← ht2, Mn.fd_size]; exact hs
  rw [ht2] at HPL
  have HTF := Hid.mk' ht2
  rw [hn, hb]
  have HNH := Hid.mk' hnh
  have HSP := Hid.mk' (Mn.seen_plc A)
  have HCN := Hid.mk' (Mn.cntK_next A)
  have HAL : Hid (∀ i, (Mn.plc A i).length ≤ 100000000) := fun i => by
    have h1 := Mn.plc_len A i
    have h2 := Mn.allF_len HW.out.nod T
    rw [hA, Mn.wds_len, hm] at h2
    have h3 : T.length ≤ 1048576 := by rw [← hT, tx_len]; exact hs
    have h4 : T.length * m ≤ 1048576 * 30 := Nat.mul_le_mul h3 hm30
    omega
  clear h hl hR ht hn hL hT hA hhs hnh hm ht2 HFL HAN
  go_enter Tryd.func3, Tryd.ntmps3
  have HFD : Hid (∀ V, Calls Tryd.prog 8 #[.string s] V fun e w' => e = .returned (.string (Swar.foldL s)) ∧ Below V.heap.size V w') := fun V => fold_any s V (by omega)
  obtain ⟨fo, hfo⟩ : ∃ fo, fold = fo := ⟨_, rfl⟩
  have hts2 : (fo = false ∧ t = s) ∨ (fo = true ∧ Swar.foldL s = t) := by
    have := HTF.out
    rw [hfo] at this
    cases fo
    · exact .inl ⟨rfl, this.symm⟩
    · exact .inr ⟨rfl, this⟩
  rcases hts2 with ⟨hf2, htq⟩ | ⟨hf2, htq⟩
  all_goals
    rw [hf2] at hfo
    rw [hfo] at HFI HNW HFO HHS HAY ⊢
    clear HTF HG HW hfo hf2
    go_wp2_with (first
      | (go_at_call 5; refine HSH.out.mono ?_; rintro e w1 ⟨rfl, hb1⟩; have HW1 := Hid.mk' (H0.out.keep hb1); clear hb1 HSH H0)
      | (go_at_call 6; refine (HFI.out _ _ HW1.out HW1.out.ex.2).mono ?_; rintro e w2 ⟨gw, c, rfl, hmc, hcm, hw2⟩; have HW2 := Hid.mk' hw2; clear hw2 HW1 HFI)
      | (go_at_call 7; refine (HNW.out _ _ _ _ HW2.out HW2.out.ex.2 hmc hcm).mono ?_; rintro e w3 ⟨sb, rfl, hw3⟩; have HW3 := Hid.mk' hw3; clear hw3 HW2 HNW)
      | (go_at_call 8; refine (HFD.out _).mono ?_; rintro e w4 ⟨rfl, hb4⟩; have HW4 := Hid.mk' (HW3.out.keep hb4); clear HW3 hb4; have HW3 := HW4; clear HW4)
      | (go_at_call 9; refine (HFO.out _ _ sb _ _ HW3.out HW3.out.ex.2 HW3.out.ex.1.2).mono ?_; rintro e w5 ⟨o, base, rv, rfl, hw5⟩; have HW5 := Hid.mk' hw5; clear hw5 HW3 HFO)
      | (go_at_call 10; refine (HHS.out _ _ sb HW5.out HW5.out.ex.1.2).mono ?_; rintro e w6 ⟨Bh, hq, hc, rfl, hw6⟩; have HW6 := Hid.mk' hw6; clear hw6 HW5 HHS)
      | fail)
    first | rw [htq] | rw [htq] at HPL hts | skip
    obtain ⟨K, hKt, hKs, hKm, hKr, hKh, HWK⟩ : ∃ K : World → Prop, Hid (∀ V, K V → Tab V) ∧ Hid (∀ V, K V → StrAt V (some ⟨gw, 0, none⟩) L) ∧ Hid (∀ V, K V → ∃ B, ManyM B sb (Mn.wds _ L) _ V) ∧ Hid (∀ V, K V → RowsM base o m (Mn.plc A) rv V) ∧ Hid (∀ V, K V → V.ownsRow Bh 3 1 (.slice hq nh hc) nh (intL hs_)) ∧ Hid (AlW K b w w6) := ⟨_, fun V h => h.1.1.1.1.1, fun V h => h.1.1.1.2, fun V h => h.1.1.2, fun V h => h.1.2, fun V h => h.2, HW6.out⟩
    clear HW6 HFD hmc hcm
    go_loopw [16, 17, 18, 19] (fun kv iv lv sv wr => ∃ i : Nat, kv = .int .i64 (Mn.cntK A i : Int) ∧ iv = .int .i64 (i : Int) ∧ i ≤ m ∧ Hid (AlW K b w wr)) (fun kv iv lv sv _ => m - (intOf iv).toNat)
    case atStart => exact ⟨0, rfl, rfl, Nat.zero_le _, HWK⟩
    case round =>
      obtain ⟨i, rfl, rfl, him, HWR⟩ := hrel
      rename World => wr
      obtain ⟨ck, hck⟩ : ∃ ck, Mn.cntK A i = ck := ⟨_, rfl⟩
      rw [hck]
      by_cases hi : i < m
      · have hiI : (i : Int) < (m : Int) := by omega
        have hiN : ¬ (m : Int) ≤ (i : Int) := by omega
        obtain ⟨x, hx⟩ : ∃ x, L.getD i ByteArray.empty = x := ⟨_, rfl⟩
        obtain ⟨hpl, hx1, hx40⟩ := HPL.out i hi x hx
        obtain ⟨l, hlp⟩ : ∃ l, Mn.plc A i = l := ⟨_, rfl⟩
        rw [hlp] at hpl
        have hl := hpl.symm
        clear hpl
        have hpl := hlp
        obtain ⟨nl, hnl⟩ : ∃ nl, l.length = nl := ⟨_, rfl⟩
        have hsp := HSP.out i
        rw [hpl, hnl] at hsp
        have hcn := HCN.out i
        rw [hck] at hcn
        have hlen : nl ≤ 100000000 := by
          have := HAL.out i
          rw [hpl, hnl] at this
          exact this
        have c1 : wr.cell? ⟨gw, i, none⟩ = some (.string x) := by
          obtain ⟨g9, o9, h9, h10⟩ := hKs.out _ HWR.out.ex i (by have := HM.out; omega)
          cases h9
          rw [hx, Nat.zero_add] at h10
          exact h10
        obtain ⟨pv, cv, hrv⟩ : ∃ pv cv, rv i = .slice pv nl cv := by
          have := (hKr.out _ HWR.out.ex).row i hi
          rw [hpl, hnl] at this
          exact mr_shape this
        have HRC : Hid (∀ V, K V → V.cell? ⟨o, i, none⟩ = some (.slice pv nl cv) ∧ V.ownsRow base 3 1 (.slice pv nl cv) l.length (intL l)) := fun V hV => by
          have h1 := ((hKr.out V hV).cell i hi).1
          have h2 := (hKr.out V hV).row i hi
          rw [hrv] at h1 h2
          rw [hpl] at h2
          exact ⟨h1, h2⟩
        rcases Nat.eq_zero_or_pos nl with hz | hz
        · have hzI : ¬ (0 : Int) < (nl : Int) := by omega
          rw [hsp, decide_eq_false (by omega), if_neg (by decide)] at hcn
          have HCX := Hid.mk' hcn
          clear hcn hsp hpl hlp hrv hx hz
          go_wp2_with (first
              | (go_at_call 11; refine (al_alone x _ HWR.out hx1 (by omega) (by omega) (hKt.out _ HWR.out.ex) hl hnl).mono ?_; rintro e w7 ⟨B7, q7, c7, rfl, ho7, hw7⟩; have HW7 := Hid.mk' hw7; have HO7 := Hid.mk' ho7; have c2 := (HRC.out _ hw7.ex).1; clear ho7 hw7)
              | (go_at_call 12; refine (sameInts_any base B7 _ _ l _ (by omega) (by exact (HRC.out _ HW7.out.ex).2) (by rw [hnl]; exact HO7.out)).mono ?_; rintro e w8 ⟨rfl, hw8⟩; have HW8 := Hid.mk' (HW7.out.drew hw8); clear hw8 HW7)
              | fail)
          go_roundw
          case rel => exact ⟨i + 1, by rw [HCX.out], by simp, by omega, HW8⟩
          case measure =>
            simp [intOf]
            omega
        · have hzI : (0 : Int) < (nl : Int) := by omega
          have hsn : Mn.seen A i = true := by rw [hsp]; exact decide_eq_true hz
          rw [if_pos hsn] at hcn
          have hat := HHA.out i hi hsn
          rw [hck] at hat
          obtain ⟨gh, hqe, hkn, _⟩ := int_at (hKh.out _ HWR.out.ex) HNH.out hat
          subst hqe
          have HC3 : Hid (∀ V, K V → V.cell? ⟨gh, ck, none⟩ = some (.int .i64 (i : Int))) := fun V hV => by
            obtain ⟨g9, h9, _, h10⟩ := int_at (hKh.out V hV) HNH.out hat
            cases h9
            exact h10
          have hknN : ¬ (nh : Int) ≤ (ck : Int) := by omega
          have hck64 : ck ≤ 64 := by
            have h1 : Mn.cntK A i ≤ i := by
              unfold Mn.cntK
              have := List.length_filter_le (fun j => Mn.seen A j) (List.range i)
              rw [List.length_range] at this
              exact this
            omega
          have hwrk : IntKind.i64.wrap ((ck : Int) + 1) = (ck : Int) + 1 := by rw [IntKind.wrap_i64]; omega
          have hknI : (ck : Int) < (nh : Int) := by omega
          have HCX := Hid.mk' hcn
          clear hcn hsp hpl hlp hrv hx hat hsn
          go_wp2_with (first
              | (go_at_call 11; refine (al_alone x _ HWR.out hx1 (by omega) (by omega) (hKt.out _ HWR.out.ex) hl hnl).mono ?_; rintro e w7 ⟨B7, q7, c7, rfl, ho7, hw7⟩; have HW7 := Hid.mk' hw7; have HO7 := Hid.mk' ho7; have c2 := (HRC.out _ hw7.ex).1; clear ho7 hw7)
              | (go_at_call 12; refine (sameInts_any base B7 _ _ l _ (by omega) (by exact (HRC.out _ HW7.out.ex).2) (by rw [hnl]; exact HO7.out)).mono ?_; rintro e w8 ⟨rfl, hw8⟩; have HW8 := Hid.mk' (HW7.out.drew hw8); have c3 := HC3.out _ (HW8.out).ex; clear hw8 HW7)
              | fail)
          go_roundw
          case rel => exact ⟨i + 1, by rw [HCX.out]; simp, by simp, by omega, HW8⟩
          case measure =>
            simp [intOf]
            omega
      · obtain rfl : i = m := by omega
        have hiI : ¬ (i : Int) < (i : Int) := by omega
        have hcn : ck = nh := by rw [HHL.out, hck]
        subst hcn
        obtain ⟨B9, hM9⟩ := hKm.out _ HWR.out.ex
        have HA9 := Hid.mk' (HAY.out B9 sb wr hM9)
        clear HAY hM9
        rcases Nat.eq_zero_or_pos ck with hz | hz
        · have hzI : ¬ (0 : Int) < (ck : Int) := by omega
          have hzN : ¬ 0 < ck := by omega
          rw [decide_eq_false hzN] at HA9
          clear hz
          go_wp2_with (first | (go_at_call 13; refine HA9.out.mono ?_; rintro e w9 ⟨rfl, hw9⟩; have HW9 := Hid.mk' (HWR.out.drew hw9); clear hw9) | fail)
          go_ret
          exact ⟨rfl, HW9.out.bel⟩
        · have hzI : (0 : Int) < (ck : Int) := by omega
          rw [decide_eq_true hz] at HA9
          go_wp2_with (first | (go_at_call 13; refine HA9.out.mono ?_; rintro e w9 ⟨rfl, hw9⟩; have HW9 := Hid.mk' (HWR.out.drew hw9); clear hw9) | fail)
          go_ret
          exact ⟨rfl, HW9.out.bel⟩
end Go.Proofs.YtlejfeapnnioeaaDoor
