/-
  LiteralStands answers true. Conditions: each text is no longer than any text that is read can be; the table of package math/bits lies as its text lays it.
-/
import Derived.Test.YtecoiifmeajicaaDoorPlc6
import Derived.Test.YtecoiifmeajicaaDoorHlp6
namespace Go.Proofs.YtecoiifmeajicaaDoor
open Go.RowKit
set_option linter.unusedVariables false
theorem row_stay {w w' : World} {b : Nat} {v : Value} {n : Nat} {xs : List Value} (h : w.ownsRow b 3 1 v n xs) (hb : Below w.heap.size w w') : w'.ownsRow b 3 1 v n xs := by
  refine ⟨h.1, ?_⟩
  rcases h.2 with h2 | ⟨g, cap, cur, h1, h2, h3, h4⟩
  · exact .inl h2
  · exact .inr ⟨g, cap, cur, h1, h2, (hb.block g (Array.getElem?_eq_some_iff.1 h3).1).trans h3, h4⟩
/-- the kernel that is taken -/
def kOf (d k : Int) (n : Nat) : Int := if mayB k n = true then k else d
theorem kOf_suits (d k : Int) (n : Nat) (fold : Bool) (hd : d = 3 ∨ d = 5) (h0 : 0 ≤ k) (h5 : k ≤ 5) (hp : isP n = true) : suitsB (kk (kOf d k n) n fold) n = true := by
  unfold kOf
  by_cases hm : mayB k n = true
  · rw [if_pos hm]; exact may_suits k n fold h0 h5 hp hm
  · rw [if_neg hm]
    rcases hd with rfl | rfl
    · exact may_suits 3 n fold (by omega) (by omega) hp rfl
    · exact may_suits 5 n fold (by omega) (by omega) hp rfl
theorem cntF_skip (fold : Bool) (p s : ByteArray) (f a : Nat) (h : Lit.stB fold p s a = false) : Lit.cntF fold p s f a = Lit.cntF fold p s f (a + 1) := by
  cases f with
  | zero => rfl
  | succ f =>
    have e : Lit.fndL fold p s a = Lit.fndL fold p s (a + 1) := Lit.fndL_skip fold p s a 1 (fun i hi => by rw [show a + i = a by omega]; exact h)
    rw [show Lit.cntF fold p s (f + 1) a = if 0 ≤ Lit.fndL fold p s a then 1 + Lit.cntF fold p s f ((Lit.fndL fold p s a).toNat + p.size) else 0 from rfl, e]
    rfl
theorem cntF_hit (fold : Bool) (p s : ByteArray) (f a : Nat) (h : Lit.stB fold p s a = true) : Lit.cntF fold p s (f + 1) a = 1 + Lit.cntF fold p s f (a + p.size) := by
  rw [show Lit.cntF fold p s (f + 1) a = if 0 ≤ Lit.fndL fold p s a then 1 + Lit.cntF fold p s f ((Lit.fndL fold p s a).toNat + p.size) else 0 from rfl, Lit.fndL_hit fold p s a h, if_pos (by omega), Int.toNat_natCast]
theorem cntF_out (fold : Bool) (p s : ByteArray) (f a : Nat) (h : s.size < a + p.size) : Lit.cntF fold p s f a = 0 := by
  cases f with
  | zero => rfl
  | succ f => rw [show Lit.cntF fold p s (f + 1) a = if 0 ≤ Lit.fndL fold p s a then 1 + Lit.cntF fold p s f ((Lit.fndL fold p s a).toNat + p.size) else 0 from rfl, Lit.fndL_out fold p s a h, if_neg (by omega)]
/-- what holds ahead of a place -/
structure Sd (fold : Bool) (p s : ByteArray) (a n many free lst : Nat) : Prop where
  pl : ∃ pre : List Nat, pre.length = n ∧ Lit.plL fold p s = pre ++ (List.range' a (s.size + 1 - a)).filter (Lit.stB fold p s) ∧ (0 < n → 1 ≤ lst ∧ pre.getD (n - 1) 0 + 1 = lst)
  z : n = 0 → lst = 0
  no : ∀ j, lst ≤ j → j < a → Lit.stB fold p s j = false
  le : lst ≤ a
  ct : ∃ f, s.size + 1 ≤ max free a + f ∧ Lit.cntL fold p s = many + Lit.cntF fold p s f (max free a)
  fr : free ≤ s.size
  mn : many ≤ a
theorem Sd.start (fold : Bool) (p s : ByteArray) : Sd fold p s 0 0 0 0 0 :=
  ⟨⟨[], rfl, by rw [Lit.plL_spec]; unfold Lit.plc; rw [List.range_eq_range']; rfl, fun h => absurd h (by omega)⟩, fun _ => rfl, fun j h1 h2 => absurd h2 (by omega), by omega, ⟨s.size + 1, by omega, by unfold Lit.cntL; rw [Nat.max_self]; omega⟩, by omega, by omega⟩
theorem Sd.off {fold : Bool} {p s : ByteArray} {a n many free lst : Nat} (h : Sd fold p s a n many free lst) (ha : a ≤ s.size) (hs : Lit.stB fold p s a = false) : Sd fold p s (a + 1) n many free lst := by
  obtain ⟨pre, h1, h2, h3⟩ := h.pl
  refine ⟨⟨pre, h1, ?_, h3⟩, h.z, fun j hj hl => ?_, by have := h.le; omega, ?_, h.fr, by have := h.mn; omega⟩
  · rw [h2, show s.size + 1 - a = (s.size + 1 - (a + 1)) + 1 by omega, List.range'_succ, List.filter_cons, if_neg (by rw [hs]; decide)]
  · by_cases e : j = a
    · rw [e]; exact hs
    · exact h.no j hj (by omega)
  · obtain ⟨f, h4, h5⟩ := h.ct
    by_cases hf : free ≤ a
    · rw [Nat.max_eq_right hf] at h4 h5
      refine ⟨f, by omega, ?_⟩
      rw [Nat.max_eq_right (by omega), h5, cntF_skip fold p s f a hs]
    · rw [Nat.max_eq_left (by omega)] at h4 h5
      exact ⟨f, by omega, by rw [Nat.max_eq_left (by omega)]; exact h5⟩
theorem Sd.got {fold : Bool} {p s : ByteArray} {a n many free lst : Nat} (h : Sd fold p s a n many free lst) (ha : a ≤ s.size) (hs : Lit.stB fold p s a = true) : n < (Lit.plL fold p s).length ∧ (Lit.plL fold p s).getD n 0 = a ∧ (0 < n → 1 ≤ lst ∧ (Lit.plL fold p s).getD (n - 1) 0 + 1 = lst) ∧ Lit.fndL fold p s lst = (a : Int) ∧ Lit.fndL fold p s a = (a : Int) := by
  obtain ⟨pre, h1, h2, h3⟩ := h.pl
  have e : (List.range' a (s.size + 1 - a)).filter (Lit.stB fold p s) = a :: (List.range' (a + 1) (s.size + 1 - (a + 1))).filter (Lit.stB fold p s) := by
    rw [show s.size + 1 - a = (s.size + 1 - (a + 1)) + 1 by omega, List.range'_succ, List.filter_cons, if_pos (by rw [hs])]
  rw [e] at h2
  refine ⟨by rw [h2]; simp; omega, ?_, fun h0 => ⟨(h3 h0).1, ?_⟩, Lit.fndL_of fold p s lst a h.le hs h.no, Lit.fndL_hit fold p s a hs⟩
  · rw [h2, List.getD_eq_getElem?_getD, List.getElem?_append_right (by omega), show n - pre.length = 0 by omega]
    rfl
  · rw [h2, List.getD_eq_getElem?_getD, List.getElem?_append_left (by omega), ← List.getD_eq_getElem?_getD]
    exact (h3 h0).2
theorem Sd.snoc {fold : Bool} {p s : ByteArray} {a n many free lst : Nat} (h : Sd fold p s a n many free lst) (ha : a ≤ s.size) (hs : Lit.stB fold p s a = true) : ∃ pre : List Nat, pre.length = n + 1 ∧ Lit.plL fold p s = pre ++ (List.range' (a + 1) (s.size + 1 - (a + 1))).filter (Lit.stB fold p s) ∧ (0 < n + 1 → 1 ≤ a + 1 ∧ pre.getD (n + 1 - 1) 0 + 1 = a + 1) := by
  obtain ⟨pre, h1, h2, h3⟩ := h.pl
  have e : (List.range' a (s.size + 1 - a)).filter (Lit.stB fold p s) = a :: (List.range' (a + 1) (s.size + 1 - (a + 1))).filter (Lit.stB fold p s) := by
    rw [show s.size + 1 - a = (s.size + 1 - (a + 1)) + 1 by omega, List.range'_succ, List.filter_cons, if_pos (by rw [hs])]
  rw [e] at h2
  refine ⟨pre ++ [a], by simp; omega, by rw [h2]; simp, fun _ => ⟨by omega, ?_⟩⟩
  rw [List.getD_eq_getElem?_getD, List.getElem?_append_right (by omega), show n + 1 - 1 - pre.length = 0 by omega]
  rfl
theorem Sd.new {fold : Bool} {p s : ByteArray} {a n many free lst : Nat} (h : Sd fold p s a n many free lst) (ha : a ≤ s.size) (hs : Lit.stB fold p s a = true) (hf : free ≤ a) (hp : 1 ≤ p.size) : Sd fold p s (a + 1) (n + 1) (many + 1) (a + p.size) (a + 1) := by
  have hr := ((Lit.stB_iff fold p s a).1 hs).1
  refine ⟨h.snoc ha hs, fun e => absurd e (by omega), fun j h1 h2 => absurd h2 (by omega), by omega, ?_, by omega, by have := h.mn; omega⟩
  obtain ⟨f, h4, h5⟩ := h.ct
  rw [Nat.max_eq_right hf] at h4 h5
  obtain ⟨f, rfl⟩ : ∃ f', f = f' + 1 := ⟨f - 1, by omega⟩
  refine ⟨f, ?_, ?_⟩
  · rw [Nat.max_eq_left (by omega)]; omega
  · rw [Nat.max_eq_left (by omega), h5, cntF_hit fold p s f a hs]; omega
theorem Sd.old {fold : Bool} {p s : ByteArray} {a n many free lst : Nat} (h : Sd fold p s a n many free lst) (ha : a ≤ s.size) (hs : Lit.stB fold p s a = true) (hf : a < free) : Sd fold p s (a + 1) (n + 1) many free (a + 1) := by
  refine ⟨h.snoc ha hs, fun e => absurd e (by omega), fun j h1 h2 => absurd h2 (by omega), by omega, ?_, h.fr, by have := h.mn; omega⟩
  obtain ⟨f, h4, h5⟩ := h.ct
  rw [Nat.max_eq_left (by omega)] at h4 h5
  exact ⟨f, by omega, by rw [Nat.max_eq_left (by omega)]; exact h5⟩
theorem Sd.fin {fold : Bool} {p s : ByteArray} {n many free lst : Nat} (h : Sd fold p s (s.size + 1) n many free lst) (hp : 1 ≤ p.size) : n = (Lit.plL fold p s).length ∧ Lit.cntL fold p s = many ∧ Lit.fndL fold p s lst = -1 ∧ (0 < n → 1 ≤ lst ∧ (Lit.plL fold p s).getD (n - 1) 0 + 1 = lst) := by
  obtain ⟨pre, h1, h2, h3⟩ := h.pl
  rw [show s.size + 1 - (s.size + 1) = 0 by omega] at h2
  have e : Lit.plL fold p s = pre := by rw [h2]; simp
  obtain ⟨f, h4, h5⟩ := h.ct
  refine ⟨by rw [e]; omega, ?_, Lit.fndL_none fold p s lst (fun j hj => ?_), fun h0 => by rw [e]; exact h3 h0⟩
  · rw [h5, cntF_out fold p s f _ (by omega)]; omega
  · by_cases hl : j < s.size + 1
    · exact h.no j hj hl
    · rw [Lit.stB_no]; intro hst; have := hst.1; omega
set_option maxRecDepth 100000 in
set_option maxHeartbeats 16000000 in
theorem literalStands_any (raw : ByteArray) (fold : Bool) (k : Int) (s0 : ByteArray) (w : World) (hraw : raw.size ≤ 140737488351232) (hk1 : -9223372036854775808 ≤ k) (hk2 : k ≤ 9223372036854775807) (hs0 : s0.size ≤ 140737488351232) (ht : Tab w) :
    Calls Tryd.prog 6 #[.string raw, .bool fold, .int .i64 k, .string s0] w fun e w' => e = .returned (.bool true) ∧ Below w.heap.size w w' := by
  have HKN := Hid.mk' (known_any w ht)
  have HPA := Hid.mk' (fun W => pattern_any raw W (by omega))
  have HPI := Hid.mk' (fun W => pick6_any k W hk1 hk2)
  have hP := patP_ok raw
  have hkb := pk6_bd k
  generalize patP raw = p at *
  generalize pk6 k = q at *
  have hn : 1 ≤ p.size ∧ p.size ≤ 256 := of_decide_eq_true hP
  have HMA := Hid.mk' (fun W => may_any q p.size W (by omega))
  have HC := Hid.mk' (fun W (hW : Tab W) => compile_ok p fold (kOf 5 q p.size) W hP (kOf_suits 5 q p.size fold (.inr rfl) hkb.1 hkb.2 hP) hW)
  have HT := Hid.mk' ht
  have np := nil_fin
  have HKO : Hid (kOf 5 q p.size = if mayB q p.size = true then q else 5) := rfl
  clear ht hP
  by_cases hbig : 3000 < s0.size
  · have dbig : decide ((3000 : Int) < (s0.size : Int)) = true := decide_eq_true (by omega)
    have ebig : (3000 : Int) < (s0.size : Int) := by omega
    have ebig2 : (3000 : Int) ≤ (s0.size : Int) := by omega
    have hsl : ∀ W, (Instr.slice 9 (.string s0) none (some (.int .i64 3000)) none).run Tryd.prog W = .ok (.string (s0.extract 0 3000)) W := fun W => by
      simp [go_sem, ebig2, Instr.slice]
    cases hm : mayB q p.size with
    | true =>
      rw [hm] at HKO HMA
      rw [if_pos rfl] at HKO
      rw [HKO.out] at HC
      clear hm
      go_enter Tryd.func6, Tryd.ntmps6
      go_wp2_with fail
      refine HKN.out.mono ?_
      rintro e w1 ⟨rfl, hb1⟩
      have HB1 := Hid.mk' hb1
      clear hb1
      go_wp2_with fail
      refine (HPA.out _).mono ?_
      rintro e w' ⟨rfl, rfl⟩
      go_wp2_with fail
      refine (HPI.out _).mono ?_
      rintro e w' ⟨rfl, rfl⟩
      go_wp2_with fail
      refine (HMA.out _).mono ?_
      rintro e w1 ⟨rfl, rfl⟩
      go_wp2_with fail
      refine (HC.out _ (HT.out.below HB1.out)).mono ?_
      rintro e w2 ⟨g, D, rfl, hF, hD, hb2⟩
      have HF := Hid.mk' hF
      have HD : Hid (∀ k, D k → k < w2.heap.size) := fun k hk => (hD k hk).2
      have HB2 : Hid (Below w.heap.size w w2) := HB1.out.trans (hb2.mono HB1.out.size)
      clear hF hD hb2
      go_wp2_with fail
      have hz3 : (s0.extract 0 3000).size ≤ 3000 := by rw [ByteArray.size_extract]; omega
      generalize s0.extract 0 3000 = s at *
      refine (places_any g fold p s _ D w2 HF.out HD.out (by omega)).mono ?_
      rintro e w3 ⟨v0, rfl, hr3, hb3⟩
      have HF3 := Hid.mk' (HF.out.keeps (KeepsB.of_below hb3 HD.out))
      have HD3 : Hid (∀ k, D k → k < w3.heap.size) := fun k hk => by have := HD.out k hk; have := hb3.size; omega
      have HB3 : Hid (Below w.heap.size w w3) := HB2.out.trans (hb3.mono HB2.out.size)
      obtain ⟨pp, cp, rfl⟩ := slice_shape hr3
      have hLL : (Lit.plL fold p s).length ≤ s.size + 1 := Lit.plcF_len fold p s (s.size + 1) 0
      obtain ⟨LN, hLN⟩ : ∃ LN, (Lit.plL fold p s).length = LN := ⟨_, rfl⟩
      rw [hLN] at hr3 hLL
      have HLN := Hid.mk' hLN
      have HR3 := Hid.mk' hr3
      rw [hLN]
      clear hr3 hb3 hLN
      go_wp2_with fail
      go_loopw [16, 17, 18, 19] (fun nv mv fv av wr => ∃ (a n many free lst : Nat), a ≤ s.size + 1 ∧ n ≤ s.size + 1 ∧ nv = .int .i64 (n : Int) ∧ mv = .int .i64 (many : Int) ∧ fv = .int .i64 (free : Int) ∧ av = .int .i64 (a : Int) ∧ Hid (Sd fold p s a n many free lst) ∧ Hid (Below w3.heap.size w3 wr)) (fun _ _ _ av _ => s.size + 2 - (intOf av).toNat)
      case atStart => exact ⟨0, 0, 0, 0, 0, by omega, by omega, rfl, rfl, rfl, rfl, Sd.start fold p s, Below.refl _ _⟩
      case round =>
        obtain ⟨a, n, many, free, lst, ha, hnn, rfl, rfl, rfl, rfl, HS, HB⟩ := hrel
        have HFr := Hid.mk' (HF3.out.keeps (KeepsB.of_below HB.out HD3.out))
        have HDr : Hid (∀ k, D k → k < wr.heap.size) := fun k hk => by have := HD3.out k hk; have := HB.out.size; omega
        have HRr := Hid.mk' (row_stay HR3.out HB.out)
        have hfr := HS.out.fr
        have hmn := HS.out.mn
        have hls := HS.out.le
        by_cases hlt : a ≤ s.size
        · have hlI : (a : Int) ≤ (s.size : Int) := by omega
          cases hst : Lit.stB fold p s a with
          | false =>
            have HN1 := Hid.mk' (HS.out.off hlt hst)
            have HST : Hid (∀ W, Calls Tryd.prog 27 #[.string p, .bool fold, .string s, .int .i64 (a : Int)] W fun e w' => e = .returned (.bool false) ∧ ∃ n, w' = W.drewN n) := fun W => by
              by_cases hroom : a + p.size ≤ s.size
              · have := stands6_yes p s fold a W hn.2 (by omega) hroom
                rw [hst] at this
                exact this
              · exact (stands6_no p s fold (a : Int) W hn.2 (by omega) (by omega) (by omega) (.inr (by omega))).mono (fun e w' h => ⟨h.1, 0, h.2⟩)
            clear hst
            go_wp2_with fail
            refine (HST.out _).mono ?_
            rintro e w5 ⟨rfl, n5, rfl⟩
            have HB5 : Hid (Below w3.heap.size w3 (wr.drewN n5)) := HB.out.drewN' n5
            generalize wr.drewN n5 = w5 at *
            go_wp2_with fail
            exact ⟨⟨a + 1, n, many, free, lst, by omega, hnn, rfl, rfl, rfl, by go_num, HN1.out, HB5.out⟩, by simp [intOf]; omega⟩
          | true =>
            have hroom := ((Lit.stB_iff fold p s a).1 hst).1
            have HST := Hid.mk' (fun W => stands6_yes p s fold a W hn.2 (by omega) hroom)
            rw [hst] at HST
            have hgot := HS.out.got hlt hst
            rw [HLN.out] at hgot
            have HNEW := Hid.mk' (fun hf => HS.out.new hlt hst hf hn.1)
            have HOLD := Hid.mk' (fun hf => HS.out.old hlt hst hf)
            obtain ⟨hg1, hg2, hg3, hg4, hg5⟩ := hgot
            have hrow := HRr.out
            rw [← HLN.out] at hrow
            rcases own_cells hrow with ⟨_, e⟩ | ⟨gg, cc, e, _, _, hcl⟩
            · exfalso
              rw [e] at HLN
              have := HLN.out
              simp at this
              omega
            · rw [HLN.out] at e hcl
              cases e
              have HCL : Hid (∀ i, i < LN → wr.cell? ⟨gg, i, none⟩ = some (.int .i64 (((Lit.plL fold p s).getD i 0 : Nat) : Int))) := hcl
              have cl1 := hcl n hg1
              rw [hg2] at cl1
              have HG4 := Hid.mk' hg4
              have HG5 := Hid.mk' hg5
              have hnI : (n : Int) < (LN : Int) := by omega
              have hge : decide ((LN : Int) ≤ (n : Int)) = false := decide_eq_false (by omega)
              have haa : ((a : Int) != (a : Int)) = false := by simp
              clear hst hcl hrow hg4 hg5 hg2
              have hrest : ∀ w9 : World, Hid (Below w3.heap.size w3 w9) → True := fun _ _ => trivial
              by_cases hn0 : 0 < n
              · obtain ⟨hl1, hl2⟩ := hg3 hn0
                have cl2 := HCL.out (n - 1) (by omega)
                obtain ⟨pv, hpv⟩ : ∃ pv, (Lit.plL fold p s).getD (n - 1) 0 = pv := ⟨_, rfl⟩
                rw [hpv] at cl2 hl2
                have hcl2 : ∀ m, (wr.drewN m).cell? ⟨gg, n - 1, none⟩ = some (.int .i64 (pv : Int)) := fun m => cl2
                have e1 : ((n : Int) - 1).toNat = n - 1 := by omega
                have hnI0 : (0 : Int) < (n : Int) := by omega
                have hpl : pv + 1 ≤ s.size := by omega
                obtain rfl : lst = pv + 1 := by omega
                clear hpv hg3
                go_wp2_with fail
                refine (HST.out _).mono ?_
                rintro e w5 ⟨rfl, n5, rfl⟩
                have HB5 : Hid (Below w3.heap.size w3 (wr.drewN n5)) := HB.out.drewN' n5
                have HF5 : Hid (Fnd g fold p _ D (wr.drewN n5)) := HFr.out.keeps (fun _ _ => rfl)
                have HD5 : Hid (∀ k, D k → k < (wr.drewN n5).heap.size) := HDr.out
                have k1 : (wr.drewN n5).cell? ⟨gg, n, none⟩ = some (.int .i64 (a : Int)) := cl1
                have k2 := hcl2 n5
                generalize wr.drewN n5 = w5 at *
                go_wp2_with fail
                refine (find_any g fold p s _ ((pv : Int) + 1) w5 D HF5.out (by omega) (by omega) (by omega)).mono ?_
                rintro e w6 ⟨rfl, hb6⟩
                rw [show ((pv : Int) + 1).toNat = pv + 1 by omega, HG4.out]
                have HB6 : Hid (Below w3.heap.size w3 w6) := HB5.out.trans (hb6.mono HB5.out.size)
                have HF6 := Hid.mk' (HF5.out.keeps (KeepsB.of_below hb6 HD5.out))
                clear hb6
                go_wp2_with fail
                refine (find_any g fold p s _ (a : Int) w6 D HF6.out (by omega) (by omega) (by omega)).mono ?_
                rintro e w7 ⟨rfl, hb7⟩
                rw [Int.toNat_natCast, HG5.out]
                have HB7 : Hid (Below w3.heap.size w3 w7) := HB6.out.trans (hb7.mono HB6.out.size)
                clear hb7
                by_cases hfa : free ≤ a
                · have hfI : (free : Int) ≤ (a : Int) := by omega
                  have hfd : decide ((free : Int) ≤ (a : Int)) = true := decide_eq_true hfI
                  have HX := Hid.mk' (HNEW.out hfa)
                  go_wp2_with fail
                  exact ⟨⟨a + 1, n + 1, many + 1, a + p.size, a + 1, by omega, by omega, by go_num, by go_num, by go_num, by go_num, HX.out, HB7.out⟩, by simp [intOf]; omega⟩
                · have hfI : ¬ (free : Int) ≤ (a : Int) := by omega
                  have hfd : decide ((free : Int) ≤ (a : Int)) = false := decide_eq_false hfI
                  have HX := Hid.mk' (HOLD.out (by omega))
                  go_wp2_with fail
                  exact ⟨⟨a + 1, n + 1, many, free, a + 1, by omega, by omega, by go_num, rfl, rfl, by go_num, HX.out, HB7.out⟩, by simp [intOf]; omega⟩
              · obtain rfl : n = 0 := by omega
                obtain rfl : lst = 0 := HS.out.z rfl
                clear hg3 hn0
                go_wp2_with fail
                refine (HST.out _).mono ?_
                rintro e w5 ⟨rfl, n5, rfl⟩
                have HB5 : Hid (Below w3.heap.size w3 (wr.drewN n5)) := HB.out.drewN' n5
                have HF5 : Hid (Fnd g fold p _ D (wr.drewN n5)) := HFr.out.keeps (fun _ _ => rfl)
                have HD5 : Hid (∀ k, D k → k < (wr.drewN n5).heap.size) := HDr.out
                have k1 : (wr.drewN n5).cell? ⟨gg, 0, none⟩ = some (.int .i64 (a : Int)) := cl1
                clear cl1
                generalize wr.drewN n5 = w5 at *
                go_wp2_with fail
                refine (find_any g fold p s _ 0 w5 D HF5.out (by omega) (by omega) (by omega)).mono ?_
                rintro e w6 ⟨rfl, hb6⟩
                rw [show (0 : Int).toNat = 0 from rfl, HG4.out]
                have HB6 : Hid (Below w3.heap.size w3 w6) := HB5.out.trans (hb6.mono HB5.out.size)
                have HF6 := Hid.mk' (HF5.out.keeps (KeepsB.of_below hb6 HD5.out))
                clear hb6
                go_wp2_with fail
                refine (find_any g fold p s _ (a : Int) w6 D HF6.out (by omega) (by omega) (by omega)).mono ?_
                rintro e w7 ⟨rfl, hb7⟩
                rw [Int.toNat_natCast, HG5.out]
                have HB7 : Hid (Below w3.heap.size w3 w7) := HB6.out.trans (hb7.mono HB6.out.size)
                clear hb7
                by_cases hfa : free ≤ a
                · have hfI : (free : Int) ≤ (a : Int) := by omega
                  have hfd : decide ((free : Int) ≤ (a : Int)) = true := decide_eq_true hfI
                  have HX := Hid.mk' (HNEW.out hfa)
                  go_wp2_with fail
                  exact ⟨⟨a + 1, 0 + 1, many + 1, a + p.size, a + 1, by omega, by omega, by go_num, by go_num, by go_num, by go_num, HX.out, HB7.out⟩, by simp [intOf]; omega⟩
                · have hfI : ¬ (free : Int) ≤ (a : Int) := by omega
                  have hfd : decide ((free : Int) ≤ (a : Int)) = false := decide_eq_false hfI
                  have HX := Hid.mk' (HOLD.out (by omega))
                  go_wp2_with fail
                  exact ⟨⟨a + 1, 0 + 1, many, free, a + 1, by omega, by omega, by go_num, rfl, rfl, by go_num, HX.out, HB7.out⟩, by simp [intOf]; omega⟩
        · have hlI : ¬ (a : Int) ≤ (s.size : Int) := by omega
          obtain rfl : a = s.size + 1 := by omega
          obtain ⟨f1, f2, f3, f4⟩ := HS.out.fin hn.1
          rw [HLN.out] at f1
          subst f1
          have HC9 := Hid.mk' f2
          have HF9 := Hid.mk' f3
          have hee : ((n : Int) == (n : Int)) = true := by simp
          have hmm : ((many : Int) == (many : Int)) = true := by simp
          clear f2 f3
          by_cases hn0 : 0 < n
          · obtain ⟨hl1, hl2⟩ := f4 hn0
            have hrow := HRr.out
            rw [← HLN.out] at hrow
            rcases own_cells hrow with ⟨_, e⟩ | ⟨gg, cc, e, _, _, hcl⟩
            · exfalso
              rw [e] at HLN
              have := HLN.out
              simp at this
              omega
            · rw [HLN.out] at e hcl
              cases e
              have cl2 := hcl (n - 1) (by omega)
              obtain ⟨pv, hpv⟩ : ∃ pv, (Lit.plL fold p s).getD (n - 1) 0 = pv := ⟨_, rfl⟩
              rw [hpv] at cl2 hl2
              have e1 : ((n : Int) - 1).toNat = n - 1 := by omega
              have hnI0 : (0 : Int) < (n : Int) := by omega
              obtain rfl : lst = pv + 1 := by omega
              clear hpv hcl hrow f4
              go_wp2_with fail
              refine (count_any g fold p s _ wr D HFr.out HDr.out (by omega)).mono ?_
              rintro e w9 ⟨rfl, hb9⟩
              rw [HC9.out]
              have HFs := Hid.mk' (HFr.out.keeps (KeepsB.of_below hb9 HDr.out))
              have HB9 : Hid (Below w3.heap.size w3 w9) := HB.out.trans (hb9.mono HB.out.size)
              clear hb9
              go_wp2_with fail
              refine (find_any g fold p s _ ((pv : Int) + 1) w9 D HFs.out (by omega) (by omega) (by omega)).mono ?_
              rintro e w10 ⟨rfl, hb10⟩
              rw [show ((pv : Int) + 1).toNat = pv + 1 by omega, HF9.out]
              have HB10 : Hid (Below w3.heap.size w3 w10) := HB9.out.trans (hb10.mono HB9.out.size)
              clear hb10
              go_wp2_with fail
              go_ret
              exact ⟨rfl, HB3.out.trans (HB10.out.mono HB3.out.size)⟩
          · obtain rfl : n = 0 := by omega
            obtain rfl : lst = 0 := HS.out.z rfl
            clear f4 hn0
            go_wp2_with fail
            refine (count_any g fold p s _ wr D HFr.out HDr.out (by omega)).mono ?_
            rintro e w9 ⟨rfl, hb9⟩
            rw [HC9.out]
            have HFs := Hid.mk' (HFr.out.keeps (KeepsB.of_below hb9 HDr.out))
            have HB9 : Hid (Below w3.heap.size w3 w9) := HB.out.trans (hb9.mono HB.out.size)
            clear hb9
            go_wp2_with fail
            refine (find_any g fold p s _ 0 w9 D HFs.out (by omega) (by omega) (by omega)).mono ?_
            rintro e w10 ⟨rfl, hb10⟩
            rw [show (0 : Int).toNat = 0 from rfl, HF9.out]
            have HB10 : Hid (Below w3.heap.size w3 w10) := HB9.out.trans (hb10.mono HB9.out.size)
            clear hb10
            go_wp2_with fail
            go_ret
            exact ⟨rfl, HB3.out.trans (HB10.out.mono HB3.out.size)⟩
    | false =>
      rw [hm] at HKO HMA
      rw [if_neg (by decide)] at HKO
      rw [HKO.out] at HC
      clear hm
      go_enter Tryd.func6, Tryd.ntmps6
      go_wp2_with fail
      refine HKN.out.mono ?_
      rintro e w1 ⟨rfl, hb1⟩
      have HB1 := Hid.mk' hb1
      clear hb1
      go_wp2_with fail
      refine (HPA.out _).mono ?_
      rintro e w' ⟨rfl, rfl⟩
      go_wp2_with fail
      refine (HPI.out _).mono ?_
      rintro e w' ⟨rfl, rfl⟩
      go_wp2_with fail
      refine (HMA.out _).mono ?_
      rintro e w1 ⟨rfl, rfl⟩
      go_wp2_with fail
      refine (HC.out _ (HT.out.below HB1.out)).mono ?_
      rintro e w2 ⟨g, D, rfl, hF, hD, hb2⟩
      have HF := Hid.mk' hF
      have HD : Hid (∀ k, D k → k < w2.heap.size) := fun k hk => (hD k hk).2
      have HB2 : Hid (Below w.heap.size w w2) := HB1.out.trans (hb2.mono HB1.out.size)
      clear hF hD hb2
      go_wp2_with fail
      have hz3 : (s0.extract 0 3000).size ≤ 3000 := by rw [ByteArray.size_extract]; omega
      generalize s0.extract 0 3000 = s at *
      refine (places_any g fold p s _ D w2 HF.out HD.out (by omega)).mono ?_
      rintro e w3 ⟨v0, rfl, hr3, hb3⟩
      have HF3 := Hid.mk' (HF.out.keeps (KeepsB.of_below hb3 HD.out))
      have HD3 : Hid (∀ k, D k → k < w3.heap.size) := fun k hk => by have := HD.out k hk; have := hb3.size; omega
      have HB3 : Hid (Below w.heap.size w w3) := HB2.out.trans (hb3.mono HB2.out.size)
      obtain ⟨pp, cp, rfl⟩ := slice_shape hr3
      have hLL : (Lit.plL fold p s).length ≤ s.size + 1 := Lit.plcF_len fold p s (s.size + 1) 0
      obtain ⟨LN, hLN⟩ : ∃ LN, (Lit.plL fold p s).length = LN := ⟨_, rfl⟩
      rw [hLN] at hr3 hLL
      have HLN := Hid.mk' hLN
      have HR3 := Hid.mk' hr3
      rw [hLN]
      clear hr3 hb3 hLN
      go_wp2_with fail
      go_loopw [16, 17, 18, 19] (fun nv mv fv av wr => ∃ (a n many free lst : Nat), a ≤ s.size + 1 ∧ n ≤ s.size + 1 ∧ nv = .int .i64 (n : Int) ∧ mv = .int .i64 (many : Int) ∧ fv = .int .i64 (free : Int) ∧ av = .int .i64 (a : Int) ∧ Hid (Sd fold p s a n many free lst) ∧ Hid (Below w3.heap.size w3 wr)) (fun _ _ _ av _ => s.size + 2 - (intOf av).toNat)
      case atStart => exact ⟨0, 0, 0, 0, 0, by omega, by omega, rfl, rfl, rfl, rfl, Sd.start fold p s, Below.refl _ _⟩
      case round =>
        obtain ⟨a, n, many, free, lst, ha, hnn, rfl, rfl, rfl, rfl, HS, HB⟩ := hrel
        have HFr := Hid.mk' (HF3.out.keeps (KeepsB.of_below HB.out HD3.out))
        have HDr : Hid (∀ k, D k → k < wr.heap.size) := fun k hk => by have := HD3.out k hk; have := HB.out.size; omega
        have HRr := Hid.mk' (row_stay HR3.out HB.out)
        have hfr := HS.out.fr
        have hmn := HS.out.mn
        have hls := HS.out.le
        by_cases hlt : a ≤ s.size
        · have hlI : (a : Int) ≤ (s.size : Int) := by omega
          cases hst : Lit.stB fold p s a with
          | false =>
            have HN1 := Hid.mk' (HS.out.off hlt hst)
            have HST : Hid (∀ W, Calls Tryd.prog 27 #[.string p, .bool fold, .string s, .int .i64 (a : Int)] W fun e w' => e = .returned (.bool false) ∧ ∃ n, w' = W.drewN n) := fun W => by
              by_cases hroom : a + p.size ≤ s.size
              · have := stands6_yes p s fold a W hn.2 (by omega) hroom
                rw [hst] at this
                exact this
              · exact (stands6_no p s fold (a : Int) W hn.2 (by omega) (by omega) (by omega) (.inr (by omega))).mono (fun e w' h => ⟨h.1, 0, h.2⟩)
            clear hst
            go_wp2_with fail
            refine (HST.out _).mono ?_
            rintro e w5 ⟨rfl, n5, rfl⟩
            have HB5 : Hid (Below w3.heap.size w3 (wr.drewN n5)) := HB.out.drewN' n5
            generalize wr.drewN n5 = w5 at *
            go_wp2_with fail
            exact ⟨⟨a + 1, n, many, free, lst, by omega, hnn, rfl, rfl, rfl, by go_num, HN1.out, HB5.out⟩, by simp [intOf]; omega⟩
          | true =>
            have hroom := ((Lit.stB_iff fold p s a).1 hst).1
            have HST := Hid.mk' (fun W => stands6_yes p s fold a W hn.2 (by omega) hroom)
            rw [hst] at HST
            have hgot := HS.out.got hlt hst
            rw [HLN.out] at hgot
            have HNEW := Hid.mk' (fun hf => HS.out.new hlt hst hf hn.1)
            have HOLD := Hid.mk' (fun hf => HS.out.old hlt hst hf)
            obtain ⟨hg1, hg2, hg3, hg4, hg5⟩ := hgot
            have hrow := HRr.out
            rw [← HLN.out] at hrow
            rcases own_cells hrow with ⟨_, e⟩ | ⟨gg, cc, e, _, _, hcl⟩
            · exfalso
              rw [e] at HLN
              have := HLN.out
              simp at this
              omega
            · rw [HLN.out] at e hcl
              cases e
              have HCL : Hid (∀ i, i < LN → wr.cell? ⟨gg, i, none⟩ = some (.int .i64 (((Lit.plL fold p s).getD i 0 : Nat) : Int))) := hcl
              have cl1 := hcl n hg1
              rw [hg2] at cl1
              have HG4 := Hid.mk' hg4
              have HG5 := Hid.mk' hg5
              have hnI : (n : Int) < (LN : Int) := by omega
              have hge : decide ((LN : Int) ≤ (n : Int)) = false := decide_eq_false (by omega)
              have haa : ((a : Int) != (a : Int)) = false := by simp
              clear hst hcl hrow hg4 hg5 hg2
              have hrest : ∀ w9 : World, Hid (Below w3.heap.size w3 w9) → True := fun _ _ => trivial
              by_cases hn0 : 0 < n
              · obtain ⟨hl1, hl2⟩ := hg3 hn0
                have cl2 := HCL.out (n - 1) (by omega)
                obtain ⟨pv, hpv⟩ : ∃ pv, (Lit.plL fold p s).getD (n - 1) 0 = pv := ⟨_, rfl⟩
                rw [hpv] at cl2 hl2
                have hcl2 : ∀ m, (wr.drewN m).cell? ⟨gg, n - 1, none⟩ = some (.int .i64 (pv : Int)) := fun m => cl2
                have e1 : ((n : Int) - 1).toNat = n - 1 := by omega
                have hnI0 : (0 : Int) < (n : Int) := by omega
                have hpl : pv + 1 ≤ s.size := by omega
                obtain rfl : lst = pv + 1 := by omega
                clear hpv hg3
                go_wp2_with fail
                refine (HST.out _).mono ?_
                rintro e w5 ⟨rfl, n5, rfl⟩
                have HB5 : Hid (Below w3.heap.size w3 (wr.drewN n5)) := HB.out.drewN' n5
                have HF5 : Hid (Fnd g fold p _ D (wr.drewN n5)) := HFr.out.keeps (fun _ _ => rfl)
                have HD5 : Hid (∀ k, D k → k < (wr.drewN n5).heap.size) := HDr.out
                have k1 : (wr.drewN n5).cell? ⟨gg, n, none⟩ = some (.int .i64 (a : Int)) := cl1
                have k2 := hcl2 n5
                generalize wr.drewN n5 = w5 at *
                go_wp2_with fail
                refine (find_any g fold p s _ ((pv : Int) + 1) w5 D HF5.out (by omega) (by omega) (by omega)).mono ?_
                rintro e w6 ⟨rfl, hb6⟩
                rw [show ((pv : Int) + 1).toNat = pv + 1 by omega, HG4.out]
                have HB6 : Hid (Below w3.heap.size w3 w6) := HB5.out.trans (hb6.mono HB5.out.size)
                have HF6 := Hid.mk' (HF5.out.keeps (KeepsB.of_below hb6 HD5.out))
                clear hb6
                go_wp2_with fail
                refine (find_any g fold p s _ (a : Int) w6 D HF6.out (by omega) (by omega) (by omega)).mono ?_
                rintro e w7 ⟨rfl, hb7⟩
                rw [Int.toNat_natCast, HG5.out]
                have HB7 : Hid (Below w3.heap.size w3 w7) := HB6.out.trans (hb7.mono HB6.out.size)
                clear hb7
                by_cases hfa : free ≤ a
                · have hfI : (free : Int) ≤ (a : Int) := by omega
                  have hfd : decide ((free : Int) ≤ (a : Int)) = true := decide_eq_true hfI
                  have HX := Hid.mk' (HNEW.out hfa)
                  go_wp2_with fail
                  exact ⟨⟨a + 1, n + 1, many + 1, a + p.size, a + 1, by omega, by omega, by go_num, by go_num, by go_num, by go_num, HX.out, HB7.out⟩, by simp [intOf]; omega⟩
                · have hfI : ¬ (free : Int) ≤ (a : Int) := by omega
                  have hfd : decide ((free : Int) ≤ (a : Int)) = false := decide_eq_false hfI
                  have HX := Hid.mk' (HOLD.out (by omega))
                  go_wp2_with fail
                  exact ⟨⟨a + 1, n + 1, many, free, a + 1, by omega, by omega, by go_num, rfl, rfl, by go_num, HX.out, HB7.out⟩, by simp [intOf]; omega⟩
              · obtain rfl : n = 0 := by omega
                obtain rfl : lst = 0 := HS.out.z rfl
                clear hg3 hn0
                go_wp2_with fail
                refine (HST.out _).mono ?_
                rintro e w5 ⟨rfl, n5, rfl⟩
                have HB5 : Hid (Below w3.heap.size w3 (wr.drewN n5)) := HB.out.drewN' n5
                have HF5 : Hid (Fnd g fold p _ D (wr.drewN n5)) := HFr.out.keeps (fun _ _ => rfl)
                have HD5 : Hid (∀ k, D k → k < (wr.drewN n5).heap.size) := HDr.out
                have k1 : (wr.drewN n5).cell? ⟨gg, 0, none⟩ = some (.int .i64 (a : Int)) := cl1
                clear cl1
                generalize wr.drewN n5 = w5 at *
                go_wp2_with fail
                refine (find_any g fold p s _ 0 w5 D HF5.out (by omega) (by omega) (by omega)).mono ?_
                rintro e w6 ⟨rfl, hb6⟩
                rw [show (0 : Int).toNat = 0 from rfl, HG4.out]
                have HB6 : Hid (Below w3.heap.size w3 w6) := HB5.out.trans (hb6.mono HB5.out.size)
                have HF6 := Hid.mk' (HF5.out.keeps (KeepsB.of_below hb6 HD5.out))
                clear hb6
                go_wp2_with fail
                refine (find_any g fold p s _ (a : Int) w6 D HF6.out (by omega) (by omega) (by omega)).mono ?_
                rintro e w7 ⟨rfl, hb7⟩
                rw [Int.toNat_natCast, HG5.out]
                have HB7 : Hid (Below w3.heap.size w3 w7) := HB6.out.trans (hb7.mono HB6.out.size)
                clear hb7
                by_cases hfa : free ≤ a
                · have hfI : (free : Int) ≤ (a : Int) := by omega
                  have hfd : decide ((free : Int) ≤ (a : Int)) = true := decide_eq_true hfI
                  have HX := Hid.mk' (HNEW.out hfa)
                  go_wp2_with fail
                  exact ⟨⟨a + 1, 0 + 1, many + 1, a + p.size, a + 1, by omega, by omega, by go_num, by go_num, by go_num, by go_num, HX.out, HB7.out⟩, by simp [intOf]; omega⟩
                · have hfI : ¬ (free : Int) ≤ (a : Int) := by omega
                  have hfd : decide ((free : Int) ≤ (a : Int)) = false := decide_eq_false hfI
                  have HX := Hid.mk' (HOLD.out (by omega))
                  go_wp2_with fail
                  exact ⟨⟨a + 1, 0 + 1, many, free, a + 1, by omega, by omega, by go_num, rfl, rfl, by go_num, HX.out, HB7.out⟩, by simp [intOf]; omega⟩
        · have hlI : ¬ (a : Int) ≤ (s.size : Int) := by omega
          obtain rfl : a = s.size + 1 := by omega
          obtain ⟨f1, f2, f3, f4⟩ := HS.out.fin hn.1
          rw [HLN.out] at f1
          subst f1
          have HC9 := Hid.mk' f2
          have HF9 := Hid.mk' f3
          have hee : ((n : Int) == (n : Int)) = true := by simp
          have hmm : ((many : Int) == (many : Int)) = true := by simp
          clear f2 f3
          by_cases hn0 : 0 < n
          · obtain ⟨hl1, hl2⟩ := f4 hn0
            have hrow := HRr.out
            rw [← HLN.out] at hrow
            rcases own_cells hrow with ⟨_, e⟩ | ⟨gg, cc, e, _, _, hcl⟩
            · exfalso
              rw [e] at HLN
              have := HLN.out
              simp at this
              omega
            · rw [HLN.out] at e hcl
              cases e
              have cl2 := hcl (n - 1) (by omega)
              obtain ⟨pv, hpv⟩ : ∃ pv, (Lit.plL fold p s).getD (n - 1) 0 = pv := ⟨_, rfl⟩
              rw [hpv] at cl2 hl2
              have e1 : ((n : Int) - 1).toNat = n - 1 := by omega
              have hnI0 : (0 : Int) < (n : Int) := by omega
              obtain rfl : lst = pv + 1 := by omega
              clear hpv hcl hrow f4
              go_wp2_with fail
              refine (count_any g fold p s _ wr D HFr.out HDr.out (by omega)).mono ?_
              rintro e w9 ⟨rfl, hb9⟩
              rw [HC9.out]
              have HFs := Hid.mk' (HFr.out.keeps (KeepsB.of_below hb9 HDr.out))
              have HB9 : Hid (Below w3.heap.size w3 w9) := HB.out.trans (hb9.mono HB.out.size)
              clear hb9
              go_wp2_with fail
              refine (find_any g fold p s _ ((pv : Int) + 1) w9 D HFs.out (by omega) (by omega) (by omega)).mono ?_
              rintro e w10 ⟨rfl, hb10⟩
              rw [show ((pv : Int) + 1).toNat = pv + 1 by omega, HF9.out]
              have HB10 : Hid (Below w3.heap.size w3 w10) := HB9.out.trans (hb10.mono HB9.out.size)
              clear hb10
              go_wp2_with fail
              go_ret
              exact ⟨rfl, HB3.out.trans (HB10.out.mono HB3.out.size)⟩
          · obtain rfl : n = 0 := by omega
            obtain rfl : lst = 0 := HS.out.z rfl
            clear f4 hn0
            go_wp2_with fail
            refine (count_any g fold p s _ wr D HFr.out HDr.out (by omega)).mono ?_
            rintro e w9 ⟨rfl, hb9⟩
            rw [HC9.out]
            have HFs := Hid.mk' (HFr.out.keeps (KeepsB.of_below hb9 HDr.out))
            have HB9 : Hid (Below w3.heap.size w3 w9) := HB.out.trans (hb9.mono HB.out.size)
            clear hb9
            go_wp2_with fail
            refine (find_any g fold p s _ 0 w9 D HFs.out (by omega) (by omega) (by omega)).mono ?_
            rintro e w10 ⟨rfl, hb10⟩
            rw [show (0 : Int).toNat = 0 from rfl, HF9.out]
            have HB10 : Hid (Below w3.heap.size w3 w10) := HB9.out.trans (hb10.mono HB9.out.size)
            clear hb10
            go_wp2_with fail
            go_ret
            exact ⟨rfl, HB3.out.trans (HB10.out.mono HB3.out.size)⟩
  · have dbig : decide ((3000 : Int) < (s0.size : Int)) = false := decide_eq_false (by omega)
    have ebig : ¬ (3000 : Int) < (s0.size : Int) := by omega
    have hz3 : s0.size ≤ 3000 := by omega
    cases hm : mayB q p.size with
    | true =>
      rw [hm] at HKO HMA
      rw [if_pos rfl] at HKO
      rw [HKO.out] at HC
      clear hm
      go_enter Tryd.func6, Tryd.ntmps6
      go_wp2_with fail
      refine HKN.out.mono ?_
      rintro e w1 ⟨rfl, hb1⟩
      have HB1 := Hid.mk' hb1
      clear hb1
      go_wp2_with fail
      refine (HPA.out _).mono ?_
      rintro e w' ⟨rfl, rfl⟩
      go_wp2_with fail
      refine (HPI.out _).mono ?_
      rintro e w' ⟨rfl, rfl⟩
      go_wp2_with fail
      refine (HMA.out _).mono ?_
      rintro e w1 ⟨rfl, rfl⟩
      go_wp2_with fail
      refine (HC.out _ (HT.out.below HB1.out)).mono ?_
      rintro e w2 ⟨g, D, rfl, hF, hD, hb2⟩
      have HF := Hid.mk' hF
      have HD : Hid (∀ k, D k → k < w2.heap.size) := fun k hk => (hD k hk).2
      have HB2 : Hid (Below w.heap.size w w2) := HB1.out.trans (hb2.mono HB1.out.size)
      clear hF hD hb2
      go_wp2_with fail
      generalize s0 = s at *
      refine (places_any g fold p s _ D w2 HF.out HD.out (by omega)).mono ?_
      rintro e w3 ⟨v0, rfl, hr3, hb3⟩
      have HF3 := Hid.mk' (HF.out.keeps (KeepsB.of_below hb3 HD.out))
      have HD3 : Hid (∀ k, D k → k < w3.heap.size) := fun k hk => by have := HD.out k hk; have := hb3.size; omega
      have HB3 : Hid (Below w.heap.size w w3) := HB2.out.trans (hb3.mono HB2.out.size)
      obtain ⟨pp, cp, rfl⟩ := slice_shape hr3
      have hLL : (Lit.plL fold p s).length ≤ s.size + 1 := Lit.plcF_len fold p s (s.size + 1) 0
      obtain ⟨LN, hLN⟩ : ∃ LN, (Lit.plL fold p s).length = LN := ⟨_, rfl⟩
      rw [hLN] at hr3 hLL
      have HLN := Hid.mk' hLN
      have HR3 := Hid.mk' hr3
      rw [hLN]
      clear hr3 hb3 hLN
      go_wp2_with fail
      go_loopw [16, 17, 18, 19] (fun nv mv fv av wr => ∃ (a n many free lst : Nat), a ≤ s.size + 1 ∧ n ≤ s.size + 1 ∧ nv = .int .i64 (n : Int) ∧ mv = .int .i64 (many : Int) ∧ fv = .int .i64 (free : Int) ∧ av = .int .i64 (a : Int) ∧ Hid (Sd fold p s a n many free lst) ∧ Hid (Below w3.heap.size w3 wr)) (fun _ _ _ av _ => s.size + 2 - (intOf av).toNat)
      case atStart => exact ⟨0, 0, 0, 0, 0, by omega, by omega, rfl, rfl, rfl, rfl, Sd.start fold p s, Below.refl _ _⟩
      case round =>
        obtain ⟨a, n, many, free, lst, ha, hnn, rfl, rfl, rfl, rfl, HS, HB⟩ := hrel
        have HFr := Hid.mk' (HF3.out.keeps (KeepsB.of_below HB.out HD3.out))
        have HDr : Hid (∀ k, D k → k < wr.heap.size) := fun k hk => by have := HD3.out k hk; have := HB.out.size; omega
        have HRr := Hid.mk' (row_stay HR3.out HB.out)
        have hfr := HS.out.fr
        have hmn := HS.out.mn
        have hls := HS.out.le
        by_cases hlt : a ≤ s.size
        · have hlI : (a : Int) ≤ (s.size : Int) := by omega
          cases hst : Lit.stB fold p s a with
          | false =>
            have HN1 := Hid.mk' (HS.out.off hlt hst)
            have HST : Hid (∀ W, Calls Tryd.prog 27 #[.string p, .bool fold, .string s, .int .i64 (a : Int)] W fun e w' => e = .returned (.bool false) ∧ ∃ n, w' = W.drewN n) := fun W => by
              by_cases hroom : a + p.size ≤ s.size
              · have := stands6_yes p s fold a W hn.2 (by omega) hroom
                rw [hst] at this
                exact this
              · exact (stands6_no p s fold (a : Int) W hn.2 (by omega) (by omega) (by omega) (.inr (by omega))).mono (fun e w' h => ⟨h.1, 0, h.2⟩)
            clear hst
            go_wp2_with fail
            refine (HST.out _).mono ?_
            rintro e w5 ⟨rfl, n5, rfl⟩
            have HB5 : Hid (Below w3.heap.size w3 (wr.drewN n5)) := HB.out.drewN' n5
            generalize wr.drewN n5 = w5 at *
            go_wp2_with fail
            exact ⟨⟨a + 1, n, many, free, lst, by omega, hnn, rfl, rfl, rfl, by go_num, HN1.out, HB5.out⟩, by simp [intOf]; omega⟩
          | true =>
            have hroom := ((Lit.stB_iff fold p s a).1 hst).1
            have HST := Hid.mk' (fun W => stands6_yes p s fold a W hn.2 (by omega) hroom)
            rw [hst] at HST
            have hgot := HS.out.got hlt hst
            rw [HLN.out] at hgot
            have HNEW := Hid.mk' (fun hf => HS.out.new hlt hst hf hn.1)
            have HOLD := Hid.mk' (fun hf => HS.out.old hlt hst hf)
            obtain ⟨hg1, hg2, hg3, hg4, hg5⟩ := hgot
            have hrow := HRr.out
            rw [← HLN.out] at hrow
            rcases own_cells hrow with ⟨_, e⟩ | ⟨gg, cc, e, _, _, hcl⟩
            · exfalso
              rw [e] at HLN
              have := HLN.out
              simp at this
              omega
            · rw [HLN.out] at e hcl
              cases e
              have HCL : Hid (∀ i, i < LN → wr.cell? ⟨gg, i, none⟩ = some (.int .i64 (((Lit.plL fold p s).getD i 0 : Nat) : Int))) := hcl
              have cl1 := hcl n hg1
              rw [hg2] at cl1
              have HG4 := Hid.mk' hg4
              have HG5 := Hid.mk' hg5
              have hnI : (n : Int) < (LN : Int) := by omega
              have hge : decide ((LN : Int) ≤ (n : Int)) = false := decide_eq_false (by omega)
              have haa : ((a : Int) != (a : Int)) = false := by simp
              clear hst hcl hrow hg4 hg5 hg2
              have hrest : ∀ w9 : World, Hid (Below w3.heap.size w3 w9) → True := fun _ _ => trivial
              by_cases hn0 : 0 < n
              · obtain ⟨hl1, hl2⟩ := hg3 hn0
                have cl2 := HCL.out (n - 1) (by omega)
                obtain ⟨pv, hpv⟩ : ∃ pv, (Lit.plL fold p s).getD (n - 1) 0 = pv := ⟨_, rfl⟩
                rw [hpv] at cl2 hl2
                have hcl2 : ∀ m, (wr.drewN m).cell? ⟨gg, n - 1, none⟩ = some (.int .i64 (pv : Int)) := fun m => cl2
                have e1 : ((n : Int) - 1).toNat = n - 1 := by omega
                have hnI0 : (0 : Int) < (n : Int) := by omega
                have hpl : pv + 1 ≤ s.size := by omega
                obtain rfl : lst = pv + 1 := by omega
                clear hpv hg3
                go_wp2_with fail
                refine (HST.out _).mono ?_
                rintro e w5 ⟨rfl, n5, rfl⟩
                have HB5 : Hid (Below w3.heap.size w3 (wr.drewN n5)) := HB.out.drewN' n5
                have HF5 : Hid (Fnd g fold p _ D (wr.drewN n5)) := HFr.out.keeps (fun _ _ => rfl)
                have HD5 : Hid (∀ k, D k → k < (wr.drewN n5).heap.size) := HDr.out
                have k1 : (wr.drewN n5).cell? ⟨gg, n, none⟩ = some (.int .i64 (a : Int)) := cl1
                have k2 := hcl2 n5
                generalize wr.drewN n5 = w5 at *
                go_wp2_with fail
                refine (find_any g fold p s _ ((pv : Int) + 1) w5 D HF5.out (by omega) (by omega) (by omega)).mono ?_
                rintro e w6 ⟨rfl, hb6⟩
                rw [show ((pv : Int) + 1).toNat = pv + 1 by omega, HG4.out]
                have HB6 : Hid (Below w3.heap.size w3 w6) := HB5.out.trans (hb6.mono HB5.out.size)
                have HF6 := Hid.mk' (HF5.out.keeps (KeepsB.of_below hb6 HD5.out))
                clear hb6
                go_wp2_with fail
                refine (find_any g fold p s _ (a : Int) w6 D HF6.out (by omega) (by omega) (by omega)).mono ?_
                rintro e w7 ⟨rfl, hb7⟩
                rw [Int.toNat_natCast, HG5.out]
                have HB7 : Hid (Below w3.heap.size w3 w7) := HB6.out.trans (hb7.mono HB6.out.size)
                clear hb7
                by_cases hfa : free ≤ a
                · have hfI : (free : Int) ≤ (a : Int) := by omega
                  have hfd : decide ((free : Int) ≤ (a : Int)) = true := decide_eq_true hfI
                  have HX := Hid.mk' (HNEW.out hfa)
                  go_wp2_with fail
                  exact ⟨⟨a + 1, n + 1, many + 1, a + p.size, a + 1, by omega, by omega, by go_num, by go_num, by go_num, by go_num, HX.out, HB7.out⟩, by simp [intOf]; omega⟩
                · have hfI : ¬ (free : Int) ≤ (a : Int) := by omega
                  have hfd : decide ((free : Int) ≤ (a : Int)) = false := decide_eq_false hfI
                  have HX := Hid.mk' (HOLD.out (by omega))
                  go_wp2_with fail
                  exact ⟨⟨a + 1, n + 1, many, free, a + 1, by omega, by omega, by go_num, rfl, rfl, by go_num, HX.out, HB7.out⟩, by simp [intOf]; omega⟩
              · obtain rfl : n = 0 := by omega
                obtain rfl : lst = 0 := HS.out.z rfl
                clear hg3 hn0
                go_wp2_with fail
                refine (HST.out _).mono ?_
                rintro e w5 ⟨rfl, n5, rfl⟩
                have HB5 : Hid (Below w3.heap.size w3 (wr.drewN n5)) := HB.out.drewN' n5
                have HF5 : Hid (Fnd g fold p _ D (wr.drewN n5)) := HFr.out.keeps (fun _ _ => rfl)
                have HD5 : Hid (∀ k, D k → k < (wr.drewN n5).heap.size) := HDr.out
                have k1 : (wr.drewN n5).cell? ⟨gg, 0, none⟩ = some (.int .i64 (a : Int)) := cl1
                clear cl1
                generalize wr.drewN n5 = w5 at *
                go_wp2_with fail
                refine (find_any g fold p s _ 0 w5 D HF5.out (by omega) (by omega) (by omega)).mono ?_
                rintro e w6 ⟨rfl, hb6⟩
                rw [show (0 : Int).toNat = 0 from rfl, HG4.out]
                have HB6 : Hid (Below w3.heap.size w3 w6) := HB5.out.trans (hb6.mono HB5.out.size)
                have HF6 := Hid.mk' (HF5.out.keeps (KeepsB.of_below hb6 HD5.out))
                clear hb6
                go_wp2_with fail
                refine (find_any g fold p s _ (a : Int) w6 D HF6.out (by omega) (by omega) (by omega)).mono ?_
                rintro e w7 ⟨rfl, hb7⟩
                rw [Int.toNat_natCast, HG5.out]
                have HB7 : Hid (Below w3.heap.size w3 w7) := HB6.out.trans (hb7.mono HB6.out.size)
                clear hb7
                by_cases hfa : free ≤ a
                · have hfI : (free : Int) ≤ (a : Int) := by omega
                  have hfd : decide ((free : Int) ≤ (a : Int)) = true := decide_eq_true hfI
                  have HX := Hid.mk' (HNEW.out hfa)
                  go_wp2_with fail
                  exact ⟨⟨a + 1, 0 + 1, many + 1, a + p.size, a + 1, by omega, by omega, by go_num, by go_num, by go_num, by go_num, HX.out, HB7.out⟩, by simp [intOf]; omega⟩
                · have hfI : ¬ (free : Int) ≤ (a : Int) := by omega
                  have hfd : decide ((free : Int) ≤ (a : Int)) = false := decide_eq_false hfI
                  have HX := Hid.mk' (HOLD.out (by omega))
                  go_wp2_with fail
                  exact ⟨⟨a + 1, 0 + 1, many, free, a + 1, by omega, by omega, by go_num, rfl, rfl, by go_num, HX.out, HB7.out⟩, by simp [intOf]; omega⟩
        · have hlI : ¬ (a : Int) ≤ (s.size : Int) := by omega
          obtain rfl : a = s.size + 1 := by omega
          obtain ⟨f1, f2, f3, f4⟩ := HS.out.fin hn.1
          rw [HLN.out] at f1
          subst f1
          have HC9 := Hid.mk' f2
          have HF9 := Hid.mk' f3
          have hee : ((n : Int) == (n : Int)) = true := by simp
          have hmm : ((many : Int) == (many : Int)) = true := by simp
          clear f2 f3
          by_cases hn0 : 0 < n
          · obtain ⟨hl1, hl2⟩ := f4 hn0
            have hrow := HRr.out
            rw [← HLN.out] at hrow
            rcases own_cells hrow with ⟨_, e⟩ | ⟨gg, cc, e, _, _, hcl⟩
            · exfalso
              rw [e] at HLN
              have := HLN.out
              simp at this
              omega
            · rw [HLN.out] at e hcl
              cases e
              have cl2 := hcl (n - 1) (by omega)
              obtain ⟨pv, hpv⟩ : ∃ pv, (Lit.plL fold p s).getD (n - 1) 0 = pv := ⟨_, rfl⟩
              rw [hpv] at cl2 hl2
              have e1 : ((n : Int) - 1).toNat = n - 1 := by omega
              have hnI0 : (0 : Int) < (n : Int) := by omega
              obtain rfl : lst = pv + 1 := by omega
              clear hpv hcl hrow f4
              go_wp2_with fail
              refine (count_any g fold p s _ wr D HFr.out HDr.out (by omega)).mono ?_
              rintro e w9 ⟨rfl, hb9⟩
              rw [HC9.out]
              have HFs := Hid.mk' (HFr.out.keeps (KeepsB.of_below hb9 HDr.out))
              have HB9 : Hid (Below w3.heap.size w3 w9) := HB.out.trans (hb9.mono HB.out.size)
              clear hb9
              go_wp2_with fail
              refine (find_any g fold p s _ ((pv : Int) + 1) w9 D HFs.out (by omega) (by omega) (by omega)).mono ?_
              rintro e w10 ⟨rfl, hb10⟩
              rw [show ((pv : Int) + 1).toNat = pv + 1 by omega, HF9.out]
              have HB10 : Hid (Below w3.heap.size w3 w10) := HB9.out.trans (hb10.mono HB9.out.size)
              clear hb10
              go_wp2_with fail
              go_ret
              exact ⟨rfl, HB3.out.trans (HB10.out.mono HB3.out.size)⟩
          · obtain rfl : n = 0 := by omega
            obtain rfl : lst = 0 := HS.out.z rfl
            clear f4 hn0
            go_wp2_with fail
            refine (count_any g fold p s _ wr D HFr.out HDr.out (by omega)).mono ?_
            rintro e w9 ⟨rfl, hb9⟩
            rw [HC9.out]
            have HFs := Hid.mk' (HFr.out.keeps (KeepsB.of_below hb9 HDr.out))
            have HB9 : Hid (Below w3.heap.size w3 w9) := HB.out.trans (hb9.mono HB.out.size)
            clear hb9
            go_wp2_with fail
            refine (find_any g fold p s _ 0 w9 D HFs.out (by omega) (by omega) (by omega)).mono ?_
            rintro e w10 ⟨rfl, hb10⟩
            rw [show (0 : Int).toNat = 0 from rfl, HF9.out]
            have HB10 : Hid (Below w3.heap.size w3 w10) := HB9.out.trans (hb10.mono HB9.out.size)
            clear hb10
            go_wp2_with fail
            go_ret
            exact ⟨rfl, HB3.out.trans (HB10.out.mono HB3.out.size)⟩
    | false =>
      rw [hm] at HKO HMA
      rw [if_neg (by decide)] at HKO
      rw [HKO.out] at HC
      clear hm
      go_enter Tryd.func6, Tryd.ntmps6
      go_wp2_with fail
      refine HKN.out.mono ?_
      rintro e w1 ⟨rfl, hb1⟩
      have HB1 := Hid.mk' hb1
      clear hb1
      go_wp2_with fail
      refine (HPA.out _).mono ?_
      rintro e w' ⟨rfl, rfl⟩
      go_wp2_with fail
      refine (HPI.out _).mono ?_
      rintro e w' ⟨rfl, rfl⟩
      go_wp2_with fail
      refine (HMA.out _).mono ?_
      rintro e w1 ⟨rfl, rfl⟩
      go_wp2_with fail
      refine (HC.out _ (HT.out.below HB1.out)).mono ?_
      rintro e w2 ⟨g, D, rfl, hF, hD, hb2⟩
      have HF := Hid.mk' hF
      have HD : Hid (∀ k, D k → k < w2.heap.size) := fun k hk => (hD k hk).2
      have HB2 : Hid (Below w.heap.size w w2) := HB1.out.trans (hb2.mono HB1.out.size)
      clear hF hD hb2
      go_wp2_with fail
      generalize s0 = s at *
      refine (places_any g fold p s _ D w2 HF.out HD.out (by omega)).mono ?_
      rintro e w3 ⟨v0, rfl, hr3, hb3⟩
      have HF3 := Hid.mk' (HF.out.keeps (KeepsB.of_below hb3 HD.out))
      have HD3 : Hid (∀ k, D k → k < w3.heap.size) := fun k hk => by have := HD.out k hk; have := hb3.size; omega
      have HB3 : Hid (Below w.heap.size w w3) := HB2.out.trans (hb3.mono HB2.out.size)
      obtain ⟨pp, cp, rfl⟩ := slice_shape hr3
      have hLL : (Lit.plL fold p s).length ≤ s.size + 1 := Lit.plcF_len fold p s (s.size + 1) 0
      obtain ⟨LN, hLN⟩ : ∃ LN, (Lit.plL fold p s).length = LN := ⟨_, rfl⟩
      rw [hLN] at hr3 hLL
      have HLN := Hid.mk' hLN
      have HR3 := Hid.mk' hr3
      rw [hLN]
      clear hr3 hb3 hLN
      go_wp2_with fail
      go_loopw [16, 17, 18, 19] (fun nv mv fv av wr => ∃ (a n many free lst : Nat), a ≤ s.size + 1 ∧ n ≤ s.size + 1 ∧ nv = .int .i64 (n : Int) ∧ mv = .int .i64 (many : Int) ∧ fv = .int .i64 (free : Int) ∧ av = .int .i64 (a : Int) ∧ Hid (Sd fold p s a n many free lst) ∧ Hid (Below w3.heap.size w3 wr)) (fun _ _ _ av _ => s.size + 2 - (intOf av).toNat)
      case atStart => exact ⟨0, 0, 0, 0, 0, by omega, by omega, rfl, rfl, rfl, rfl, Sd.start fold p s, Below.refl _ _⟩
      case round =>
        obtain ⟨a, n, many, free, lst, ha, hnn, rfl, rfl, rfl, rfl, HS, HB⟩ := hrel
        have HFr := Hid.mk' (HF3.out.keeps (KeepsB.of_below HB.out HD3.out))
        have HDr : Hid (∀ k, D k → k < wr.heap.size) := fun k hk => by have := HD3.out k hk; have := HB.out.size; omega
        have HRr := Hid.mk' (row_stay HR3.out HB.out)
        have hfr := HS.out.fr
        have hmn := HS.out.mn
        have hls := HS.out.le
        by_cases hlt : a ≤ s.size
        · have hlI : (a : Int) ≤ (s.size : Int) := by omega
          cases hst : Lit.stB fold p s a with
          | false =>
            have HN1 := Hid.mk' (HS.out.off hlt hst)
            have HST : Hid (∀ W, Calls Tryd.prog 27 #[.string p, .bool fold, .string s, .int .i64 (a : Int)] W fun e w' => e = .returned (.bool false) ∧ ∃ n, w' = W.drewN n) := fun W => by
              by_cases hroom : a + p.size ≤ s.size
              · have := stands6_yes p s fold a W hn.2 (by omega) hroom
                rw [hst] at this
                exact this
              · exact (stands6_no p s fold (a : Int) W hn.2 (by omega) (by omega) (by omega) (.inr (by omega))).mono (fun e w' h => ⟨h.1, 0, h.2⟩)
            clear hst
            go_wp2_with fail
            refine (HST.out _).mono ?_
            rintro e w5 ⟨rfl, n5, rfl⟩
            have HB5 : Hid (Below w3.heap.size w3 (wr.drewN n5)) := HB.out.drewN' n5
            generalize wr.drewN n5 = w5 at *
            go_wp2_with fail
            exact ⟨⟨a + 1, n, many, free, lst, by omega, hnn, rfl, rfl, rfl, by go_num, HN1.out, HB5.out⟩, by simp [intOf]; omega⟩
          | true =>
            have hroom := ((Lit.stB_iff fold p s a).1 hst).1
            have HST := Hid.mk' (fun W => stands6_yes p s fold a W hn.2 (by omega) hroom)
            rw [hst] at HST
            have hgot := HS.out.got hlt hst
            rw [HLN.out] at hgot
            have HNEW := Hid.mk' (fun hf => HS.out.new hlt hst hf hn.1)
            have HOLD := Hid.mk' (fun hf => HS.out.old hlt hst hf)
            obtain ⟨hg1, hg2, hg3, hg4, hg5⟩ := hgot
            have hrow := HRr.out
            rw [← HLN.out] at hrow
            rcases own_cells hrow with ⟨_, e⟩ | ⟨gg, cc, e, _, _, hcl⟩
            · exfalso
              rw [e] at HLN
              have := HLN.out
              simp at this
              omega
            · rw [HLN.out] at e hcl
              cases e
              have HCL : Hid (∀ i, i < LN → wr.cell? ⟨gg, i, none⟩ = some (.int .i64 (((Lit.plL fold p s).getD i 0 : Nat) : Int))) := hcl
              have cl1 := hcl n hg1
              rw [hg2] at cl1
              have HG4 := Hid.mk' hg4
              have HG5 := Hid.mk' hg5
              have hnI : (n : Int) < (LN : Int) := by omega
              have hge : decide ((LN : Int) ≤ (n : Int)) = false := decide_eq_false (by omega)
              have haa : ((a : Int) != (a : Int)) = false := by simp
              clear hst hcl hrow hg4 hg5 hg2
              have hrest : ∀ w9 : World, Hid (Below w3.heap.size w3 w9) → True := fun _ _ => trivial
              by_cases hn0 : 0 < n
              · obtain ⟨hl1, hl2⟩ := hg3 hn0
                have cl2 := HCL.out (n - 1) (by omega)
                obtain ⟨pv, hpv⟩ : ∃ pv, (Lit.plL fold p s).getD (n - 1) 0 = pv := ⟨_, rfl⟩
                rw [hpv] at cl2 hl2
                have hcl2 : ∀ m, (wr.drewN m).cell? ⟨gg, n - 1, none⟩ = some (.int .i64 (pv : Int)) := fun m => cl2
                have e1 : ((n : Int) - 1).toNat = n - 1 := by omega
                have hnI0 : (0 : Int) < (n : Int) := by omega
                have hpl : pv + 1 ≤ s.size := by omega
                obtain rfl : lst = pv + 1 := by omega
                clear hpv hg3
                go_wp2_with fail
                refine (HST.out _).mono ?_
                rintro e w5 ⟨rfl, n5, rfl⟩
                have HB5 : Hid (Below w3.heap.size w3 (wr.drewN n5)) := HB.out.drewN' n5
                have HF5 : Hid (Fnd g fold p _ D (wr.drewN n5)) := HFr.out.keeps (fun _ _ => rfl)
                have HD5 : Hid (∀ k, D k → k < (wr.drewN n5).heap.size) := HDr.out
                have k1 : (wr.drewN n5).cell? ⟨gg, n, none⟩ = some (.int .i64 (a : Int)) := cl1
                have k2 := hcl2 n5
                generalize wr.drewN n5 = w5 at *
                go_wp2_with fail
                refine (find_any g fold p s _ ((pv : Int) + 1) w5 D HF5.out (by omega) (by omega) (by omega)).mono ?_
                rintro e w6 ⟨rfl, hb6⟩
                rw [show ((pv : Int) + 1).toNat = pv + 1 by omega, HG4.out]
                have HB6 : Hid (Below w3.heap.size w3 w6) := HB5.out.trans (hb6.mono HB5.out.size)
                have HF6 := Hid.mk' (HF5.out.keeps (KeepsB.of_below hb6 HD5.out))
                clear hb6
                go_wp2_with fail
                refine (find_any g fold p s _ (a : Int) w6 D HF6.out (by omega) (by omega) (by omega)).mono ?_
                rintro e w7 ⟨rfl, hb7⟩
                rw [Int.toNat_natCast, HG5.out]
                have HB7 : Hid (Below w3.heap.size w3 w7) := HB6.out.trans (hb7.mono HB6.out.size)
                clear hb7
                by_cases hfa : free ≤ a
                · have hfI : (free : Int) ≤ (a : Int) := by omega
                  have hfd : decide ((free : Int) ≤ (a : Int)) = true := decide_eq_true hfI
                  have HX := Hid.mk' (HNEW.out hfa)
                  go_wp2_with fail
                  exact ⟨⟨a + 1, n + 1, many + 1, a + p.size, a + 1, by omega, by omega, by go_num, by go_num, by go_num, by go_num, HX.out, HB7.out⟩, by simp [intOf]; omega⟩
                · have hfI : ¬ (free : Int) ≤ (a : Int) := by omega
                  have hfd : decide ((free : Int) ≤ (a : Int)) = false := decide_eq_false hfI
                  have HX := Hid.mk' (HOLD.out (by omega))
                  go_wp2_with fail
                  exact ⟨⟨a + 1, n + 1, many, free, a + 1, by omega, by omega, by go_num, rfl, rfl, by go_num, HX.out, HB7.out⟩, by simp [intOf]; omega⟩
              · obtain rfl : n = 0 := by omega
                obtain rfl : lst = 0 := HS.out.z rfl
                clear hg3 hn0
                go_wp2_with fail
                refine (HST.out _).mono ?_
                rintro e w5 ⟨rfl, n5, rfl⟩
                have HB5 : Hid (Below w3.heap.size w3 (wr.drewN n5)) := HB.out.drewN' n5
                have HF5 : Hid (Fnd g fold p _ D (wr.drewN n5)) := HFr.out.keeps (fun _ _ => rfl)
                have HD5 : Hid (∀ k, D k → k < (wr.drewN n5).heap.size) := HDr.out
                have k1 : (wr.drewN n5).cell? ⟨gg, 0, none⟩ = some (.int .i64 (a : Int)) := cl1
                clear cl1
                generalize wr.drewN n5 = w5 at *
                go_wp2_with fail
                refine (find_any g fold p s _ 0 w5 D HF5.out (by omega) (by omega) (by omega)).mono ?_
                rintro e w6 ⟨rfl, hb6⟩
                rw [show (0 : Int).toNat = 0 from rfl, HG4.out]
                have HB6 : Hid (Below w3.heap.size w3 w6) := HB5.out.trans (hb6.mono HB5.out.size)
                have HF6 := Hid.mk' (HF5.out.keeps (KeepsB.of_below hb6 HD5.out))
                clear hb6
                go_wp2_with fail
                refine (find_any g fold p s _ (a : Int) w6 D HF6.out (by omega) (by omega) (by omega)).mono ?_
                rintro e w7 ⟨rfl, hb7⟩
                rw [Int.toNat_natCast, HG5.out]
                have HB7 : Hid (Below w3.heap.size w3 w7) := HB6.out.trans (hb7.mono HB6.out.size)
                clear hb7
                by_cases hfa : free ≤ a
                · have hfI : (free : Int) ≤ (a : Int) := by omega
                  have hfd : decide ((free : Int) ≤ (a : Int)) = true := decide_eq_true hfI
                  have HX := Hid.mk' (HNEW.out hfa)
                  go_wp2_with fail
                  exact ⟨⟨a + 1, 0 + 1, many + 1, a + p.size, a + 1, by omega, by omega, by go_num, by go_num, by go_num, by go_num, HX.out, HB7.out⟩, by simp [intOf]; omega⟩
                · have hfI : ¬ (free : Int) ≤ (a : Int) := by omega
                  have hfd : decide ((free : Int) ≤ (a : Int)) = false := decide_eq_false hfI
                  have HX := Hid.mk' (HOLD.out (by omega))
                  go_wp2_with fail
                  exact ⟨⟨a + 1, 0 + 1, many, free, a + 1, by omega, by omega, by go_num, rfl, rfl, by go_num, HX.out, HB7.out⟩, by simp [intOf]; omega⟩
        · have hlI : ¬ (a : Int) ≤ (s.size : Int) := by omega
          obtain rfl : a = s.size + 1 := by omega
          obtain ⟨f1, f2, f3, f4⟩ := HS.out.fin hn.1
          rw [HLN.out] at f1
          subst f1
          have HC9 := Hid.mk' f2
          have HF9 := Hid.mk' f3
          have hee : ((n : Int) == (n : Int)) = true := by simp
          have hmm : ((many : Int) == (many : Int)) = true := by simp
          clear f2 f3
          by_cases hn0 : 0 < n
          · obtain ⟨hl1, hl2⟩ := f4 hn0
            have hrow := HRr.out
            rw [← HLN.out] at hrow
            rcases own_cells hrow with ⟨_, e⟩ | ⟨gg, cc, e, _, _, hcl⟩
            · exfalso
              rw [e] at HLN
              have := HLN.out
              simp at this
              omega
            · rw [HLN.out] at e hcl
              cases e
              have cl2 := hcl (n - 1) (by omega)
              obtain ⟨pv, hpv⟩ : ∃ pv, (Lit.plL fold p s).getD (n - 1) 0 = pv := ⟨_, rfl⟩
              rw [hpv] at cl2 hl2
              have e1 : ((n : Int) - 1).toNat = n - 1 := by omega
              have hnI0 : (0 : Int) < (n : Int) := by omega
              obtain rfl : lst = pv + 1 := by omega
              clear hpv hcl hrow f4
              go_wp2_with fail
              refine (count_any g fold p s _ wr D HFr.out HDr.out (by omega)).mono ?_
              rintro e w9 ⟨rfl, hb9⟩
              rw [HC9.out]
              have HFs := Hid.mk' (HFr.out.keeps (KeepsB.of_below hb9 HDr.out))
              have HB9 : Hid (Below w3.heap.size w3 w9) := HB.out.trans (hb9.mono HB.out.size)
              clear hb9
              go_wp2_with fail
              refine (find_any g fold p s _ ((pv : Int) + 1) w9 D HFs.out (by omega) (by omega) (by omega)).mono ?_
              rintro e w10 ⟨rfl, hb10⟩
              rw [show ((pv : Int) + 1).toNat = pv + 1 by omega, HF9.out]
              have HB10 : Hid (Below w3.heap.size w3 w10) := HB9.out.trans (hb10.mono HB9.out.size)
              clear hb10
              go_wp2_with fail
              go_ret
              exact ⟨rfl, HB3.out.trans (HB10.out.mono HB3.out.size)⟩
          · obtain rfl : n = 0 := by omega
            obtain rfl : lst = 0 := HS.out.z rfl
            clear f4 hn0
            go_wp2_with fail
            refine (count_any g fold p s _ wr D HFr.out HDr.out (by omega)).mono ?_
            rintro e w9 ⟨rfl, hb9⟩
            rw [HC9.out]
            have HFs := Hid.mk' (HFr.out.keeps (KeepsB.of_below hb9 HDr.out))
            have HB9 : Hid (Below w3.heap.size w3 w9) := HB.out.trans (hb9.mono HB.out.size)
            clear hb9
            go_wp2_with fail
            refine (find_any g fold p s _ 0 w9 D HFs.out (by omega) (by omega) (by omega)).mono ?_
            rintro e w10 ⟨rfl, hb10⟩
            rw [show (0 : Int).toNat = 0 from rfl, HF9.out]
            have HB10 : Hid (Below w3.heap.size w3 w10) := HB9.out.trans (hb10.mono HB9.out.size)
            clear hb10
            go_wp2_with fail
            go_ret
            exact ⟨rfl, HB3.out.trans (HB10.out.mono HB3.out.size)⟩
end Go.Proofs.YtecoiifmeajicaaDoor
