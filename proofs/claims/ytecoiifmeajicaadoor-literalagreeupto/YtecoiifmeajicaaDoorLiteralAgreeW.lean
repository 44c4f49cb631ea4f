/-
  LiteralAgree answers true. Conditions: each text has at most 1048576 bytes; the table of package math/bits lies as its text lays it.
-/
import Derived.Test.YtecoiifmeajicaaDoorPlc6
import Derived.Test.YtecoiifmeajicaaDoorHlp6
namespace Go.Proofs.YtecoiifmeajicaaDoor
open Go.RowKit
set_option linter.unusedVariables false
theorem may_not (k : Int) (n : Nat) (fold : Bool) (h1 : 1 ≤ k) (hm : mayB k n = false) : suitsB (kk k n fold) n = false := by
  have hk : kk k n fold = k := by unfold kk; rw [if_neg (by omega)]
  rw [hk]
  unfold mayB at hm
  unfold suitsB
  by_cases k1 : k = 1
  · rw [if_pos k1] at hm ⊢; exact hm
  · rw [if_neg k1] at hm ⊢
    by_cases k2 : k = 2
    · rw [if_pos k2] at hm ⊢
      rw [decide_eq_false_iff_not] at hm ⊢; omega
    · rw [if_neg k2] at hm ⊢
      by_cases k4 : k = 4
      · rw [if_pos k4] at hm ⊢; exact hm
      · rw [if_neg k4] at hm; cases hm
theorem nil_neq (w : World) : (binOp .neq 23 (.pointer none) (.pointer none)).run Tryd.prog w = .ok (.bool false) w := by kernel_rfl
theorem row_grow {w w' : World} {b : Nat} {v : Value} {n : Nat} {xs : List Value} (h : w.ownsRow b 3 1 v n xs) (hb : Below w.heap.size w w') : w'.ownsRow b 3 1 v n xs := by
  refine ⟨h.1, ?_⟩
  rcases h.2 with h2 | ⟨g, cap, cur, h1, h2, h3, h4⟩
  · exact .inl h2
  · exact .inr ⟨g, cap, cur, h1, h2, (hb.block g (Array.getElem?_eq_some_iff.1 h3).1).trans h3, h4⟩
set_option maxRecDepth 100000 in
set_option maxHeartbeats 4000000 in
theorem literalAgree_any (raw : ByteArray) (fold : Bool) (s : ByteArray) (f : Int) (w : World) (hraw : raw.size ≤ 1048576) (hs : s.size ≤ 1048576) (hf1 : -9223372036854775808 ≤ f) (hf2 : f ≤ 9223372036854775807) (ht : Tab w) :
    Calls Tryd.prog 5 #[.string raw, .bool fold, .string s, .int .i64 f] w fun e w' => e = .returned (.bool true) ∧ Below w.heap.size w w' := by
  have HKN := Hid.mk' (known_any w ht)
  have HPA := Hid.mk' (fun W => pattern_any raw W (by omega))
  have hP := patP_ok raw
  generalize patP raw = p at *
  have hn : 1 ≤ p.size ∧ p.size ≤ 256 := of_decide_eq_true hP
  have hsu := suits_chs p.size fold hP
  have HC0 := Hid.mk' (fun W (hW : Tab W) => compile_ok p fold 0 W hP hsu hW)
  have HMA := Hid.mk' (fun k W => may_any k p.size W (by omega))
  have HT := Hid.mk' ht
  have HP := Hid.mk' hP
  have np := nil_fin
  have nq := nil_neq
  have hpl : (Lit.plL fold p s).length ≤ s.size + 1 := Lit.plcF_len fold p s (s.size + 1) 0
  have HPL := Hid.mk' hpl
  have hcl : Lit.cntL fold p s ≤ s.size + 1 := Lit.cntF_le fold p s (s.size + 1) 0
  clear ht hP hsu hpl
  go_enter Tryd.func5, Tryd.ntmps5
  go_wp2_with fail
  refine HKN.out.mono ?_
  rintro e w1 ⟨rfl, hb1⟩
  have HB1 := Hid.mk' hb1
  clear hb1
  go_wp2_with fail
  refine (HPA.out _).mono ?_
  rintro e w1 ⟨rfl, rfl⟩
  go_wp2_with fail
  refine (HC0.out _ (HT.out.below HB1.out)).mono ?_
  rintro e w2 ⟨g, D, rfl, hF, hD, hb2⟩
  have HF := Hid.mk' hF
  have HD : Hid (∀ k, D k → k < w2.heap.size) := fun k hk => (hD k hk).2
  have HB2 : Hid (Below w.heap.size w w2) := HB1.out.trans (hb2.mono HB1.out.size)
  clear hF hD hb2
  go_wp2_with fail
  refine (places_any g fold p s _ D w2 HF.out HD.out (by omega)).mono ?_
  rintro e w3 ⟨v0, rfl, hr3, hb3⟩
  have HR3 := Hid.mk' hr3
  have HF3 := Hid.mk' (HF.out.keeps (KeepsB.of_below hb3 HD.out))
  have HD3 : Hid (∀ k, D k → k < w3.heap.size) := fun k hk => by have := HD.out k hk; have := hb3.size; omega
  have HB3 : Hid (Below w.heap.size w w3) := HB2.out.trans (hb3.mono HB2.out.size)
  clear hr3 hb3
  go_wp2_with fail
  refine (find_any g fold p s _ f w3 D HF3.out (by omega) hf1 hf2).mono ?_
  rintro e w4 ⟨rfl, hb4⟩
  have HR4 := Hid.mk' (row_grow HR3.out hb4)
  have HF4 := Hid.mk' (HF3.out.keeps (KeepsB.of_below hb4 HD3.out))
  have HD4 : Hid (∀ k, D k → k < w4.heap.size) := fun k hk => by have := HD3.out k hk; have := hb4.size; omega
  have HB4 : Hid (Below w.heap.size w w4) := HB3.out.trans (hb4.mono HB3.out.size)
  clear hb4
  go_wp2_with fail
  refine (count_any g fold p s _ w4 D HF4.out HD4.out (by omega)).mono ?_
  rintro e w5 ⟨rfl, hb5⟩
  have HR5 := Hid.mk' (row_grow HR4.out hb5)
  have HB5 : Hid (Below w.heap.size w w5) := HB4.out.trans (hb5.mono HB4.out.size)
  clear hb5
  obtain ⟨FV, hFV⟩ : ∃ FV, Lit.fndL fold p s f.toNat = FV := ⟨_, rfl⟩
  obtain ⟨CV, hCV⟩ : ∃ CV, Lit.cntL fold p s = CV := ⟨_, rfl⟩
  have HFV := Hid.mk' hFV
  have HCV := Hid.mk' hCV
  rw [hFV, hCV]
  have hfe : (FV != FV) = false := by simp
  have hce : ((CV : Int) != (CV : Int)) = false := by simp
  clear hFV hCV hcl
  go_wp2_with fail
  go_loopw [16] (fun i wr => ∃ k : Nat, 1 ≤ k ∧ k ≤ 6 ∧ i = .int .i64 (k : Int) ∧ Hid (Below w.heap.size w wr) ∧ Hid (wr.ownsRow w2.heap.size 3 1 v0 (Lit.plL fold p s).length (intv (Lit.plL fold p s)))) (fun i _ => 6 - (intOf i).toNat)
  case atStart => exact ⟨1, by omega, by omega, rfl, HB5.out, HR5.out⟩
  case round =>
    obtain ⟨k, hk1, hk6, rfl, HB, HR⟩ := hrel
    by_cases hlt : k ≤ 5
    · have hlI : (k : Int) ≤ 5 := by omega
      have HTr := Hid.mk' (HT.out.below HB.out)
      have hkk : kk (k : Int) p.size fold = (k : Int) := by unfold kk; rw [if_neg (by omega)]
      have HMAk := Hid.mk' (HMA.out (k : Int))
      cases hm : mayB (k : Int) p.size with
      | false =>
        rw [hm] at HMAk
        have HCB := Hid.mk' (compile_bad p fold (k : Int) wr (by omega) HP.out (may_not (k : Int) p.size fold (by omega) hm))
        clear hm hkk
        go_wp2_with fail
        refine HCB.out.mono ?_
        rintro e w6 ⟨rfl, rfl⟩
        go_wp2_with fail
        refine (HMAk.out _).mono ?_
        rintro e w6 ⟨rfl, rfl⟩
        go_wp2_with fail
        exact ⟨⟨k + 1, by omega, by omega, by go_num, HB.out, HR.out⟩, by simp [intOf]; omega⟩
      | true =>
        rw [hm] at HMAk
        have HCO := Hid.mk' (compile_ok p fold (k : Int) wr HP.out (may_suits (k : Int) p.size fold (by omega) (by omega) HP.out hm) HTr.out)
        rw [hkk] at HCO
        clear hm hkk
        go_wp2_with fail
        refine HCO.out.mono ?_
        rintro e w6 ⟨g6, D6, rfl, hF6, hD6, hb6⟩
        have HF6 := Hid.mk' hF6
        have HD6 : Hid (∀ k, D6 k → k < w6.heap.size) := fun k hk => (hD6 k hk).2
        have HB6 : Hid (Below w.heap.size w w6) := HB.out.trans (hb6.mono HB.out.size)
        have HR6 := Hid.mk' (row_grow HR.out hb6)
        clear hF6 hD6 hb6
        go_wp2_with fail
        refine (HMAk.out _).mono ?_
        rintro e w6 ⟨rfl, rfl⟩
        have hke : ((k : Int) != (k : Int)) = false := by simp
        go_wp2_with fail
        refine (kernel_any g6 fold p _ _ D6 HF6.out).mono ?_
        rintro e w6 ⟨rfl, rfl⟩
        go_wp2_with fail
        refine (places_any g6 fold p s _ D6 w6 HF6.out HD6.out (by omega)).mono ?_
        rintro e w7 ⟨v7, rfl, hr7, hb7⟩
        have HR7 := Hid.mk' hr7
        have HR7b := Hid.mk' (row_grow HR6.out hb7)
        have HF7 := Hid.mk' (HF6.out.keeps (KeepsB.of_below hb7 HD6.out))
        have HD7 : Hid (∀ k, D6 k → k < w7.heap.size) := fun k hk => by have := HD6.out k hk; have := hb7.size; omega
        have HB7 : Hid (Below w.heap.size w w7) := HB6.out.trans (hb7.mono HB6.out.size)
        clear hr7 hb7
        go_wp2_with fail
        refine (same_any _ _ v7 v0 (Lit.plL fold p s) w7 (by have := HPL.out; omega) HR7.out HR7b.out).mono ?_
        rintro e w8 ⟨rfl, n8, rfl⟩
        have HF8 : Hid (Fnd g6 fold p _ D6 (w7.drewN n8)) := HF7.out.keeps (fun _ _ => rfl)
        have HD8 : Hid (∀ k, D6 k → k < (w7.drewN n8).heap.size) := HD7.out
        have HB8 : Hid (Below w.heap.size w (w7.drewN n8)) := HB7.out.drewN' n8
        have HR8 : Hid ((w7.drewN n8).ownsRow w2.heap.size 3 1 v0 (Lit.plL fold p s).length (intv (Lit.plL fold p s))) := HR7b.out
        generalize w7.drewN n8 = w8 at *
        go_wp2_with fail
        refine (find_any g6 fold p s _ f w8 D6 HF8.out (by omega) hf1 hf2).mono ?_
        rintro e w9 ⟨rfl, hb9⟩
        rw [HFV.out]
        have HR9 := Hid.mk' (row_grow HR8.out hb9)
        have HF9 := Hid.mk' (HF8.out.keeps (KeepsB.of_below hb9 HD8.out))
        have HD9 : Hid (∀ k, D6 k → k < w9.heap.size) := fun k hk => by have := HD8.out k hk; have := hb9.size; omega
        have HB9 : Hid (Below w.heap.size w w9) := HB8.out.trans (hb9.mono HB8.out.size)
        clear hb9
        go_wp2_with fail
        refine (count_any g6 fold p s _ w9 D6 HF9.out HD9.out (by omega)).mono ?_
        rintro e w10 ⟨rfl, hb10⟩
        rw [HCV.out]
        have HR10 := Hid.mk' (row_grow HR9.out hb10)
        have HB10 : Hid (Below w.heap.size w w10) := HB9.out.trans (hb10.mono HB9.out.size)
        clear hb10
        go_wp2_with fail
        go_roundw
        case rel => exact ⟨k + 1, by omega, by omega, by go_num, HB10.out, HR10.out⟩
        case measure => simp [intOf]; omega
    · have hlI : ¬ (k : Int) ≤ 5 := by omega
      go_wp2_with fail
      go_ret
      exact ⟨rfl, HB.out⟩
end Go.Proofs.YtecoiifmeajicaaDoor
