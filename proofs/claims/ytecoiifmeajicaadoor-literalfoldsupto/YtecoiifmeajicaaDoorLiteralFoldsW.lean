/-
  LiteralFolds answers true. Conditions: each text has at most 1048576 bytes; the table of package math/bits lies as its text lays it.
-/
import Derived.Test.YtecoiifmeajicaaDoorPlc6
import Derived.Test.YtecoiifmeajicaaDoorFld6
namespace Go.Proofs.YtecoiifmeajicaaDoor
open Go.RowKit
set_option linter.unusedVariables false
theorem row_keep {w w' : World} {b : Nat} {v : Value} {n : Nat} {xs : List Value} (h : w.ownsRow b 3 1 v n xs) (hb : Below w.heap.size w w') : w'.ownsRow b 3 1 v n xs := by
  refine ⟨h.1, ?_⟩
  rcases h.2 with h2 | ⟨g, cap, cur, h1, h2, h3, h4⟩
  · exact .inl h2
  · exact .inr ⟨g, cap, cur, h1, h2, (hb.block g (Array.getElem?_eq_some_iff.1 h3).1).trans h3, h4⟩
theorem st_fold (p s : ByteArray) (k : Nat) : Lit.stB false (Swar.foldL p) (Swar.foldL s) k = Lit.stB true p s k := by
  rw [Bool.eq_iff_iff, Lit.stB_iff, Lit.stB_iff]
  unfold Lit.St
  rw [Swar.fold_size, Swar.fold_size]
  constructor
  · rintro ⟨h1, h2⟩
    refine ⟨h1, fun i hi => ?_⟩
    have := h2 i hi
    rw [Swar.bt_fold, Swar.bt_fold] at this
    exact this
  · rintro ⟨h1, h2⟩
    refine ⟨h1, fun i hi => ?_⟩
    rw [Swar.bt_fold, Swar.bt_fold]
    exact h2 i hi
theorem fndL_fold (p s : ByteArray) (a : Nat) : Lit.fndL false (Swar.foldL p) (Swar.foldL s) a = Lit.fndL true p s a := by
  unfold Lit.fndL
  rw [Swar.fold_size]
  exact Swar.fnd_congr _ _ _ _ (fun i _ => st_fold p s (a + i))
theorem plcF_fold (p s : ByteArray) : ∀ f a, Lit.plcF false (Swar.foldL p) (Swar.foldL s) f a = Lit.plcF true p s f a
  | 0, a => rfl
  | f + 1, a => by
    have h1 : Lit.plcF false (Swar.foldL p) (Swar.foldL s) (f + 1) a = if 0 ≤ Lit.fndL false (Swar.foldL p) (Swar.foldL s) a then (Lit.fndL false (Swar.foldL p) (Swar.foldL s) a).toNat :: Lit.plcF false (Swar.foldL p) (Swar.foldL s) f ((Lit.fndL false (Swar.foldL p) (Swar.foldL s) a).toNat + 1) else [] := rfl
    rw [h1, fndL_fold, plcF_fold p s f]
    rfl
theorem plL_fold (p s : ByteArray) : Lit.plL false (Swar.foldL p) (Swar.foldL s) = Lit.plL true p s := by
  unfold Lit.plL
  rw [Swar.fold_size, plcF_fold]
theorem cntF_fold (p s : ByteArray) : ∀ f a, Lit.cntF false (Swar.foldL p) (Swar.foldL s) f a = Lit.cntF true p s f a
  | 0, a => rfl
  | f + 1, a => by
    have h1 : Lit.cntF false (Swar.foldL p) (Swar.foldL s) (f + 1) a = if 0 ≤ Lit.fndL false (Swar.foldL p) (Swar.foldL s) a then 1 + Lit.cntF false (Swar.foldL p) (Swar.foldL s) f ((Lit.fndL false (Swar.foldL p) (Swar.foldL s) a).toNat + (Swar.foldL p).size) else 0 := rfl
    rw [h1, fndL_fold, Swar.fold_size, cntF_fold p s f]
    rfl
theorem cntL_fold (p s : ByteArray) : Lit.cntL false (Swar.foldL p) (Swar.foldL s) = Lit.cntL true p s := by
  unfold Lit.cntL
  rw [Swar.fold_size, cntF_fold]
set_option maxRecDepth 100000 in
set_option maxHeartbeats 4000000 in
theorem literalFolds_any (raw s : ByteArray) (f : Int) (w : World) (hraw : raw.size ≤ 1048576) (hs : s.size ≤ 1048576) (hf1 : -9223372036854775808 ≤ f) (hf2 : f ≤ 9223372036854775807) (ht : Tab w) :
    Calls Tryd.prog 8 #[.string raw, .string s, .int .i64 f] w fun e w' => e = .returned (.bool true) ∧ Below w.heap.size w w' := by
  have HKN := Hid.mk' (known_any w ht)
  have HPA := Hid.mk' (fun W => pattern_any raw W (by omega))
  have hP := patP_ok raw
  generalize patP raw = p at *
  have hn : 1 ≤ p.size ∧ p.size ≤ 256 := of_decide_eq_true hP
  have hP2 : isP (Swar.foldL p).size = true := by rw [Swar.fold_size]; exact hP
  have HC1 := Hid.mk' (fun W (hW : Tab W) => compile_ok p true 0 W hP (suits_chs p.size true hP) hW)
  have HC2 := Hid.mk' (fun W (hW : Tab W) => compile_ok (Swar.foldL p) false 0 W hP2 (suits_chs (Swar.foldL p).size false hP2) hW)
  have HFP := Hid.mk' (fun W => folded6_any p W (by omega))
  have HFS := Hid.mk' (fun W => folded6_any s W (by omega))
  have hts : (Swar.foldL s).size ≤ 1048576 := by rw [Swar.fold_size]; exact hs
  have hpl : (Lit.plL true p s).length ≤ s.size + 1 := Lit.plcF_len true p s (s.size + 1) 0
  have HPL := Hid.mk' hpl
  have HE1 := Hid.mk' (plL_fold p s)
  have HE2 := Hid.mk' (fndL_fold p s f.toNat)
  have HE3 := Hid.mk' (cntL_fold p s)
  have HT := Hid.mk' ht
  have np := nil_fin
  generalize Swar.foldL s = t at *
  generalize Swar.foldL p = r at *
  clear ht hP hP2 hpl
  go_enter Tryd.func8, Tryd.ntmps8
  go_wp2_with fail
  refine HKN.out.mono ?_
  rintro e w1 ⟨rfl, hb1⟩
  have HB1 := Hid.mk' hb1
  clear hb1
  go_wp2_with fail
  refine (HPA.out _).mono ?_
  rintro e w1 ⟨rfl, rfl⟩
  go_wp2_with fail
  refine (HC1.out _ (HT.out.below HB1.out)).mono ?_
  rintro e w2 ⟨g, D, rfl, hF, hD, hb2⟩
  have HF := Hid.mk' hF
  have HD : Hid (∀ k, D k → k < w2.heap.size) := fun k hk => (hD k hk).2
  have HB2 : Hid (Below w.heap.size w w2) := HB1.out.trans (hb2.mono HB1.out.size)
  clear hF hD hb2
  go_wp2_with fail
  refine (HFP.out _).mono ?_
  rintro e w3 ⟨rfl, hb3⟩
  have HF3 := Hid.mk' (HF.out.keeps (KeepsB.of_below hb3 HD.out))
  have HD3 : Hid (∀ k, D k → k < w3.heap.size) := fun k hk => by have := HD.out k hk; have := hb3.size; omega
  have HB3 : Hid (Below w.heap.size w w3) := HB2.out.trans (hb3.mono HB2.out.size)
  clear hb3
  go_wp2_with fail
  refine (HC2.out _ (HT.out.below HB3.out)).mono ?_
  rintro e w4 ⟨g2, D2, rfl, hG, hE, hb4⟩
  have HG4 := Hid.mk' hG
  have HE4 : Hid (∀ k, D2 k → k < w4.heap.size) := fun k hk => (hE k hk).2
  have HF4 := Hid.mk' (HF3.out.keeps (KeepsB.of_below hb4 HD3.out))
  have HD4 : Hid (∀ k, D k → k < w4.heap.size) := fun k hk => by have := HD3.out k hk; have := hb4.size; omega
  have HB4 : Hid (Below w.heap.size w w4) := HB3.out.trans (hb4.mono HB3.out.size)
  clear hG hE hb4
  go_wp2_with fail
  refine (HFS.out _).mono ?_
  rintro e w5 ⟨rfl, hb5⟩
  have HF5 := Hid.mk' (HF4.out.keeps (KeepsB.of_below hb5 HD4.out))
  have HD5 : Hid (∀ k, D k → k < w5.heap.size) := fun k hk => by have := HD4.out k hk; have := hb5.size; omega
  have HG5 := Hid.mk' (HG4.out.keeps (KeepsB.of_below hb5 HE4.out))
  have HE5 : Hid (∀ k, D2 k → k < w5.heap.size) := fun k hk => by have := HE4.out k hk; have := hb5.size; omega
  have HB5 : Hid (Below w.heap.size w w5) := HB4.out.trans (hb5.mono HB4.out.size)
  clear hb5
  go_wp2_with fail
  refine (places_any g true p s _ D w5 HF5.out HD5.out (by omega)).mono ?_
  rintro e w6 ⟨v6, rfl, hr6, hb6⟩
  have HR6 := Hid.mk' hr6
  have HF6 := Hid.mk' (HF5.out.keeps (KeepsB.of_below hb6 HD5.out))
  have HD6 : Hid (∀ k, D k → k < w6.heap.size) := fun k hk => by have := HD5.out k hk; have := hb6.size; omega
  have HG6 := Hid.mk' (HG5.out.keeps (KeepsB.of_below hb6 HE5.out))
  have HE6 : Hid (∀ k, D2 k → k < w6.heap.size) := fun k hk => by have := HE5.out k hk; have := hb6.size; omega
  have HB6 : Hid (Below w.heap.size w w6) := HB5.out.trans (hb6.mono HB5.out.size)
  clear hr6 hb6
  go_wp2_with fail
  refine (places_any g2 false r t _ D2 w6 HG6.out HE6.out (by omega)).mono ?_
  rintro e w7 ⟨v7, rfl, hr7, hb7⟩
  rw [HE1.out] at hr7
  have HR7 := Hid.mk' hr7
  have HR7b := Hid.mk' (row_keep HR6.out hb7)
  have HF7 := Hid.mk' (HF6.out.keeps (KeepsB.of_below hb7 HD6.out))
  have HD7 : Hid (∀ k, D k → k < w7.heap.size) := fun k hk => by have := HD6.out k hk; have := hb7.size; omega
  have HG7 := Hid.mk' (HG6.out.keeps (KeepsB.of_below hb7 HE6.out))
  have HE7 : Hid (∀ k, D2 k → k < w7.heap.size) := fun k hk => by have := HE6.out k hk; have := hb7.size; omega
  have HB7 : Hid (Below w.heap.size w w7) := HB6.out.trans (hb7.mono HB6.out.size)
  clear hr7 hb7
  go_wp2_with fail
  refine (same_any _ _ v6 v7 (Lit.plL true p s) w7 (by have := HPL.out; omega) HR7b.out HR7.out).mono ?_
  rintro e w8 ⟨rfl, n8, rfl⟩
  have HF8 : Hid (Fnd g true p _ D (w7.drewN n8)) := HF7.out.keeps (fun _ _ => rfl)
  have HD8 : Hid (∀ k, D k → k < (w7.drewN n8).heap.size) := HD7.out
  have HG8 : Hid (Fnd g2 false r _ D2 (w7.drewN n8)) := HG7.out.keeps (fun _ _ => rfl)
  have HE8 : Hid (∀ k, D2 k → k < (w7.drewN n8).heap.size) := HE7.out
  have HB8 : Hid (Below w.heap.size w (w7.drewN n8)) := HB7.out.drewN' n8
  generalize w7.drewN n8 = w8 at *
  go_wp2_with fail
  refine (find_any g true p s _ f w8 D HF8.out (by omega) hf1 hf2).mono ?_
  rintro e w9 ⟨rfl, hb9⟩
  have HF9 := Hid.mk' (HF8.out.keeps (KeepsB.of_below hb9 HD8.out))
  have HD9 : Hid (∀ k, D k → k < w9.heap.size) := fun k hk => by have := HD8.out k hk; have := hb9.size; omega
  have HG9 := Hid.mk' (HG8.out.keeps (KeepsB.of_below hb9 HE8.out))
  have HE9 : Hid (∀ k, D2 k → k < w9.heap.size) := fun k hk => by have := HE8.out k hk; have := hb9.size; omega
  have HB9 : Hid (Below w.heap.size w w9) := HB8.out.trans (hb9.mono HB8.out.size)
  clear hb9
  go_wp2_with fail
  refine (find_any g2 false r t _ f w9 D2 HG9.out (by omega) hf1 hf2).mono ?_
  rintro e w10 ⟨rfl, hb10⟩
  rw [HE2.out]
  have HFA := Hid.mk' (HF9.out.keeps (KeepsB.of_below hb10 HD9.out))
  have HDA : Hid (∀ k, D k → k < w10.heap.size) := fun k hk => by have := HD9.out k hk; have := hb10.size; omega
  have HGA := Hid.mk' (HG9.out.keeps (KeepsB.of_below hb10 HE9.out))
  have HEA : Hid (∀ k, D2 k → k < w10.heap.size) := fun k hk => by have := HE9.out k hk; have := hb10.size; omega
  have HBA : Hid (Below w.heap.size w w10) := HB9.out.trans (hb10.mono HB9.out.size)
  clear hb10
  obtain ⟨FV, hFV⟩ : ∃ FV, Lit.fndL true p s f.toNat = FV := ⟨_, rfl⟩
  rw [hFV]
  have hfe : (FV == FV) = true := by simp
  clear hFV
  go_wp2_with fail
  refine (count_any g true p s _ w10 D HFA.out HDA.out (by omega)).mono ?_
  rintro e w11 ⟨rfl, hb11⟩
  have HGB := Hid.mk' (HGA.out.keeps (KeepsB.of_below hb11 HEA.out))
  have HEB : Hid (∀ k, D2 k → k < w11.heap.size) := fun k hk => by have := HEA.out k hk; have := hb11.size; omega
  have HBB : Hid (Below w.heap.size w w11) := HBA.out.trans (hb11.mono HBA.out.size)
  clear hb11
  go_wp2_with fail
  refine (count_any g2 false r t _ w11 D2 HGB.out HEB.out (by omega)).mono ?_
  rintro e w12 ⟨rfl, hb12⟩
  rw [HE3.out]
  have HBC : Hid (Below w.heap.size w w12) := HBB.out.trans (hb12.mono HBB.out.size)
  clear hb12
  obtain ⟨CV, hCV⟩ : ∃ CV, Lit.cntL true p s = CV := ⟨_, rfl⟩
  rw [hCV]
  have hce : ((CV : Int) == (CV : Int)) = true := by simp
  clear hCV
  go_wp2_with fail
  go_ret
  exact ⟨rfl, HBC.out⟩
end Go.Proofs.YtecoiifmeajicaaDoor
