/-
  LiteralLaid answers true. Conditions: each text is no longer than any text that is read can be; the table of package math/bits lies as its text lays it.
-/
import Derived.Test.YtecoiifmeajicaaDoorKnw
import Derived.Test.YtecoiifmeajicaaDoorHlp6
namespace Go.Proofs.YtecoiifmeajicaaDoor
open Go.RowKit
set_option linter.unusedVariables false
theorem st_laid (fold : Bool) (p b c : ByteArray) : Lit.stB fold p (b ++ p ++ c) b.size = true := by
  rw [Lit.stB_iff]
  refine ⟨by simp, fun i hi => ?_⟩
  rw [Swar.bt_app, if_pos (by simp; omega), Swar.bt_app, if_neg (by omega), Nat.add_sub_cancel_left]
theorem cnt_one (fold : Bool) (p s : ByteArray) (h : 0 ≤ Lit.fndL fold p s 0) : 1 ≤ Lit.cntL fold p s := by
  unfold Lit.cntL
  rw [show Lit.cntF fold p s (s.size + 1) 0 = if 0 ≤ Lit.fndL fold p s 0 then 1 + Lit.cntF fold p s s.size ((Lit.fndL fold p s 0).toNat + p.size) else 0 from rfl, if_pos h]
  omega
/-- the kernel that is taken -/
def kOr (d k : Int) (n : Nat) : Int := if mayB k n = true then k else d
theorem kOr_suits (d k : Int) (n : Nat) (fold : Bool) (hd : d = 3 ∨ d = 5) (h0 : 0 ≤ k) (h5 : k ≤ 5) (hp : isP n = true) : suitsB (kk (kOr d k n) n fold) n = true := by
  unfold kOr
  by_cases hm : mayB k n = true
  · rw [if_pos hm]; exact may_suits k n fold h0 h5 hp hm
  · rw [if_neg hm]
    rcases hd with rfl | rfl
    · exact may_suits 3 n fold (by omega) (by omega) hp rfl
    · exact may_suits 5 n fold (by omega) (by omega) hp rfl
set_option maxRecDepth 100000 in
set_option maxHeartbeats 4000000 in
theorem literalLaid_any (raw : ByteArray) (fold : Bool) (k : Int) (before behind : ByteArray) (w : World) (hraw : raw.size ≤ 140737488351232) (hk1 : -9223372036854775808 ≤ k) (hk2 : k ≤ 9223372036854775807) (hbe : before.size ≤ 140737488351232) (hbh : behind.size ≤ 140737488351232) (ht : Tab w) :
    Calls Tryd.prog 7 #[.string raw, .bool fold, .int .i64 k, .string before, .string behind] w fun e w' => e = .returned (.bool true) ∧ Below w.heap.size w w' := by
  have HKN := Hid.mk' (known_any w ht)
  have HPA := Hid.mk' (fun W => pattern_any raw W (by omega))
  have HPI := Hid.mk' (fun W => pick6_any k W hk1 hk2)
  have hP := patP_ok raw
  have hkb := pk6_bd k
  generalize patP raw = p at *
  generalize pk6 k = q at *
  have hn : 1 ≤ p.size ∧ p.size ≤ 256 := of_decide_eq_true hP
  have HMA := Hid.mk' (fun W => may_any q p.size W (by omega))
  have HC := Hid.mk' (fun W (hW : Tab W) => compile_ok p fold (kOr 3 q p.size) W hP (kOr_suits 3 q p.size fold (.inl rfl) hkb.1 hkb.2 hP) hW)
  have HT := Hid.mk' ht
  have hsz : (before ++ p ++ behind).size ≤ 1125899906842624 := by simp; omega
  have hst := st_laid fold p before behind
  obtain ⟨at_, hat, hatl, hats⟩ : ∃ at_ : Nat, Lit.fndL fold p (before ++ p ++ behind) 0 = (at_ : Int) ∧ at_ ≤ before.size ∧ Lit.stB fold p (before ++ p ++ behind) at_ = true := by
    rcases Lit.fndL_spec fold p (before ++ p ++ behind) 0 with ⟨h1, h2⟩ | ⟨j, h1, h2, h3, h4⟩
    · rw [h2 before.size (by omega)] at hst; cases hst
    · refine ⟨j, h2, ?_, h3⟩
      by_cases hle : j ≤ before.size
      · exact hle
      · rw [h4 before.size (by omega) (by omega)] at hst; cases hst
  have hf2 := Lit.fndL_hit fold p (before ++ p ++ behind) before.size hst
  have hc1 := cnt_one fold p (before ++ p ++ behind) (by rw [hat]; omega)
  have hroom : at_ + p.size ≤ (before ++ p ++ behind).size := ((Lit.stB_iff _ _ _ _).1 hats).1
  have HAT := Hid.mk' hat
  have HF2 := Hid.mk' hf2
  have HS := Hid.mk' (fun W => stands6_yes p (before ++ p ++ behind) fold at_ W hn.2 hsz hroom)
  rw [hats] at HS
  have hatI : (at_ : Int) ≤ (before.size : Int) := by omega
  obtain ⟨c, hcc⟩ : ∃ c, Lit.cntL fold p (before ++ p ++ behind) = c := ⟨_, rfl⟩
  rw [hcc] at hc1
  have HCC := Hid.mk' hcc
  have hcI : (1 : Int) ≤ (c : Int) := by omega
  have np := nil_fin
  clear ht hat hf2 hst hats hcc hroom hP
  have HKO : Hid (kOr 3 q p.size = if mayB q p.size = true then q else 3) := rfl
  cases hm : mayB q p.size with
  | true =>
    rw [hm] at HKO HMA
    rw [if_pos rfl] at HKO
    rw [HKO.out] at HC
    clear hm
    go_enter Tryd.func7, Tryd.ntmps7
    go_wp2_with fail
    refine HKN.out.mono ?_
    rintro e w1 ⟨rfl, hb1⟩
    have HB1 := Hid.mk' hb1
    clear hb1
    go_wp2_with fail
    refine (HPA.out _).mono ?_
    rintro e w' ⟨rfl, rfl⟩
    go_wp2_with fail
    refine (HPI.out _).mono ?_
    rintro e w' ⟨rfl, rfl⟩
    go_wp2_with fail
    refine (HMA.out _).mono ?_
    rintro e w1 ⟨rfl, rfl⟩
    go_wp2_with fail
    refine (HC.out _ (HT.out.below HB1.out)).mono ?_
    rintro e w2 ⟨g, D, rfl, hF, hD, hb2⟩
    have HF := Hid.mk' hF
    have HD := Hid.mk' hD
    have HB2 : Hid (Below w.heap.size w w2) := HB1.out.trans (hb2.mono HB1.out.size)
    clear hF hD hb2
    go_wp2_with fail
    refine (find_any g fold p (before ++ p ++ behind) _ 0 w2 D HF.out hsz (by omega) (by omega)).mono ?_
    rintro e w3 ⟨rfl, hb3⟩
    rw [show (0 : Int).toNat = 0 from rfl, HAT.out]
    have HB3 : Hid (Below w.heap.size w w3) := HB2.out.trans (hb3.mono HB2.out.size)
    have HF3 := Hid.mk' (HF.out.keeps (KeepsB.of_below hb3 (fun k hk => (HD.out k hk).2)))
    have HD3 : Hid (∀ k, D k → k < w3.heap.size) := fun k hk => by have := (HD.out k hk).2; have := hb3.size; omega
    clear hb3
    go_wp2_with fail
    refine (find_any g fold p (before ++ p ++ behind) _ (before.size : Int) w3 D HF3.out hsz (by omega) (by omega)).mono ?_
    rintro e w4 ⟨rfl, hb4⟩
    rw [Int.toNat_natCast, HF2.out]
    have HB4 : Hid (Below w.heap.size w w4) := HB3.out.trans (hb4.mono HB3.out.size)
    have HF4 := Hid.mk' (HF3.out.keeps (KeepsB.of_below hb4 HD3.out))
    have HD4 : Hid (∀ k, D k → k < w4.heap.size) := fun k hk => by have := HD3.out k hk; have := hb4.size; omega
    clear hb4
    go_wp2_with fail
    refine (HS.out _).mono ?_
    rintro e w5 ⟨rfl, n5, rfl⟩
    have HF5 : Hid (Fnd g fold p _ D (w4.drewN n5)) := HF4.out.keeps (fun _ _ => rfl)
    have HD5 : Hid (∀ k, D k → k < (w4.drewN n5).heap.size) := HD4.out
    have HB5 : Hid (Below w.heap.size w (w4.drewN n5)) := HB4.out.drewN' n5
    generalize w4.drewN n5 = w5 at *
    go_wp2_with fail
    refine (count_any g fold p (before ++ p ++ behind) _ w5 D HF5.out HD5.out hsz).mono ?_
    rintro e w6 ⟨rfl, hb6⟩
    rw [HCC.out]
    have HB6 : Hid (Below w.heap.size w w6) := HB5.out.trans (hb6.mono HB5.out.size)
    clear hb6
    go_wp2_with fail
    go_ret
    exact ⟨rfl, HB6.out⟩
  | false =>
    rw [hm] at HKO HMA
    rw [if_neg (by decide)] at HKO
    rw [HKO.out] at HC
    clear hm
    go_enter Tryd.func7, Tryd.ntmps7
    go_wp2_with fail
    refine HKN.out.mono ?_
    rintro e w1 ⟨rfl, hb1⟩
    have HB1 := Hid.mk' hb1
    clear hb1
    go_wp2_with fail
    refine (HPA.out _).mono ?_
    rintro e w' ⟨rfl, rfl⟩
    go_wp2_with fail
    refine (HPI.out _).mono ?_
    rintro e w' ⟨rfl, rfl⟩
    go_wp2_with fail
    refine (HMA.out _).mono ?_
    rintro e w1 ⟨rfl, rfl⟩
    go_wp2_with fail
    refine (HC.out _ (HT.out.below HB1.out)).mono ?_
    rintro e w2 ⟨g, D, rfl, hF, hD, hb2⟩
    have HF := Hid.mk' hF
    have HD := Hid.mk' hD
    have HB2 : Hid (Below w.heap.size w w2) := HB1.out.trans (hb2.mono HB1.out.size)
    clear hF hD hb2
    go_wp2_with fail
    refine (find_any g fold p (before ++ p ++ behind) _ 0 w2 D HF.out hsz (by omega) (by omega)).mono ?_
    rintro e w3 ⟨rfl, hb3⟩
    rw [show (0 : Int).toNat = 0 from rfl, HAT.out]
    have HB3 : Hid (Below w.heap.size w w3) := HB2.out.trans (hb3.mono HB2.out.size)
    have HF3 := Hid.mk' (HF.out.keeps (KeepsB.of_below hb3 (fun k hk => (HD.out k hk).2)))
    have HD3 : Hid (∀ k, D k → k < w3.heap.size) := fun k hk => by have := (HD.out k hk).2; have := hb3.size; omega
    clear hb3
    go_wp2_with fail
    refine (find_any g fold p (before ++ p ++ behind) _ (before.size : Int) w3 D HF3.out hsz (by omega) (by omega)).mono ?_
    rintro e w4 ⟨rfl, hb4⟩
    rw [Int.toNat_natCast, HF2.out]
    have HB4 : Hid (Below w.heap.size w w4) := HB3.out.trans (hb4.mono HB3.out.size)
    have HF4 := Hid.mk' (HF3.out.keeps (KeepsB.of_below hb4 HD3.out))
    have HD4 : Hid (∀ k, D k → k < w4.heap.size) := fun k hk => by have := HD3.out k hk; have := hb4.size; omega
    clear hb4
    go_wp2_with fail
    refine (HS.out _).mono ?_
    rintro e w5 ⟨rfl, n5, rfl⟩
    have HF5 : Hid (Fnd g fold p _ D (w4.drewN n5)) := HF4.out.keeps (fun _ _ => rfl)
    have HD5 : Hid (∀ k, D k → k < (w4.drewN n5).heap.size) := HD4.out
    have HB5 : Hid (Below w.heap.size w (w4.drewN n5)) := HB4.out.drewN' n5
    generalize w4.drewN n5 = w5 at *
    go_wp2_with fail
    refine (count_any g fold p (before ++ p ++ behind) _ w5 D HF5.out HD5.out hsz).mono ?_
    rintro e w6 ⟨rfl, hb6⟩
    rw [HCC.out]
    have HB6 : Hid (Below w.heap.size w w6) := HB5.out.trans (hb6.mono HB5.out.size)
    clear hb6
    go_wp2_with fail
    go_ret
    exact ⟨rfl, HB6.out⟩
end Go.Proofs.YtecoiifmeajicaaDoor
