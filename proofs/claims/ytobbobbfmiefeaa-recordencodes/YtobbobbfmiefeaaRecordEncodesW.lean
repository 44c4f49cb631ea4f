/-
  The walk of the law RecordEncodes: whatever lines, number and line it is given it returns true, and of what was there nothing turns. Conditions: lines and texts no longer than they can be, numbers of their types.
-/
import Derived.Test.YtobbobbfmiefeaaEnC
import Derived.Test.YtobbobbfmiefeaaRcP
import Derived.Test.YtobbobbfmiefeaaRcQ
import Derived.Deep.RegionWith
import Derived.Deep.CutBlock
import Derived.Deep.DeepCutAuto
namespace Go.Proofs.Ytobbobbfmiefeaa
open Go.RowKit
set_option linter.unusedVariables false
set_option linter.unusedSimpArgs false
theorem mkL_set (l : List Rec.Ln) (z : Nat) (y : Rec.Ln) (h : z < l.length) : (mkL l).set z y = mkL (l.set z y) := by
  unfold mkL
  rw [List.set_append_left _ _ h]
theorem mk_ls {w : World} {g B : Nat} {L : List Rec.Ln} (M : List Rec.Ln) (h : w.ownsRow B 24 2 (.slice (some ⟨g, 0, none⟩) (L.length + 5) (L.length + 5)) (L.length + 5) (lnV M)) (hM : ∀ i, i < L.length → M.getD i (0, ⟨#[]⟩) = L.getD i (0, ⟨#[]⟩)) : LsAt (.slice (some ⟨g, 0, none⟩) L.length (L.length + 5)) L w :=
  ⟨_, _, rfl, fun h0 => ⟨g, 0, rfl, (h.lt g rfl).2, fun i hi => by
    have := own_at h i (by omega)
    rw [hM i hi] at this
    rw [Nat.zero_add]
    exact this⟩⟩
theorem own_kept2 {w w' : World} {B e n s : Nat} {v : Value} {xs : List Value} (h : w.ownsRow B e s v n xs) (hb : Below w.heap.size w w') : w'.ownsRow B e s v n xs :=
  ⟨h.1, h.2.imp id fun ⟨g, cap, cur, e1, e2, e3, r⟩ => ⟨g, cap, cur, e1, e2, (hb.block g (Array.getElem?_eq_some_iff.1 e3).1).trans e3, r⟩⟩
def pkN (c : Int) (k : Nat) : Nat := (if c < 0 then (-(c + 1)).toNat else c.toNat) % k
theorem pkN_lt (c : Int) (k : Nat) (h : 0 < k) : pkN c k < k := Nat.mod_lt _ h
theorem pick_det (c : Int) (k : Nat) (w : World) (h0 : -9223372036854775808 ≤ c) (h1 : c ≤ 9223372036854775807) (hk : 1 ≤ k) (hkb : k ≤ 9223372036854775807) :
    Calls Try.prog 14 #[.int .i64 c, .int .i64 (k : Int)] w fun e w' => e = .returned (.int .i64 ((pkN c k : Nat) : Int)) ∧ w' = w := by
  have hk0 : ¬ (k : Int) = 0 := by omega
  have hk1 : 1 ≤ (k : Int) := by omega
  by_cases hc : c < 0
  · obtain ⟨d, hd⟩ : ∃ d : Nat, -(c + 1) = (d : Int) := ⟨(-(c + 1)).toNat, by omega⟩
    have hdb : (d : Int) ≤ 9223372036854775807 := by omega
    have hz : pkN c k = d % k := by unfold pkN; rw [if_pos hc, hd]; rfl
    have hm : (d : Int) % (k : Int) = ((pkN c k : Nat) : Int) := by rw [hz]; simp
    clear hz
    go_enter Try.func14, Try.ntmps14
    go_wp2
    go_ret
    exact ⟨ret_int (by first | exact hm | rfl), rfl⟩
  · obtain ⟨d, rfl⟩ := Int.eq_ofNat_of_zero_le (show 0 ≤ c by omega)
    have hz : pkN (d : Int) k = d % k := by unfold pkN; rw [if_neg hc]; rfl
    have hm : (d : Int) % (k : Int) = ((pkN (d : Int) k : Nat) : Int) := by rw [hz]; simp
    clear hz
    go_enter Try.func14, Try.ntmps14
    go_wp2
    go_ret
    exact ⟨ret_int (by first | exact hm | rfl), rfl⟩
set_option maxHeartbeats 2000000 in
set_option maxRecDepth 100000 in
theorem recordEncodes_any (v : Value) (l : List Rec.Ln) (at_ x : Int) (t : ByteArray) (w : World) (h : LsAt v l w) (hl : l.length ≤ 5864062014634) (ht : ∀ x ∈ l, x.2.size ≤ 140737488351232) (a0 : -9223372036854775808 ≤ at_) (a1 : at_ ≤ 9223372036854775807) (x0 : -9223372036854775808 ≤ x) (x1 : x ≤ 9223372036854775807) (ht2 : t.size ≤ 140737488351232) :
    Calls Try.prog 3 #[v, .int .i64 at_, .agg #[.int .i64 x, .string t]] w fun e w' => e = .returned (.bool true) ∧ Below w.heap.size w w' := by
  have HLS := Hid.mk' h
  have HT := Hid.mk' ht
  have HLN := Hid.mk' hl
  have HX0 := Hid.mk' (And.intro x0 x1)
  have HT2 := Hid.mk' ht2
  clear h ht hl x0 x1 ht2
  obtain ⟨w0, hw0⟩ : ∃ w0, w0 = w.alloc (.cells #[.int .i64 x, .string t] 24) := ⟨_, rfl⟩
  have hb0 : Below w.heap.size w w0 := by rw [hw0]; exact (Below.refl _ _).alloc (Nat.le_refl _) _
  have hk0 : w0.heap[w.heap.size]? = some (.cells #[.int .i64 x, .string t] 24 (0, 0)) := by rw [hw0]; exact heap_alloc_new w _
  have HB0 := Hid.mk' hb0
  have HK0 := Hid.mk' hk0
  have hsz0 : w.heap.size < w0.heap.size := (Array.getElem?_eq_some_iff.1 hk0).1
  have HS0 := Hid.mk' hsz0
  have HW0 := Hid.mk' hw0
  obtain ⟨a, c, hvs⟩ : ∃ a c, v = .slice a l.length c := by obtain ⟨a, c, e, _⟩ := HLS.out; exact ⟨a, c, e⟩
  subst hvs
  obtain ⟨n, hn⟩ : ∃ n, n = l.length := ⟨_, rfl⟩
  rw [← hn] at HLS HLN ⊢
  have HN := Hid.mk' hn
  clear hb0 hk0 hw0 hsz0 hn
  go_enter Try.func3, Try.ntmps3
  go_wp2_with fail
  rw [← HW0.out]
  refine (examples_any w0).mono ?_
  rintro e w1 ⟨rfl, hb1⟩
  have HB1 := Hid.mk' hb1
  clear hb1
  go_wp2_with fail
  refine (lent_any _ l w1 (HLS.out.below (below_up HB0.out HB1.out (Nat.le_refl _))) (by rw [← HN.out]; exact HLN.out)).mono ?_
  rintro e w2 ⟨rfl, ho2, hb2⟩
  obtain ⟨g, hg⟩ : ∃ g, g = w1.heap.size := ⟨_, rfl⟩
  rw [← hg] at ho2 ⊢
  have hgn : g ≠ w.heap.size := by have := HB1.out.size; have := HS0.out; omega
  have hb02 : Below w0.heap.size w0 w2 := below_up HB1.out hb2 (Nat.le_refl _)
  have HB2 := Hid.mk' hb02
  have HO2 := Hid.mk' ho2
  have HGN := Hid.mk' hgn
  have HG0 : Hid (w0.heap.size ≤ g) := by unfold Hid; rw [hg]; exact HB1.out.size
  have HBW : Hid (∀ W, Below w2.heap.size w2 W → LsAt (.slice a n c) l W) := fun W hW => HLS.out.below (below_up HB0.out (below_up hb02 hW (Nat.le_refl _)) (Nat.le_refl _))
  have HLT : Hid (∀ W, Below w2.heap.size w2 W → LsAt (.slice (some ⟨g, 0, none⟩) l.length (l.length + 5)) l W) := fun W hW => (mk_ls (mkL l) ho2 (fun i hi => mkL_lo l i hi)).below hW
  have HKB : Hid (∀ W, Below w2.heap.size w2 W → W.heap[w.heap.size]? = some (.cells #[.int .i64 x, .string t] 24 (0, 0))) := fun W hW => ((below_up hb02 hW (Nat.le_refl _)).block _ HS0.out).trans HK0.out
  obtain ⟨m, hm⟩ : ∃ m, m = n + 5 := ⟨_, rfl⟩
  rw [← HN.out, ← hm] at HLT ⊢
  have HM := Hid.mk' hm
  obtain ⟨err, ae, A, hE⟩ : ∃ err ae A, Rec.encG [] l = (err, ae, A) := ⟨_, _, _, rfl⟩
  obtain ⟨R, hR⟩ : ∃ R, R = if err = 0 then nums (Rec.payF A) else ⟨#[]⟩ := ⟨_, rfl⟩
  have HE := Hid.mk' hE
  have HR := Hid.mk' hR
  clear hE hR hm hb2 ho2 hg hgn hb02
  go_wp2_with fail
  go_loopw [9, 10, 11, 12, 13, 14, 15] (fun s9 _ _ _ _ _ _ wr => ∃ i : Nat, s9 = .int .i64 (i : Int) ∧ i ≤ 2 ∧ Hid (Below w2.heap.size w2 wr)) (fun s9 _ _ _ _ _ _ _ => 2 - (intOf s9).toNat)
  case atStart => exact ⟨0, rfl, by omega, Below.refl _ _⟩
  case round =>
    obtain ⟨i, rfl, hi2, HB⟩ := hrel
    by_cases hlt : i < 2
    · have i1 : (i : Int) < 2 := by omega
      go_wp2_with fail
      refine (encode_any _ l _ (HLT.out _ HB.out) (by rw [← HN.out]; have := HLN.out; omega) (fun y hy => by have := HT.out y hy; omega) err ae A HE.out R HR.out).mono ?_
      rintro e w3 ⟨rfl, hb3⟩
      have HB3 : Hid (Below w2.heap.size w2 w3) := below_up HB.out hb3 (Nat.le_refl _)
      clear hb3 HB
      go_wp2_with fail
      refine (rEncode_any _ l _ (HBW.out _ HB3.out) (by rw [← HN.out]; have := HLN.out; omega) (fun y hy => by have := HT.out y hy; omega) err ae A HE.out R HR.out).mono ?_
      rintro e w4 ⟨rfl, hb4⟩
      have HB4 : Hid (Below w2.heap.size w2 w4) := below_up HB3.out hb4 (Nat.le_refl _)
      clear hb4 HB3
      go_wp2_with fail
      go_roundw
      case rel => exact ⟨i + 1, by go_num, by omega, HB4.out⟩
      case measure => simp [intOf]; omega
    · have i1 : ¬ (i : Int) < 2 := by omega
      clear hlt hi2
      go_wp2_with fail
      have hst := still_any (.slice a n c) l g g _ (HBW.out _ HB.out) (own_kept2 HO2.out HB.out) (by rw [← HN.out]; exact HLN.out)
      rw [← HN.out, ← HM.out] at hst
      refine hst.mono ?_
      rintro e w5 ⟨rfl, k5, hw5⟩
      have HB5 : Hid (Below w2.heap.size w2 w5) := by rw [hw5]; exact HB.out.drewN' k5
      clear hst hw5 HB
      by_cases hn0 : 0 < n
      · have n1 : (0 : Int) < (n : Int) := by omega
        obtain ⟨z, hz⟩ : ∃ z, z = pkN at_ n := ⟨_, rfl⟩
        have hzn : z < n := by rw [hz]; exact pkN_lt _ _ hn0
        have hpk : ∀ W, Calls Try.prog 14 #[.int .i64 at_, .int .i64 (n : Int)] W fun e w' => e = .returned (.int .i64 (z : Int)) ∧ w' = W := fun W => by rw [hz]; exact pick_det at_ n W a0 a1 hn0 (by have := HLN.out; omega)
        have HPK := Hid.mk' hpk
        have ho5 := own_kept2 HO2.out HB5.out
        have hk5 := HKB.out _ HB5.out
        have e0 : w5.cell? ⟨w.heap.size, 0, none⟩ = some (.int .i64 x) := by rw [Lib.cell_of_heap hk5]; rfl
        have e1 : w5.cell? ⟨w.heap.size, 1, none⟩ = some (.string t) := by rw [Lib.cell_of_heap hk5]; rfl
        have c0 := (own_at ho5 z (by rw [← HN.out]; omega)).1
        have c1 := (own_at ho5 z (by rw [← HN.out]; omega)).2
        have f0 := ho5.frozenAt (z * 2)
        have f1 := ho5.frozenAt (z * 2 + 1)
        have z0 : (0 : Int) ≤ (z : Int) := by omega
        have z1 : (z : Int) < (n : Int) := by omega
        have HO5 := Hid.mk' ho5
        have HZN := Hid.mk' hzn
        clear hpk hz hk5 ho5 hzn
        go_upto_region 12 with fail
        go_cut [9] (fun s9 wx => s9 = .int .i64 (i : Int) ∧ Hid (wx.ownsRow g 24 2 (.slice (some ⟨g, 0, none⟩) (l.length + 5) (l.length + 5)) (l.length + 5) (lnV ((mkL l).set z (x, t))) ∧ Below w0.heap.size w0 wx))
        case first =>
          go_region_with (go_at_call 14; refine (HPK.out _).mono ?_; rintro e w' ⟨rfl, hw'⟩; have hw2 := hw'.symm; subst hw2; clear hw')
          all_goals (go_wp2_with fail; go_meet)
          all_goals exact ⟨rfl, own_put HO5.out z (x, t), (((below_up HB2.out HB5.out (Nat.le_refl _)).setCell (p := ⟨g, z * 2, none⟩) HG0.out _).setCell (p := ⟨g, z * 2 + 1, none⟩) HG0.out _).drewN' 1⟩
        case rest =>
          obtain ⟨rfl, HX⟩ := hcut
          have hzl : z < l.length := by rw [← HN.out]; exact HZN.out
          obtain ⟨L2, hL2⟩ : ∃ L2, L2 = l.set z (x, t) := ⟨_, rfl⟩
          have hlen : L2.length = l.length := by rw [hL2, List.length_set]
          have HLEN : Hid (L2.length = n) := hlen.trans HN.out.symm
          have hox := HX.out.1
          rw [mkL_set l z (x, t) hzl, ← hL2, ← hlen] at hox
          have hls := mk_ls (mkL L2) hox (fun i hi => mkL_lo L2 i hi)
          rw [HLEN.out, ← HM.out] at hls
          have HLL := Hid.mk' hls
          have HBX := Hid.mk' HX.out.2
          have HTL : Hid (∀ y ∈ L2, y.2.size ≤ 1125899906842624) := fun y hy => by
            rw [hL2] at hy
            rcases List.mem_or_eq_of_mem_set hy with h | h
            · have := HT.out y h
              omega
            · rw [h]
              have := HT2.out
              show t.size ≤ _
              omega
          clear hox hls hlen hL2 hzl HX e0 e1 c0 c1 f0 f1
          obtain ⟨er2, ae2, A2, hE2⟩ : ∃ er2 ae2 A2, Rec.encG [] L2 = (er2, ae2, A2) := ⟨_, _, _, rfl⟩
          obtain ⟨R2, hR2⟩ : ∃ R2, R2 = if er2 = 0 then nums (Rec.payF A2) else ⟨#[]⟩ := ⟨_, rfl⟩
          have HE2 := Hid.mk' hE2
          have HR2 := Hid.mk' hR2
          clear hE2 hR2
          go_wp2_with fail
          refine (encode_any _ L2 _ HLL.out (by rw [HLEN.out]; have := HLN.out; omega) HTL.out er2 ae2 A2 HE2.out R2 HR2.out).mono ?_
          rintro e w7 ⟨rfl, hb7⟩
          have HB7 : Hid (Below w0.heap.size w0 w7) := below_up HBX.out hb7 (Nat.le_refl _)
          have HL7 := Hid.mk' (HLL.out.below hb7)
          clear hb7 HBX HLL
          go_wp2_with fail
          refine (rEncode_any _ L2 _ HL7.out (by rw [HLEN.out]; have := HLN.out; omega) HTL.out er2 ae2 A2 HE2.out R2 HR2.out).mono ?_
          rintro e w8 ⟨rfl, hb8⟩
          have HB8 : Hid (Below w0.heap.size w0 w8) := below_up HB7.out hb8 (Nat.le_refl _)
          clear hb8 HB7 HL7
          go_wp2_with fail
          go_ret
          exact ⟨by first | rfl | simp, below_up HB0.out HB8.out (Nat.le_refl _)⟩
      · have n1 : ¬ (0 : Int) < (n : Int) := by omega
        have hn00 : n = 0 := by omega
        have HLEN : Hid (l.length = n) := HN.out.symm
        have HLL := Hid.mk' (HLT.out _ HB5.out)
        have HBX : Hid (Below w0.heap.size w0 w5) := below_up HB2.out HB5.out (Nat.le_refl _)
        have HTL : Hid (∀ y ∈ l, y.2.size ≤ 1125899906842624) := fun y hy => by
          have := HT.out y hy
          omega
        clear hn00 hn0
        obtain ⟨er2, ae2, A2, hE2⟩ : ∃ er2 ae2 A2, Rec.encG [] l = (er2, ae2, A2) := ⟨_, _, _, rfl⟩
        obtain ⟨R2, hR2⟩ : ∃ R2, R2 = if er2 = 0 then nums (Rec.payF A2) else ⟨#[]⟩ := ⟨_, rfl⟩
        have HE2 := Hid.mk' hE2
        have HR2 := Hid.mk' hR2
        clear hE2 hR2
        go_wp2_with fail
        refine (encode_any _ l _ HLL.out (by rw [HLEN.out]; have := HLN.out; omega) HTL.out er2 ae2 A2 HE2.out R2 HR2.out).mono ?_
        rintro e w7 ⟨rfl, hb7⟩
        have HB7 : Hid (Below w0.heap.size w0 w7) := below_up HBX.out hb7 (Nat.le_refl _)
        have HL7 := Hid.mk' (HLL.out.below hb7)
        clear hb7 HBX HLL
        go_wp2_with fail
        refine (rEncode_any _ l _ HL7.out (by rw [HLEN.out]; have := HLN.out; omega) HTL.out er2 ae2 A2 HE2.out R2 HR2.out).mono ?_
        rintro e w8 ⟨rfl, hb8⟩
        have HB8 : Hid (Below w0.heap.size w0 w8) := below_up HB7.out hb8 (Nat.le_refl _)
        clear hb8 HB7 HL7
        go_wp2_with fail
        go_ret
        exact ⟨by first | rfl | simp, below_up HB0.out HB8.out (Nat.le_refl _)⟩
end Go.Proofs.Ytobbobbfmiefeaa
