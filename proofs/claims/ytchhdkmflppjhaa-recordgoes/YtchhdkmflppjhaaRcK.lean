/-
  record: a column of stamps. Conditions: as each says.
-/
import Derived.Test.YtchhdkmflppjhaaRcJ
namespace Go.Proofs.Ytchhdkmflppjhaa
open Go.RowKit
set_option linter.unusedVariables false
theorem stF_err (s : ByteArray) (k a : Nat) (p : Int) (h : (stepS (rdAt s a) p).2.1 ≠ 0) : Rec.stF s (k + 1) a p = ((stepS (rdAt s a) p).2.1, [], a) := by
  unfold stepS at h ⊢
  unfold Rec.stF
  show (if (rdAt s a).2.1 ≠ 0 then _ else _) = _
  split
  · rfl
  · rename_i h1
    rw [if_neg h1] at h
    by_cases h2 : Code.zag (rdAt s a).1 < -p ∨ Rec.MS - p < Code.zag (rdAt s a).1
    · rw [if_pos h2]
      exact if_pos h2
    · rw [if_neg h2] at h
      exact absurd rfl h
theorem stF_step (s : ByteArray) (k a : Nat) (p : Int) (ha : a ≤ s.size) (hp : 0 ≤ p ∧ p ≤ Rec.MS) (h : (stepS (rdAt s a) p).2.1 = 0) : ∃ v, stepS (rdAt s a) p = (v, 0, v) ∧ 0 ≤ v ∧ v ≤ Rec.MS ∧ Rec.stF s (k + 1) a p = ((Rec.stF s k (a + (rdAt s a).2.2) v).1, v :: (Rec.stF s k (a + (rdAt s a).2.2) v).2.1, (Rec.stF s k (a + (rdAt s a).2.2) v).2.2) ∧ 1 ≤ (rdAt s a).2.2 ∧ a + (rdAt s a).2.2 ≤ s.size := by
  unfold stepS at h ⊢
  split at h
  · rename_i h1
    exact absurd h h1
  · rename_i h1
    split at h
    · cases h
    · rename_i h2
      rw [if_neg h1, if_neg h2]
      have h1' : (rdAt s a).2.1 = 0 := by simpa using h1
      have hst := Rec.rd_step s a ha h1'
      refine ⟨_, rfl, by omega, by omega, ?_, ?_, hst.2.1⟩
      · rw [Rec.stF]
        rw [if_neg (show ¬ (Code.rd ((Sums.bl s).drop a)).2.1 ≠ 0 from h1), if_neg (show ¬ (Code.zag (Code.rd ((Sums.bl s).drop a)).1 < -p ∨ Rec.MS - p < Code.zag (Code.rd ((Sums.bl s).drop a)).1) from h2)]
        rfl
      · have e := hst.2.2.1
        have := Code.uint_pos (Code.rd ((Sums.bl s).drop a)).1
        show 1 ≤ (Code.rd ((Sums.bl s).drop a)).2.2
        omega
/-- what a column answers -/
def ColP (g ls : Nat) (s : ByteArray) (err : Nat) (l : List Int) (pos : Nat) (at_ : Int) (w : World) (e : Ending) (w' : World) : Prop :=
  ∃ v, e = .returned (.tuple #[v, .int .i64 (err : Int), .int .i64 at_]) ∧ (err = 0 → w'.ownsRow w.heap.size 3 1 v l.length (itv l) ∧ Rdr g s pos w') ∧ Two g ls w w'
set_option maxHeartbeats 2000000 in
set_option maxRecDepth 100000 in
theorem colS_any (g bx ls : Nat) (s : ByteArray) (a0 count : Nat) (w : World) (hr : Rdr g s a0 w) (hb : w.heap[bx]? = some (.cells #[.pointer (some ⟨g, 0, none⟩)] 53 (0, 0))) (hl : w.heap[ls]? = some (.cells #[.int .i64 0] 3 (0, 0))) (ha : a0 ≤ s.size) (hs : s.size ≤ 131072) (hc : count < 18446744073709551616) (R : Nat × List Int × Nat) (hR : R = Rec.stF s count a0 0) (at_ : Int) (hat : at_ = if R.1 = 0 then 0 else (R.2.2 : Int)) :
    Calls Try.prog 24 #[.pointer (some ⟨g, 0, none⟩), .int .u64 (count : Int), .func (.func 51) #[] #[.pointer (some ⟨bx, 0, none⟩), .pointer (some ⟨ls, 0, none⟩)]] w fun e w' => ColP g ls s R.1 R.2.1 R.2.2 at_ w e w' := by
  obtain ⟨i0, hi, hz0, hz1, hz2⟩ := info_parts infoI
  have hgl : g ≠ ls := fun e => by
    subst e
    unfold Rdr at hr
    rw [hr] at hl
    cases hl
  have hbg : bx ≠ g := fun e => by
    subst e
    unfold Rdr at hr
    rw [hr] at hb
    cases hb
  have hbl : bx ≠ ls := fun e => by
    subst e
    rw [hb] at hl
    cases hl
  have HBX : Hid (∀ W, Two g ls w W → W.heap[bx]? = some (.cells #[.pointer (some ⟨g, 0, none⟩)] 53 (0, 0))) := fun W h => (h.block bx (Array.getElem?_eq_some_iff.1 hb).1 hbg hbl).trans hb
  have HG : Hid (g < w.heap.size ∧ ls < w.heap.size) := ⟨hr.lt, (Array.getElem?_eq_some_iff.1 hl).1⟩
  have HR0 := Hid.mk' hr
  have HL0 := Hid.mk' hl
  have HRR := Hid.mk' hR
  have HAT := Hid.mk' hat
  clear hat
  have HA0 := Hid.mk' ha
  have hcI : (count : Int) < 18446744073709551616 := by omega
  clear hr hb hl hgl hbg hbl hR ha
  go_enter Try.func24, Try.ntmps24
  go_wp2_with fail
  go_loopw [9, 14] (fun s9 s14 wr => ∃ (a : Nat) (p : Int) (pre : List Int), s14 = .int .u64 (pre.length : Int) ∧ pre.length ≤ count ∧ pre.length ≤ a ∧ a ≤ s.size ∧ 0 ≤ p ∧ p ≤ 253402300799999 ∧ wr.ownsRow w.heap.size 3 1 s9 pre.length (itv pre) ∧ Rdr g s a wr ∧ wr.heap[ls]? = some (.cells #[.int .i64 p] 3 (0, 0)) ∧ Two g ls w wr ∧ R = ((Rec.stF s (count - pre.length) a p).1, pre ++ (Rec.stF s (count - pre.length) a p).2.1, (Rec.stF s (count - pre.length) a p).2.2)) (fun _ s14 _ => count - (intOf s14).toNat)
  case atStart => exact ⟨a0, 0, [], rfl, Nat.zero_le _, Nat.zero_le _, HA0.out, by omega, by omega, World.ownsRow_nil _ _ _ _, HR0.out, HL0.out, Two.refl _ _ _, by rw [HRR.out]; rfl⟩
  case round =>
    obtain ⟨a, p, pre, rfl, hpc, hpa, has, hp0, hp1, hown, hr, hl, ht, hrel⟩ := hrel
    have HOWN := Hid.mk' hown
    have HT := Hid.mk' ht
    have HREL := Hid.mk' hrel
    have HR := Hid.mk' hr
    have HL := Hid.mk' hl
    clear hown ht hrel hr hl HR0 HL0
    obtain ⟨b9, c9, rfl⟩ := row_shape HOWN.out
    obtain ⟨n, hn⟩ : ∃ n, n = pre.length := ⟨_, rfl⟩
    rw [← hn] at HOWN HREL hpc hpa ⊢
    have HN := Hid.mk' hn
    clear hn
    by_cases hlt : n < count
    · have hlt' : (n : Int) < (count : Int) := by omega
      have HNX := Hid.mk' (nst_any g bx ls s a p wr HR.out (HBX.out _ HT.out) HL.out hp0 hp1 has (by omega))
      have HLT := Hid.mk' hlt
      have HCN : Hid (count - n = (count - n - 1) + 1) := by unfold Hid; omega
      by_cases herr : (stepS (rdAt s a) p).2.1 = 0
      · obtain ⟨v, h1, h2, h3, h4, h5, h6⟩ := stF_step s (count - n - 1) a p has ⟨hp0, hp1⟩ herr
        rw [h1] at HNX
        obtain ⟨b, hbq⟩ : ∃ b, b = a + (rdAt s a).2.2 := ⟨_, rfl⟩
        rw [← hbq] at HNX h4 h6
        have hab : a + 1 ≤ b := by omega
        have HST := Hid.mk' h4
        have hv0 : 0 ≤ v := h2
        have hv1 : v ≤ 253402300799999 := h3
        have hnb : n + 1 ≤ 131072 := by omega
        have HH := Hid.mk' (And.intro hpc (And.intro hpa (And.intro h6 hab)))
        have hwn : IntKind.u64.wrap ((n : Int) + 1) = (n : Int) + 1 := by rw [IntKind.wrap_u64]; omega
        clear h1 h2 h3 h4 h5 h6 hbq herr hlt
        go_wp2_with fail
        refine (at_any g s a wr HR.out).mono ?_
        rintro e w' ⟨rfl, rfl⟩
        go_wp2_with fail
        refine HNX.out.mono ?_
        rintro e w1 ⟨rfl, hl1, hr1, ht1⟩
        have HT1 := Hid.mk' (HT.out.trans ht1)
        have hrow1 : w1.ownsRow w.heap.size 3 1 (.slice b9 n c9) n (itv pre) := row_kept HOWN.out fun k hk => ht1.block k (HOWN.out.lt k hk).2 (by have := (HOWN.out.lt k hk).1; have := HG.out.1; omega) (by have := (HOWN.out.lt k hk).1; have := HG.out.2; omega)
        have HL1 := Hid.mk' hl1
        have HR1 := Hid.mk' hr1
        have hsz1 : w.heap.size ≤ w1.heap.size := HT1.out.size
        clear hl1 hr1 ht1 HNX HOWN HT HL HR
        go_wp2_with (first | (at_builtin; refine wpList_append_own _ rfl _ _ 58 rfl w.heap.size 3 i0 (.int .i64 0) 1 8 Try.underlying58 hi hz0 hz1 hz2 rfl (by decide) _ _ _ rfl (hrow1.alloc _) ⟨w1.heap.size, 0, none⟩ 1 1 [.int .i64 v] rfl rfl (cell_one_new _ _ _) (by simp [Value.oneCell']) (by unfold maxLen; omega) (by omega) (by simp; omega) ?_; intro v' w2 hown' hgrow _; have HOW := Hid.mk' hown'; have HT2 : Hid (Two g ls w w2) := ⟨hgrow.os.trans HT1.out.os, hgrow.tape.trans HT1.out.tape, hgrow.output.trans HT1.out.output, Nat.le_trans hsz1 (Nat.le_trans (by simp) hgrow.size), fun k hk h1 h2 => (hgrow.block k (by simp; omega) (fun e => by have := (hrow1.lt k e.symm).1; omega)).trans ((Below.heap_alloc w1 _ k (by omega)).trans (HT1.out.block k hk h1 h2))⟩; have HK : Hid (∀ k, k < w.heap.size → w2.heap[k]? = w1.heap[k]?) := fun k hk => (hgrow.block k (by simp; omega) (fun e => by have := (hrow1.lt k e.symm).1; omega)).trans (Below.heap_alloc w1 _ k (by omega)); clear hown' hgrow) | fail)
        go_roundw
        case rel =>
          have hl2 : (pre ++ [v]).length = n + 1 := by rw [List.length_append, ← HN.out]; rfl
          refine ⟨b, v, pre ++ [v], ?_, by rw [hl2]; exact HLT.out, by rw [hl2]; have := HH.out.2.1; have := HH.out.2.2.2; omega, HH.out.2.2.1, hv0, hv1, ?_, (HK.out g HG.out.1).trans HR1.out, (HK.out ls HG.out.2).trans HL1.out, HT2.out, ?_⟩
          · rw [hl2]
            go_num
          · rw [hl2]
            have := HOW.out
            unfold itv at this ⊢
            rw [List.map_append]
            exact this
          · have hx := HREL.out
            rw [HCN.out, HST.out] at hx
            rw [hl2, hx, show count - (n + 1) = count - n - 1 by omega, List.append_assoc]
            rfl
        case measure => have := HLT.out; simp [intOf]; omega
      · have hE := stF_err s (count - n - 1) a p herr
        have hx := HREL.out
        rw [HCN.out, hE] at hx
        have HX := Hid.mk' hx
        obtain ⟨E, hEE⟩ : ∃ E, E = (stepS (rdAt s a) p).2.1 := ⟨_, rfl⟩
        rw [← hEE] at HNX herr hx
        have HEE := Hid.mk' hEE
        have h0 : ((E : Int) == 0) = false := by simp; exact herr
        have hcI2 := hcI
        clear hcI2 hcI hpc hpa hlt'
        have H0 := Hid.mk' herr
        obtain ⟨V, hV⟩ : ∃ V, V = (stepS (rdAt s a) p).1 := ⟨_, rfl⟩
        rw [← hV] at HNX
        clear hE hx herr hEE hV hlt
        go_wp2_with fail
        refine (at_any g s a wr HR.out).mono ?_
        rintro e w' ⟨rfl, rfl⟩
        go_wp2_with fail
        refine HNX.out.mono ?_
        rintro e w1 ⟨rfl, hl1, hr1, ht1⟩
        have HT1 := Hid.mk' (HT.out.trans ht1)
        clear hl1 hr1 ht1 HNX HOWN HT HL HR
        go_wp2_with fail
        go_ret3
        have q0 : R.1 = E := by rw [HX.out, HEE.out]
        have q1 : R.2.2 = a := by rw [HX.out]
        refine ⟨.slice none 0 0, ret_tup3 rfl (val_int (by rw [q0])) (val_int (by rw [HAT.out, if_neg (by rw [q0]; exact H0.out), q1])), fun h => absurd (q0.symm.trans h) H0.out, HT1.out⟩
    · obtain rfl : n = count := by omega
      have hx := HREL.out
      rw [Nat.sub_self, Rec.stF] at hx
      have HX := Hid.mk' hx
      have hlt' : ¬ (n : Int) < (n : Int) := by omega
      clear hx hlt
      go_wp2_with fail
      go_ret3
      have q0 : R.1 = 0 := by rw [HX.out]
      have q1 : R.2.1 = pre := by rw [HX.out]; simp
      have q2 : R.2.2 = a := by rw [HX.out]
      refine ⟨_, ret_tup3 rfl (val_int (by rw [q0]; rfl)) (val_int (by rw [HAT.out, if_pos q0])), fun _ => ⟨?_, by rw [q2]; exact HR.out⟩, HT.out⟩
      rw [q1, ← HN.out]
      exact HOWN.out
end Go.Proofs.Ytchhdkmflppjhaa
