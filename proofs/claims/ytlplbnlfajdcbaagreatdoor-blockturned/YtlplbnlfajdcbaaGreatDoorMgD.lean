/-
  record: what is read back. Conditions: as each says.
-/
import Derived.Test.YtlplbnlfajdcbaaGreatDoorRcC
import Derived.Test.YtlplbnlfajdcbaaGreatDoorRTake
namespace Go.Proofs.YtlplbnlfajdcbaaGreatDoor
open Go.RowKit
set_option linter.unusedVariables false
/-- of what was there only the blocks g and h are written -/
structure Two (g h : Nat) (w w' : World) : Prop where
  os : w'.os = w.os
  tape : w'.tape = w.tape
  output : w'.output = w.output
  size : w.heap.size ≤ w'.heap.size
  block : ∀ k, k < w.heap.size → k ≠ g → k ≠ h → w'.heap[k]? = w.heap[k]?
theorem Two.refl (g h : Nat) (w : World) : Two g h w w := ⟨rfl, rfl, rfl, Nat.le_refl _, fun _ _ _ _ => rfl⟩
theorem Two.trans {g h : Nat} {a b c : World} (x : Two g h a b) (y : Two g h b c) : Two g h a c :=
  ⟨y.os.trans x.os, y.tape.trans x.tape, y.output.trans x.output, Nat.le_trans x.size y.size, fun k hk h1 h2 => (y.block k (Nat.lt_of_lt_of_le hk x.size) h1 h2).trans (x.block k hk h1 h2)⟩
theorem Only.two {g : Nat} {a b : World} (x : Only g a b) (h : Nat) : Two g h a b := ⟨x.os, x.tape, x.output, x.size, fun k hk h1 _ => x.block k hk h1⟩
theorem Two.below {g h B : Nat} {a b : World} (x : Two g h a b) (hg : B ≤ g) (hh : B ≤ h) (hs : B ≤ a.heap.size) : Below B a b := ⟨x.os, x.tape, x.output, x.size, fun k hk => x.block k (by omega) (by omega) (by omega)⟩
def stepS (q : Nat × Nat × Nat) (p : Int) : Int × Nat × Int := if q.2.1 ≠ 0 then (0, q.2.1, p) else if Code.zag q.1 < -p ∨ Rec.MS - p < Code.zag q.1 then (0, 171, p) else (p + Code.zag q.1, 0, p + Code.zag q.1)
def stepL (q : Nat × Nat × Nat) : Nat × Nat := if q.2.1 ≠ 0 then (0, q.2.1) else if 8192 < q.1 then (0, 170) else (q.1, 0)
theorem zag_le (n : Nat) (h : n < 18446744073709551616) : -9223372036854775808 ≤ Code.zag n ∧ Code.zag n ≤ 9223372036854775807 := by
  unfold Code.zag
  split <;> omega
set_option maxHeartbeats 1000000 in
set_option maxRecDepth 100000 in
theorem nst_any (g bx ls : Nat) (s : ByteArray) (a : Nat) (p : Int) (w : World) (hr : Rdr g s a w) (hb : w.heap[bx]? = some (.cells #[.pointer (some ⟨g, 0, none⟩)] 113 (0, 0))) (hl : w.heap[ls]? = some (.cells #[.int .i64 p] 3 (0, 0))) (hp0 : 0 ≤ p) (hp1 : p ≤ 253402300799999) (ha : a ≤ s.size) (hs : s.size ≤ 1125899906842624) :
    Calls Tryz.prog 132 #[.pointer (some ⟨bx, 0, none⟩), .pointer (some ⟨ls, 0, none⟩)] w fun e w' => e = .returned (.tuple #[.int .i64 (stepS (rdAt s a) p).1, .int .i64 ((stepS (rdAt s a) p).2.1 : Int)]) ∧ w'.heap[ls]? = some (.cells #[.int .i64 (stepS (rdAt s a) p).2.2] 3 (0, 0)) ∧ Rdr g s (a + (rdAt s a).2.2) w' ∧ Two g ls w w' := by
  have hlt := (rdAt_lt s a ha).1
  have c0 : w.cell? ⟨bx, 0, none⟩ = some (.pointer (some ⟨g, 0, none⟩)) := by simp [World.cell?, hb]
  have hgl : g ≠ ls := fun e => by
    subst e
    unfold Rdr at hr
    rw [hr] at hl
    cases hl
  have hbg : bx ≠ g := fun e => by
    subst e
    unfold Rdr at hr
    rw [hr] at hb
    cases hb
  have HR := Hid.mk' (rint_any g s a w hr ha hs)
  have hll := (Array.getElem?_eq_some_iff.1 hl).1
  have HL := Hid.mk' hl
  have hlg : ls ≠ g := hgl.symm
  have HLG := Hid.mk' hlg
  have HLL := Hid.mk' hll
  obtain ⟨q1, q2, q3, hq⟩ : ∃ q1 q2 q3, rdAt s a = (q1, q2, q3) := ⟨_, _, _, rfl⟩
  rw [hq] at HR hlt ⊢
  have hz := zag_le q1 hlt
  obtain ⟨z, hz'⟩ : ∃ z, Hid (z = Code.zag q1) := ⟨_, rfl⟩
  have HS : Hid (stepS (q1, q2, q3) p = if q2 ≠ 0 then (0, q2, p) else if z < -p ∨ Rec.MS - p < z then (0, 171, p) else (p + z, 0, p + z)) := by rw [hz'.out]; rfl
  simp only at HR hlt
  rw [← hz'.out] at HR hz
  clear hr hb hl hq ha hs hlt hgl hbg hlg hll hz'
  have hmsp : IntKind.i64.wrap (253402300799999 - p) = 253402300799999 - p := by rw [IntKind.wrap_i64]; omega
  by_cases h2 : q2 = 0
  · by_cases h3 : z < -p
    · rw [if_neg (by omega), if_pos (.inl h3)] at HS
      rw [HS.out]
      have h2' : (q2 : Int) = 0 := by omega
      have H2 := Hid.mk' h2
      clear h2
      go_enter Tryz.func132, Tryz.ntmps132
      go_wp2_with fail
      refine HR.out.mono ?_
      rintro e w1 ⟨rfl, hr1, ho1⟩
      have HR1 := Hid.mk' hr1
      have HO1 := Hid.mk' ho1
      have c1 : w1.cell? ⟨ls, 0, none⟩ = some (.int .i64 p) := by
        have := (ho1.block ls HLL.out HLG.out).trans HL.out
        simp [World.cell?, this]
      have HL1 := Hid.mk' ((ho1.block ls HLL.out HLG.out).trans HL.out)
      clear hr1 ho1
      go_wp2_with fail
      go_ret2
      exact ⟨rfl, HL1.out, HR1.out, HO1.out.two ls⟩
    · by_cases h4 : 253402300799999 - p < z
      · rw [if_neg (by omega), if_pos (.inr h4)] at HS
        rw [HS.out]
        have h2' : (q2 : Int) = 0 := by omega
        have H2 := Hid.mk' h2
        clear h2
        go_enter Tryz.func132, Tryz.ntmps132
        go_wp2_with fail
        refine HR.out.mono ?_
        rintro e w1 ⟨rfl, hr1, ho1⟩
        have HR1 := Hid.mk' hr1
        have HO1 := Hid.mk' ho1
        have c1 : w1.cell? ⟨ls, 0, none⟩ = some (.int .i64 p) := by
          have := (ho1.block ls HLL.out HLG.out).trans HL.out
          simp [World.cell?, this]
        have HL1 := Hid.mk' ((ho1.block ls HLL.out HLG.out).trans HL.out)
        clear hr1 ho1
        go_wp2_with fail
        go_ret2
        exact ⟨rfl, HL1.out, HR1.out, HO1.out.two ls⟩
      · rw [if_neg (by omega), if_neg (fun h => h.elim h3 h4)] at HS
        rw [HS.out]
        have h2' : (q2 : Int) = 0 := by omega
        have H2 := Hid.mk' h2
        have hpz : IntKind.i64.wrap (p + z) = p + z := by rw [IntKind.wrap_i64]; omega
        clear h2
        go_enter Tryz.func132, Tryz.ntmps132
        go_wp2_with fail
        refine HR.out.mono ?_
        rintro e w1 ⟨rfl, hr1, ho1⟩
        have HR1 := Hid.mk' hr1
        have HO1 := Hid.mk' ho1
        have c1 : w1.cell? ⟨ls, 0, none⟩ = some (.int .i64 p) := by
          have := (ho1.block ls HLL.out HLG.out).trans HL.out
          simp [World.cell?, this]
        have HL1 := Hid.mk' ((ho1.block ls HLL.out HLG.out).trans HL.out)
        have f1 : w1.frozen? ⟨ls, 0, none⟩ = false := by
          simp [World.frozen?, HL1.out]
        clear hr1 ho1
        go_wp2_with fail
        go_ret2
        have hset := setc_at HL1.out 0 (.int .i64 (p + z))
        have hgr := grown_setc w1 ls 0 (.int .i64 (p + z))
        refine ⟨?_, hset, ?_, (HO1.out.two ls).trans ⟨rfl, rfl, rfl, hgr.size, fun k hk _ h2 => hgr.block k hk (by simpa using h2)⟩⟩
        · rfl
        · exact (hgr.block g HR1.out.lt (by simpa using HLG.out.symm)).trans HR1.out
  · rw [if_pos h2] at HS
    rw [HS.out]
    have h2' : ¬ (q2 : Int) = 0 := by omega
    have H2 := Hid.mk' h2
    clear h2
    go_enter Tryz.func132, Tryz.ntmps132
    go_wp2_with fail
    refine HR.out.mono ?_
    rintro e w1 ⟨rfl, hr1, ho1⟩
    have HR1 := Hid.mk' hr1
    have HO1 := Hid.mk' ho1
    have HL1 := Hid.mk' ((ho1.block ls HLL.out HLG.out).trans HL.out)
    clear hr1 ho1
    go_wp2_with fail
    go_ret2
    exact ⟨rfl, HL1.out, HR1.out, HO1.out.two ls⟩
end Go.Proofs.YtlplbnlfajdcbaaGreatDoor

namespace Go.Proofs.YtlplbnlfajdcbaaGreatDoor
open Go.RowKit
set_option linter.unusedVariables false
theorem stF_err (s : ByteArray) (k a : Nat) (p : Int) (h : (stepS (rdAt s a) p).2.1 ≠ 0) : Rec.stF s (k + 1) a p = ((stepS (rdAt s a) p).2.1, [], a) := by
  unfold stepS at h ⊢
  unfold Rec.stF
  show (if (rdAt s a).2.1 ≠ 0 then _ else _) = _
  split
  · rfl
  · rename_i h1
    rw [if_neg h1] at h
    by_cases h2 : Code.zag (rdAt s a).1 < -p ∨ Rec.MS - p < Code.zag (rdAt s a).1
    · rw [if_pos h2]
      exact if_pos h2
    · rw [if_neg h2] at h
      exact absurd rfl h
theorem stF_step (s : ByteArray) (k a : Nat) (p : Int) (ha : a ≤ s.size) (hp : 0 ≤ p ∧ p ≤ Rec.MS) (h : (stepS (rdAt s a) p).2.1 = 0) : ∃ v, stepS (rdAt s a) p = (v, 0, v) ∧ 0 ≤ v ∧ v ≤ Rec.MS ∧ Rec.stF s (k + 1) a p = ((Rec.stF s k (a + (rdAt s a).2.2) v).1, v :: (Rec.stF s k (a + (rdAt s a).2.2) v).2.1, (Rec.stF s k (a + (rdAt s a).2.2) v).2.2) ∧ 1 ≤ (rdAt s a).2.2 ∧ a + (rdAt s a).2.2 ≤ s.size := by
  unfold stepS at h ⊢
  split at h
  · rename_i h1
    exact absurd h h1
  · rename_i h1
    split at h
    · cases h
    · rename_i h2
      rw [if_neg h1, if_neg h2]
      have h1' : (rdAt s a).2.1 = 0 := by simpa using h1
      have hst := Rec.rd_step s a ha h1'
      refine ⟨_, rfl, by omega, by omega, ?_, ?_, hst.2.1⟩
      · rw [Rec.stF]
        rw [if_neg (show ¬ (Code.rd ((Sums.bl s).drop a)).2.1 ≠ 0 from h1), if_neg (show ¬ (Code.zag (Code.rd ((Sums.bl s).drop a)).1 < -p ∨ Rec.MS - p < Code.zag (Code.rd ((Sums.bl s).drop a)).1) from h2)]
        rfl
      · have e := hst.2.2.1
        have := Code.uint_pos (Code.rd ((Sums.bl s).drop a)).1
        show 1 ≤ (Code.rd ((Sums.bl s).drop a)).2.2
        omega
/-- what a column answers -/
def ColP (g ls : Nat) (s : ByteArray) (err : Nat) (l : List Int) (pos : Nat) (at_ : Int) (w : World) (e : Ending) (w' : World) : Prop :=
  ∃ v, e = .returned (.tuple #[v, .int .i64 (err : Int), .int .i64 at_]) ∧ (err = 0 → w'.ownsRow w.heap.size 3 1 v l.length (itv l) ∧ Rdr g s pos w') ∧ Two g ls w w'
set_option maxHeartbeats 2000000 in
set_option maxRecDepth 100000 in
theorem colS_any (g bx ls : Nat) (s : ByteArray) (a0 count : Nat) (w : World) (hr : Rdr g s a0 w) (hb : w.heap[bx]? = some (.cells #[.pointer (some ⟨g, 0, none⟩)] 113 (0, 0))) (hl : w.heap[ls]? = some (.cells #[.int .i64 0] 3 (0, 0))) (ha : a0 ≤ s.size) (hs : s.size ≤ 131072) (hc : count < 18446744073709551616) (R : Nat × List Int × Nat) (hR : R = Rec.stF s count a0 0) (at_ : Int) (hat : at_ = if R.1 = 0 then 0 else (R.2.2 : Int)) :
    Calls Tryz.prog 105 #[.pointer (some ⟨g, 0, none⟩), .int .u64 (count : Int), .func (.func 132) #[] #[.pointer (some ⟨bx, 0, none⟩), .pointer (some ⟨ls, 0, none⟩)]] w fun e w' => ColP g ls s R.1 R.2.1 R.2.2 at_ w e w' := by
  obtain ⟨i0, hi, hz0, hz1, hz2⟩ := info_parts infoI
  have hgl : g ≠ ls := fun e => by
    subst e
    unfold Rdr at hr
    rw [hr] at hl
    cases hl
  have hbg : bx ≠ g := fun e => by
    subst e
    unfold Rdr at hr
    rw [hr] at hb
    cases hb
  have hbl : bx ≠ ls := fun e => by
    subst e
    rw [hb] at hl
    cases hl
  have HBX : Hid (∀ W, Two g ls w W → W.heap[bx]? = some (.cells #[.pointer (some ⟨g, 0, none⟩)] 113 (0, 0))) := fun W h => (h.block bx (Array.getElem?_eq_some_iff.1 hb).1 hbg hbl).trans hb
  have HG : Hid (g < w.heap.size ∧ ls < w.heap.size) := ⟨hr.lt, (Array.getElem?_eq_some_iff.1 hl).1⟩
  have HR0 := Hid.mk' hr
  have HL0 := Hid.mk' hl
  have HRR := Hid.mk' hR
  have HAT := Hid.mk' hat
  clear hat
  have HA0 := Hid.mk' ha
  have hcI : (count : Int) < 18446744073709551616 := by omega
  clear hr hb hl hgl hbg hbl hR ha
  go_enter Tryz.func105, Tryz.ntmps105
  go_wp2_with fail
  go_loopw [9, 14] (fun s9 s14 wr => ∃ (a : Nat) (p : Int) (pre : List Int), s14 = .int .u64 (pre.length : Int) ∧ pre.length ≤ count ∧ pre.length ≤ a ∧ a ≤ s.size ∧ 0 ≤ p ∧ p ≤ 253402300799999 ∧ wr.ownsRow w.heap.size 3 1 s9 pre.length (itv pre) ∧ Rdr g s a wr ∧ wr.heap[ls]? = some (.cells #[.int .i64 p] 3 (0, 0)) ∧ Two g ls w wr ∧ R = ((Rec.stF s (count - pre.length) a p).1, pre ++ (Rec.stF s (count - pre.length) a p).2.1, (Rec.stF s (count - pre.length) a p).2.2)) (fun _ s14 _ => count - (intOf s14).toNat)
  case atStart => exact ⟨a0, 0, [], rfl, Nat.zero_le _, Nat.zero_le _, HA0.out, by omega, by omega, World.ownsRow_nil _ _ _ _, HR0.out, HL0.out, Two.refl _ _ _, by rw [HRR.out]; rfl⟩
  case round =>
    obtain ⟨a, p, pre, rfl, hpc, hpa, has, hp0, hp1, hown, hr, hl, ht, hrel⟩ := hrel
    have HOWN := Hid.mk' hown
    have HT := Hid.mk' ht
    have HREL := Hid.mk' hrel
    have HR := Hid.mk' hr
    have HL := Hid.mk' hl
    clear hown ht hrel hr hl HR0 HL0
    obtain ⟨b9, c9, rfl⟩ := row_shape HOWN.out
    obtain ⟨n, hn⟩ : ∃ n, n = pre.length := ⟨_, rfl⟩
    rw [← hn] at HOWN HREL hpc hpa ⊢
    have HN := Hid.mk' hn
    clear hn
    by_cases hlt : n < count
    · have hlt' : (n : Int) < (count : Int) := by omega
      have HNX := Hid.mk' (nst_any g bx ls s a p wr HR.out (HBX.out _ HT.out) HL.out hp0 hp1 has (by omega))
      have HLT := Hid.mk' hlt
      have HCN : Hid (count - n = (count - n - 1) + 1) := by unfold Hid; omega
      by_cases herr : (stepS (rdAt s a) p).2.1 = 0
      · obtain ⟨v, h1, h2, h3, h4, h5, h6⟩ := stF_step s (count - n - 1) a p has ⟨hp0, hp1⟩ herr
        rw [h1] at HNX
        obtain ⟨b, hbq⟩ : ∃ b, b = a + (rdAt s a).2.2 := ⟨_, rfl⟩
        rw [← hbq] at HNX h4 h6
        have hab : a + 1 ≤ b := by omega
        have HST := Hid.mk' h4
        have hv0 : 0 ≤ v := h2
        have hv1 : v ≤ 253402300799999 := h3
        have hnb : n + 1 ≤ 131072 := by omega
        have HH := Hid.mk' (And.intro hpc (And.intro hpa (And.intro h6 hab)))
        have hwn : IntKind.u64.wrap ((n : Int) + 1) = (n : Int) + 1 := by rw [IntKind.wrap_u64]; omega
        clear h1 h2 h3 h4 h5 h6 hbq herr hlt
        go_wp2_with fail
        refine (at_any g s a wr HR.out).mono ?_
        rintro e w' ⟨rfl, rfl⟩
        go_wp2_with fail
        refine HNX.out.mono ?_
        rintro e w1 ⟨rfl, hl1, hr1, ht1⟩
        have HT1 := Hid.mk' (HT.out.trans ht1)
        have hrow1 : w1.ownsRow w.heap.size 3 1 (.slice b9 n c9) n (itv pre) := row_kept HOWN.out fun k hk => ht1.block k (HOWN.out.lt k hk).2 (by have := (HOWN.out.lt k hk).1; have := HG.out.1; omega) (by have := (HOWN.out.lt k hk).1; have := HG.out.2; omega)
        have HL1 := Hid.mk' hl1
        have HR1 := Hid.mk' hr1
        have hsz1 : w.heap.size ≤ w1.heap.size := HT1.out.size
        clear hl1 hr1 ht1 HNX HOWN HT HL HR
        go_wp2_with (first | (at_builtin; refine wpList_append_own _ rfl _ _ 88 rfl w.heap.size 3 i0 (.int .i64 0) 1 8 Tryz.underlying88 hi hz0 hz1 hz2 rfl (by decide) _ _ _ rfl (hrow1.alloc _) ⟨w1.heap.size, 0, none⟩ 1 1 [.int .i64 v] rfl rfl (cell_one_new _ _ _) (by simp [Value.oneCell']) (by unfold maxLen; omega) (by omega) (by simp; omega) ?_; intro v' w2 hown' hgrow _; have HOW := Hid.mk' hown'; have HT2 : Hid (Two g ls w w2) := ⟨hgrow.os.trans HT1.out.os, hgrow.tape.trans HT1.out.tape, hgrow.output.trans HT1.out.output, Nat.le_trans hsz1 (Nat.le_trans (by simp) hgrow.size), fun k hk h1 h2 => (hgrow.block k (by simp; omega) (fun e => by have := (hrow1.lt k e.symm).1; omega)).trans ((Below.heap_alloc w1 _ k (by omega)).trans (HT1.out.block k hk h1 h2))⟩; have HK : Hid (∀ k, k < w.heap.size → w2.heap[k]? = w1.heap[k]?) := fun k hk => (hgrow.block k (by simp; omega) (fun e => by have := (hrow1.lt k e.symm).1; omega)).trans (Below.heap_alloc w1 _ k (by omega)); clear hown' hgrow) | fail)
        go_roundw
        case rel =>
          have hl2 : (pre ++ [v]).length = n + 1 := by rw [List.length_append, ← HN.out]; rfl
          refine ⟨b, v, pre ++ [v], ?_, by rw [hl2]; exact HLT.out, by rw [hl2]; have := HH.out.2.1; have := HH.out.2.2.2; omega, HH.out.2.2.1, hv0, hv1, ?_, (HK.out g HG.out.1).trans HR1.out, (HK.out ls HG.out.2).trans HL1.out, HT2.out, ?_⟩
          · rw [hl2]
            go_num
          · rw [hl2]
            have := HOW.out
            unfold itv at this ⊢
            rw [List.map_append]
            exact this
          · have hx := HREL.out
            rw [HCN.out, HST.out] at hx
            rw [hl2, hx, show count - (n + 1) = count - n - 1 by omega, List.append_assoc]
            rfl
        case measure => have := HLT.out; simp [intOf]; omega
      · have hE := stF_err s (count - n - 1) a p herr
        have hx := HREL.out
        rw [HCN.out, hE] at hx
        have HX := Hid.mk' hx
        obtain ⟨E, hEE⟩ : ∃ E, E = (stepS (rdAt s a) p).2.1 := ⟨_, rfl⟩
        rw [← hEE] at HNX herr hx
        have HEE := Hid.mk' hEE
        have h0 : ((E : Int) == 0) = false := by simp; exact herr
        have hcI2 := hcI
        clear hcI2 hcI hpc hpa hlt'
        have H0 := Hid.mk' herr
        obtain ⟨V, hV⟩ : ∃ V, V = (stepS (rdAt s a) p).1 := ⟨_, rfl⟩
        rw [← hV] at HNX
        clear hE hx herr hEE hV hlt
        go_wp2_with fail
        refine (at_any g s a wr HR.out).mono ?_
        rintro e w' ⟨rfl, rfl⟩
        go_wp2_with fail
        refine HNX.out.mono ?_
        rintro e w1 ⟨rfl, hl1, hr1, ht1⟩
        have HT1 := Hid.mk' (HT.out.trans ht1)
        clear hl1 hr1 ht1 HNX HOWN HT HL HR
        go_wp2_with fail
        go_ret3
        have q0 : R.1 = E := by rw [HX.out, HEE.out]
        have q1 : R.2.2 = a := by rw [HX.out]
        refine ⟨.slice none 0 0, ret_tup3 rfl (val_int (by rw [q0])) (val_int (by rw [HAT.out, if_neg (by rw [q0]; exact H0.out), q1])), fun h => absurd (q0.symm.trans h) H0.out, HT1.out⟩
    · obtain rfl : n = count := by omega
      have hx := HREL.out
      rw [Nat.sub_self, Rec.stF] at hx
      have HX := Hid.mk' hx
      have hlt' : ¬ (n : Int) < (n : Int) := by omega
      clear hx hlt
      go_wp2_with fail
      go_ret3
      have q0 : R.1 = 0 := by rw [HX.out]
      have q1 : R.2.1 = pre := by rw [HX.out]; simp
      have q2 : R.2.2 = a := by rw [HX.out]
      refine ⟨_, ret_tup3 rfl (val_int (by rw [q0]; rfl)) (val_int (by rw [HAT.out, if_pos q0])), fun _ => ⟨?_, by rw [q2]; exact HR.out⟩, HT.out⟩
      rw [q1, ← HN.out]
      exact HOWN.out
end Go.Proofs.YtlplbnlfajdcbaaGreatDoor

namespace Go.Proofs.YtlplbnlfajdcbaaGreatDoor
open Go.RowKit
set_option linter.unusedVariables false
set_option maxHeartbeats 1000000 in
set_option maxRecDepth 100000 in
theorem nln_any (g bx : Nat) (s : ByteArray) (a : Nat) (w : World) (hr : Rdr g s a w) (hb : w.heap[bx]? = some (.cells #[.pointer (some ⟨g, 0, none⟩)] 113 (0, 0))) (ha : a ≤ s.size) (hs : s.size ≤ 1125899906842624) :
    Calls Tryz.prog 134 #[.pointer (some ⟨bx, 0, none⟩)] w fun e w' => e = .returned (.tuple #[.int .i64 ((stepL (rdAt s a)).1 : Int), .int .i64 ((stepL (rdAt s a)).2 : Int)]) ∧ Rdr g s (a + (rdAt s a).2.2) w' ∧ Only g w w' := by
  have hlt := (rdAt_lt s a ha).1
  have c0 : w.cell? ⟨bx, 0, none⟩ = some (.pointer (some ⟨g, 0, none⟩)) := by simp [World.cell?, hb]
  have HR := Hid.mk' (ruint_any g s a w hr ha hs)
  obtain ⟨q1, q2, q3, hq⟩ : ∃ q1 q2 q3, rdAt s a = (q1, q2, q3) := ⟨_, _, _, rfl⟩
  rw [hq] at HR hlt ⊢
  have HS : Hid (stepL (q1, q2, q3) = if q2 ≠ 0 then (0, q2) else if 8192 < q1 then (0, 170) else (q1, 0)) := rfl
  simp only at HR hlt
  clear hr hb hq ha hs
  by_cases h2 : q2 = 0
  · have h2' : ((q2 : Int) == 0) = true := by simp; exact h2
    by_cases h3 : 8192 < q1
    · rw [if_neg (by omega), if_pos h3] at HS
      rw [HS.out]
      have h3' : (8192 : Int) < (q1 : Int) := by omega
      subst h2
      go_enter Tryz.func134, Tryz.ntmps134
      go_wp2_with fail
      refine HR.out.mono ?_
      rintro e w1 ⟨rfl, hr1, ho1⟩
      have HR1 := Hid.mk' hr1
      have HO1 := Hid.mk' ho1
      clear hr1 ho1
      go_wp2_with fail
      go_ret2
      exact ⟨rfl, HR1.out, HO1.out⟩
    · rw [if_neg (by omega), if_neg h3] at HS
      rw [HS.out]
      have h3' : ¬ (8192 : Int) < (q1 : Int) := by omega
      have hw : IntKind.i64.wrap (q1 : Int) = (q1 : Int) := by rw [IntKind.wrap_i64]; omega
      subst h2
      go_enter Tryz.func134, Tryz.ntmps134
      go_wp2_with fail
      refine HR.out.mono ?_
      rintro e w1 ⟨rfl, hr1, ho1⟩
      have HR1 := Hid.mk' hr1
      have HO1 := Hid.mk' ho1
      clear hr1 ho1
      go_wp2_with fail
      go_ret2
      exact ⟨ret_tup2 (val_int (by first | rfl | exact hw)) rfl, HR1.out, HO1.out⟩
  · rw [if_pos h2] at HS
    rw [HS.out]
    have h2' : ((q2 : Int) == 0) = false := by simp; exact h2
    have H2 := Hid.mk' h2
    clear h2
    go_enter Tryz.func134, Tryz.ntmps134
    go_wp2_with fail
    refine HR.out.mono ?_
    rintro e w1 ⟨rfl, hr1, ho1⟩
    have HR1 := Hid.mk' hr1
    have HO1 := Hid.mk' ho1
    clear hr1 ho1
    go_wp2_with fail
    go_ret2
    exact ⟨rfl, HR1.out, HO1.out⟩
theorem lnF_err (s : ByteArray) (k a : Nat) (h : (stepL (rdAt s a)).2 ≠ 0) : Rec.lnF s (k + 1) a = ((stepL (rdAt s a)).2, [], a) := by
  unfold stepL at h ⊢
  unfold Rec.lnF
  show (if (rdAt s a).2.1 ≠ 0 then _ else _) = _
  split
  · rfl
  · rename_i h1
    rw [if_neg h1] at h
    by_cases h2 : 8192 < (rdAt s a).1
    · rw [if_pos h2]
      exact if_pos h2
    · rw [if_neg h2] at h
      exact absurd rfl h
theorem lnF_step (s : ByteArray) (k a : Nat) (ha : a ≤ s.size) (h : (stepL (rdAt s a)).2 = 0) : ∃ v, stepL (rdAt s a) = (v, 0) ∧ v ≤ 8192 ∧ Rec.lnF s (k + 1) a = ((Rec.lnF s k (a + (rdAt s a).2.2)).1, v :: (Rec.lnF s k (a + (rdAt s a).2.2)).2.1, (Rec.lnF s k (a + (rdAt s a).2.2)).2.2) ∧ 1 ≤ (rdAt s a).2.2 ∧ a + (rdAt s a).2.2 ≤ s.size := by
  unfold stepL at h ⊢
  split at h
  · rename_i h1
    exact absurd h h1
  · rename_i h1
    split at h
    · cases h
    · rename_i h2
      rw [if_neg h1, if_neg h2]
      have h1' : (rdAt s a).2.1 = 0 := by simpa using h1
      have hst := Rec.rd_step s a ha h1'
      refine ⟨_, rfl, by omega, ?_, ?_, hst.2.1⟩
      · rw [Rec.lnF]
        rw [if_neg (show ¬ (Code.rd ((Sums.bl s).drop a)).2.1 ≠ 0 from h1), if_neg (show ¬ 8192 < (Code.rd ((Sums.bl s).drop a)).1 from h2)]
        rfl
      · have e := hst.2.2.1
        have := Code.uint_pos (Code.rd ((Sums.bl s).drop a)).1
        show 1 ≤ (Code.rd ((Sums.bl s).drop a)).2.2
        omega
def nat2 (l : List Nat) : List Int := l.map fun n : Nat => (n : Int)
set_option maxHeartbeats 2000000 in
set_option maxRecDepth 100000 in
theorem colL_any (g bx : Nat) (s : ByteArray) (a0 count : Nat) (w : World) (hr : Rdr g s a0 w) (hb : w.heap[bx]? = some (.cells #[.pointer (some ⟨g, 0, none⟩)] 113 (0, 0))) (ha : a0 ≤ s.size) (hs : s.size ≤ 131072) (hc : count < 18446744073709551616) (R : Nat × List Nat × Nat) (hR : R = Rec.lnF s count a0) (at_ : Int) (hat : at_ = if R.1 = 0 then 0 else (R.2.2 : Int)) :
    Calls Tryz.prog 105 #[.pointer (some ⟨g, 0, none⟩), .int .u64 (count : Int), .func (.func 134) #[] #[.pointer (some ⟨bx, 0, none⟩)]] w fun e w' => ColP g g s R.1 (nat2 R.2.1) R.2.2 at_ w e w' := by
  obtain ⟨i0, hi, hz0, hz1, hz2⟩ := info_parts infoI
  have hbg : bx ≠ g := fun e => by
    subst e
    unfold Rdr at hr
    rw [hr] at hb
    cases hb
  have HBX : Hid (∀ W, Two g g w W → W.heap[bx]? = some (.cells #[.pointer (some ⟨g, 0, none⟩)] 113 (0, 0))) := fun W h => (h.block bx (Array.getElem?_eq_some_iff.1 hb).1 hbg hbg).trans hb
  have HG : Hid (g < w.heap.size) := hr.lt
  have HR0 := Hid.mk' hr
  have HRR := Hid.mk' hR
  have HAT := Hid.mk' hat
  clear hat
  have HA0 := Hid.mk' ha
  have hcI : (count : Int) < 18446744073709551616 := by omega
  clear hr hb hbg hR ha
  go_enter Tryz.func105, Tryz.ntmps105
  go_wp2_with fail
  go_loopw [9, 14] (fun s9 s14 wr => ∃ (a : Nat) (pre : List Nat), s14 = .int .u64 (pre.length : Int) ∧ pre.length ≤ count ∧ pre.length ≤ a ∧ a ≤ s.size ∧ wr.ownsRow w.heap.size 3 1 s9 pre.length (itv (nat2 pre)) ∧ Rdr g s a wr ∧ Two g g w wr ∧ R = ((Rec.lnF s (count - pre.length) a).1, pre ++ (Rec.lnF s (count - pre.length) a).2.1, (Rec.lnF s (count - pre.length) a).2.2)) (fun _ s14 _ => count - (intOf s14).toNat)
  case atStart => exact ⟨a0, [], rfl, Nat.zero_le _, Nat.zero_le _, HA0.out, World.ownsRow_nil _ _ _ _, HR0.out, Two.refl _ _ _, by rw [HRR.out]; rfl⟩
  case round =>
    obtain ⟨a, pre, rfl, hpc, hpa, has, hown, hr, ht, hrel⟩ := hrel
    have HOWN := Hid.mk' hown
    have HT := Hid.mk' ht
    have HREL := Hid.mk' hrel
    have HR := Hid.mk' hr
    clear hown ht hrel hr HR0
    obtain ⟨b9, c9, rfl⟩ := row_shape HOWN.out
    obtain ⟨n, hn⟩ : ∃ n, n = pre.length := ⟨_, rfl⟩
    rw [← hn] at HOWN HREL hpc hpa ⊢
    have HN := Hid.mk' hn
    clear hn
    by_cases hlt : n < count
    · have hlt' : (n : Int) < (count : Int) := by omega
      have HNX := Hid.mk' (nln_any g bx s a wr HR.out (HBX.out _ HT.out) has (by omega))
      have HLT := Hid.mk' hlt
      have HCN : Hid (count - n = (count - n - 1) + 1) := by unfold Hid; omega
      by_cases herr : (stepL (rdAt s a)).2 = 0
      · obtain ⟨v, h1, h2, h4, h5, h6⟩ := lnF_step s (count - n - 1) a has herr
        rw [h1] at HNX
        obtain ⟨b, hbq⟩ : ∃ b, b = a + (rdAt s a).2.2 := ⟨_, rfl⟩
        rw [← hbq] at HNX h4 h6
        have hab : a + 1 ≤ b := by omega
        have HST := Hid.mk' h4
        have hv1 : v ≤ 8192 := h2
        have hnb : n + 1 ≤ 131072 := by omega
        have HH := Hid.mk' (And.intro hpc (And.intro hpa (And.intro h6 hab)))
        have hwn : IntKind.u64.wrap ((n : Int) + 1) = (n : Int) + 1 := by rw [IntKind.wrap_u64]; omega
        clear h1 h2 h4 h5 h6 hbq herr hlt
        go_wp2_with fail
        refine (at_any g s a wr HR.out).mono ?_
        rintro e w' ⟨rfl, rfl⟩
        go_wp2_with fail
        refine HNX.out.mono ?_
        rintro e w1 ⟨rfl, hr1, ht0⟩
        have ht1 := ht0.two g
        have HT1 := Hid.mk' (HT.out.trans ht1)
        have hrow1 : w1.ownsRow w.heap.size 3 1 (.slice b9 n c9) n (itv (nat2 pre)) := row_kept HOWN.out fun k hk => ht1.block k (HOWN.out.lt k hk).2 (by have := (HOWN.out.lt k hk).1; have := HG.out; omega) (by have := (HOWN.out.lt k hk).1; have := HG.out; omega)
        have HR1 := Hid.mk' hr1
        have hsz1 : w.heap.size ≤ w1.heap.size := HT1.out.size
        clear hr1 ht1 ht0 HNX HOWN HT HR
        go_wp2_with (first | (at_builtin; refine wpList_append_own _ rfl _ _ 88 rfl w.heap.size 3 i0 (.int .i64 0) 1 8 Tryz.underlying88 hi hz0 hz1 hz2 rfl (by decide) _ _ _ rfl (hrow1.alloc _) ⟨w1.heap.size, 0, none⟩ 1 1 [.int .i64 (v : Int)] rfl rfl (cell_one_new _ _ _) (by simp [Value.oneCell']) (by unfold maxLen; omega) (by omega) (by simp; omega) ?_; intro v' w2 hown' hgrow _; have HOW := Hid.mk' hown'; have HT2 : Hid (Two g g w w2) := ⟨hgrow.os.trans HT1.out.os, hgrow.tape.trans HT1.out.tape, hgrow.output.trans HT1.out.output, Nat.le_trans hsz1 (Nat.le_trans (by simp) hgrow.size), fun k hk h1 h2 => (hgrow.block k (by simp; omega) (fun e => by have := (hrow1.lt k e.symm).1; omega)).trans ((Below.heap_alloc w1 _ k (by omega)).trans (HT1.out.block k hk h1 h2))⟩; have HK : Hid (∀ k, k < w.heap.size → w2.heap[k]? = w1.heap[k]?) := fun k hk => (hgrow.block k (by simp; omega) (fun e => by have := (hrow1.lt k e.symm).1; omega)).trans (Below.heap_alloc w1 _ k (by omega)); clear hown' hgrow) | fail)
        go_roundw
        case rel =>
          have hl2 : (pre ++ [v]).length = n + 1 := by rw [List.length_append, ← HN.out]; rfl
          refine ⟨b, pre ++ [v], ?_, by rw [hl2]; exact HLT.out, by rw [hl2]; have := HH.out.2.1; have := HH.out.2.2.2; omega, HH.out.2.2.1, ?_, (HK.out g HG.out).trans HR1.out, HT2.out, ?_⟩
          · rw [hl2]
            go_num
          · rw [hl2]
            have := HOW.out
            unfold itv nat2 at this ⊢
            rw [List.map_append, List.map_append]
            exact this
          · have hx := HREL.out
            rw [HCN.out, HST.out] at hx
            rw [hl2, hx, show count - (n + 1) = count - n - 1 by omega, List.append_assoc]
            rfl
        case measure => have := HLT.out; simp [intOf]; omega
      · have hE := lnF_err s (count - n - 1) a herr
        have hx := HREL.out
        rw [HCN.out, hE] at hx
        have HX := Hid.mk' hx
        obtain ⟨E, hEE⟩ : ∃ E, E = (stepL (rdAt s a)).2 := ⟨_, rfl⟩
        rw [← hEE] at HNX herr hx
        have HEE := Hid.mk' hEE
        have h0 : ((E : Int) == 0) = false := by simp; exact herr
        clear hcI hpc hpa hlt'
        have H0 := Hid.mk' herr
        obtain ⟨V, hV⟩ : ∃ V, V = (stepL (rdAt s a)).1 := ⟨_, rfl⟩
        rw [← hV] at HNX
        clear hE hx herr hEE hV hlt
        go_wp2_with fail
        refine (at_any g s a wr HR.out).mono ?_
        rintro e w' ⟨rfl, rfl⟩
        go_wp2_with fail
        refine HNX.out.mono ?_
        rintro e w1 ⟨rfl, hr1, ht0⟩
        have HT1 := Hid.mk' (HT.out.trans (ht0.two g))
        clear hr1 ht0 HNX HOWN HT HR
        go_wp2_with fail
        go_ret3
        have q0 : R.1 = E := by rw [HX.out, HEE.out]
        have q1 : R.2.2 = a := by rw [HX.out]
        refine ⟨.slice none 0 0, ret_tup3 rfl (val_int (by rw [q0])) (val_int (by rw [HAT.out, if_neg (by rw [q0]; exact H0.out), q1])), fun h => absurd (q0.symm.trans h) H0.out, HT1.out⟩
    · obtain rfl : n = count := by omega
      have hx := HREL.out
      rw [Nat.sub_self, Rec.lnF] at hx
      have HX := Hid.mk' hx
      have hlt' : ¬ (n : Int) < (n : Int) := by omega
      clear hx hlt
      go_wp2_with fail
      go_ret3
      have q0 : R.1 = 0 := by rw [HX.out]
      have q1 : R.2.1 = pre := by rw [HX.out]; simp
      have q2 : R.2.2 = a := by rw [HX.out]
      have q3 : (nat2 pre).length = n := by unfold nat2; rw [List.length_map]; exact HN.out.symm
      refine ⟨_, ret_tup3 rfl (val_int (by rw [q0]; rfl)) (val_int (by rw [HAT.out, if_pos q0])), fun _ => ⟨?_, by rw [q2]; exact HR.out⟩, HT.out⟩
      rw [q1, q3]
      exact HOWN.out
end Go.Proofs.YtlplbnlfajdcbaaGreatDoor
