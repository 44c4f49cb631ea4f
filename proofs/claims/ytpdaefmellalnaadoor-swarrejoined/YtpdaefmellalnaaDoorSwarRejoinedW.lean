/-
  SwarRejoined answers true: lines and feeds are the text again. Conditions: the text is no longer than any text that is read can be; the table of package math/bits lies as its text lays it.
-/
import Derived.Test.YtpdaefmellalnaaDoorLnC
namespace Go.Proofs.YtpdaefmellalnaaDoor
open Go.RowKit Go.Shelf
set_option linter.unusedVariables false
attribute [local go_sem] Oper.semAt_some
theorem nil_func (fn : Fn) (first cap : Array Value) (w : World) : (binOp .eql 25 (.func fn first cap) .nilFunc).run Tryd.prog w = .ok (.bool false) w := by kernel_rfl
theorem keeps_drewN (W : World) (m : Nat) : KeepsOthers W (W.drewN m) := ⟨Nat.le_refl _, fun _ _ h _ => h⟩
theorem idx_bt (s : ByteArray) (i c : Nat) (hi : i < s.size) (hc : c = Swar.bt s i) (W : World) : (Instr.index 9 (.string s) (.int .i64 (i : Int))).run Tryd.prog W = .ok (.int .u8 (c : Int)) W := by
  rw [run_index_string W 9 _ .i64 (i : Int) Tryd.underlying9, dif_pos ⟨by omega, by omega⟩]
  simp only [Int.toNat_natCast]
  rw [hc, Swar.bt_in hi]
def IR (s : ByteArray) (b : Nat) (w : World) (pre : List Ln) (W : World) : Prop :=
  (∃ v, Boxed W (b + 1 + 1) 31 v ∧ W.ownsRow b 5 1 v (Swar.joined (pv pre)).length (byv (Swar.joined (pv pre))) ∧ True) ∧ Boxed W (b + 1 + 1 + 1) 3 (.int .i64 (pre.length : Int)) ∧ Boxed W b 9 (.string s) ∧ Boxed W (b + 1) 4 (.bool false) ∧ Boxed W (b + 1 + 1 + 1 + 1) 9 (.string s) ∧ good s pre ∧ Below b w W
set_option maxRecDepth 100000 in
set_option maxHeartbeats 4000000 in
theorem swarRejoined_any (s : ByteArray) (w : World) (hs : s.size ≤ 140737488351232) (ht : Tab w) :
    Calls Tryd.prog 4 #[.string s] w fun e w' => e = .returned (.bool true) ∧ Below w.heap.size w w' := by
  refine (callsIn_wide (n := 6)).1 ?_
  obtain ⟨i0, hi, hz0, hz1, hz2⟩ := info_parts infoB
  have h0w : 0 < w.heap.size := by
    have := World.block_lt_of_cell? w ⟨0, 0, none⟩ (ht 0 (by omega))
    exact this
  obtain ⟨b, hb⟩ : ∃ b, w.heap.size = b := ⟨_, rfl⟩
  have hnf := nil_func
  refine callsIn_of_wp_marks Tryd.func4 rfl trivial ?_ rfl
  simp only [Tryd.ntmps4, List.size_toArray, List.length_cons, List.length_nil, Nat.reduceAdd, Nat.reduceSub, Array.replicate_succ, Array.replicate_zero, List.push_toArray, List.append_toArray, List.nil_append, List.cons_append]
  gi_wp2_with (refine ⟨trivial, ?_⟩; gi_at_call 6; refine (callsIn_wide.2 (lines_any s _)).mono ?_; rintro e w' ⟨rfl, rfl⟩)
  obtain ⟨W0, hW0⟩ : ∃ W0, (((((w.alloc (.cells #[.string s] 9)).alloc (.cells #[.bool false] 4)).alloc (.cells #[.slice none 0 0] 31)).alloc (.cells #[.int .i64 0] 3)).alloc (.cells #[.string s] 9)) = W0 := ⟨_, rfl⟩
  have hz : W0.heap.size = b + 5 := by rw [← hW0, ← hb]; simp
  have hB0 : Below b w W0 := by
    rw [← hW0, ← hb]
    exact ((((((Below.refl _ w).alloc (Nat.le_refl _) _).alloc (by simp) _).alloc (by simp; omega) _).alloc (by simp; omega) _).alloc (by simp; omega) _)
  have x0 : Boxed W0 b 9 (.string s) := by rw [← hW0, ← hb]; exact ((((Boxed.new w 9 _).alloc _).alloc _).alloc _).alloc _
  have x1 : Boxed W0 (b + 1) 4 (.bool false) := by
    rw [← hW0, ← hb]
    have := (((Boxed.new (w.alloc (.cells #[.string s] 9)) 4 (.bool false)).alloc (.cells #[.slice none 0 0] 31)).alloc (.cells #[.int .i64 0] 3)).alloc (.cells #[.string s] 9)
    simpa using this
  have x2 : Boxed W0 (b + 1 + 1) 31 (.slice none 0 0) := by
    rw [← hW0, ← hb]
    have := ((Boxed.new ((w.alloc (.cells #[.string s] 9)).alloc (.cells #[.bool false] 4)) 31 (.slice none 0 0)).alloc (.cells #[.int .i64 0] 3)).alloc (.cells #[.string s] 9)
    simpa using this
  have x3 : Boxed W0 (b + 1 + 1 + 1) 3 (.int .i64 0) := by
    rw [← hW0, ← hb]
    have := (Boxed.new (((w.alloc (.cells #[.string s] 9)).alloc (.cells #[.bool false] 4)).alloc (.cells #[.slice none 0 0] 31)) 3 (.int .i64 0)).alloc (.cells #[.string s] 9)
    simpa using this
  have x4 : Boxed W0 (b + 1 + 1 + 1 + 1) 9 (.string s) := by
    rw [← hW0, ← hb]
    have := Boxed.new ((((w.alloc (.cells #[.string s] 9)).alloc (.cells #[.bool false] 4)).alloc (.cells #[.slice none 0 0] 31)).alloc (.cells #[.int .i64 0] 3)) 9 (.string s)
    simpa using this
  have hT0 : Tab W0 := fun i h => ((hB0.cell (p := ⟨0, i, none⟩) (by show 0 < b; omega)).trans (ht i h))
  rw [hW0]
  clear hW0
  refine wpIn_rangeFunc_ownF rfl (by omega) (gf := 10) (lb := #[.pointer (some ⟨b + 1 + 1 + 1 + 1, 0, none⟩)]) rfl trivial (enters_of Tryd.func10 (by kernel_rfl) rfl)
    (lines_stops 5 (by omega) (b + 1 + 1 + 1 + 1) b s hs W0 (by omega) (by omega) (by omega) hT0 x4.cell) KpL.t (KpL.b (by omega) (by omega)) (Below.refl _ _) (fun _ => rfl)
    (IR s b w) (fun c pre W => c = .ret ∧ ¬ good s pre)
    (OwnFrom.and (Own.from (holdsRow_own b (b + 1 + 1) 31 5 1 _ _ _) _) (OwnFrom.and (Own.from (boxed_own _ _ _) _) (OwnFrom.and (Own.from (boxed_own _ _ _) _) (OwnFrom.and (Own.from (boxed_own _ _ _) _) (OwnFrom.and (Own.from (boxed_own _ _ _) _) (OwnFrom.and (ownFrom_pure _ _) (ownFrom_below (by omega) (by omega))))))))
    (fun c => ownFrom_pure _ _)
    ⟨⟨_, x2, World.ownsRow_nil W0 b 5 1, trivial⟩, x3, x0, x1, x4, good_nil s, hB0⟩
    (fun x => { tmps := #[.string s, .pointer (some ⟨b, 0, none⟩), .pointer (some ⟨b + 1, 0, none⟩), .pointer (some ⟨b + 1 + 1, 0, none⟩), .pointer (some ⟨b + 1 + 1 + 1, 0, none⟩), .func (.func 10) #[] #[.pointer (some ⟨b + 1 + 1 + 1 + 1, 0, none⟩)], .int .i64 (x.1.1 : Int), .string x.1.2, undef, .string s, .func (.func 10) #[] #[.pointer (some ⟨b + 1 + 1 + 1 + 1, 0, none⟩)], .func (.func 10) #[] #[.pointer (some ⟨b + 1 + 1 + 1 + 1, 0, none⟩)], .bool false, .func (.func 10) #[] #[.pointer (some ⟨b + 1 + 1 + 1 + 1, 0, none⟩)], .int .i64 (x.1.1 : Int), .string x.1.2, undef, undef, undef, undef, undef, undef, undef, undef, undef, undef, undef, undef, undef, undef, undef, undef, undef, undef, undef, undef, undef, undef, undef, undef, undef, undef, undef, undef, undef, undef, undef, undef, undef, undef, undef, undef, undef, undef, undef, undef, undef, undef, undef, undef, undef, undef, undef, undef, undef, undef, undef, undef, undef, undef, undef, undef, undef, undef, undef, undef, undef, undef, undef, undef], defers := [] }) ?assign ?body ?done ?stop
  case assign =>
    intro l x W K hK
    simp only [encL]
    gi_wp2
    exact hK
  case body =>
    rintro l pre x W ⟨⟨v, hv, hrow, _⟩, hn, hsb, hrs, hsc, hg, hB⟩ hlt
    obtain ⟨p, cp, rfl⟩ := slice_shape hrow
    obtain ⟨N, hN⟩ : ∃ N, (Swar.joined (pv pre)).length = N := ⟨_, rfl⟩
    obtain ⟨q, hq⟩ : ∃ q, pre.length = q := ⟨_, rfl⟩
    obtain ⟨⟨at_, tx⟩, hxb⟩ := x
    simp only at hxb ⊢
    have hqs : q ≤ s.size := by
      rw [← hq]
      have : (lnL s).length ≤ s.size := by
        have h1 := (Swar.lines_all s (s.size + 1) 0 (by omega)).2 (by omega)
        unfold lnL
        rw [List.length_map]
        have h2 := Swar.cnt_le s 10 s.size
        have h3 := Swar.cnt_0 s 10
        have h4 : Swar.cntL s 10 s.size + Swar.tailOf s 0 ≤ s.size := by
          unfold Swar.tailOf
          by_cases hc : 0 < s.size ∧ Swar.bt s (s.size - 1) ≠ 10
          · rw [if_pos hc]
            have h5 := Swar.cnt_step s 10 (s.size - 1)
            rw [if_neg hc.2, show s.size - 1 + 1 = s.size by omega] at h5
            have h6 := Swar.cnt_le s 10 (s.size - 1)
            omega
          · rw [if_neg hc]
            omega
        omega
      omega
    have hqI : (q : Int) ≤ 140737488351232 := by omega
    rw [hq] at hn
    rw [hN] at hv hrow
    have cn := hn.cell
    have fn' := hn.frozen
    have n1 := hn.set (.int .i64 ((q : Int) + 1))
    have v1 := hv.other (B' := b + 1 + 1 + 1) (by omega) (.int .i64 ((q : Int) + 1))
    have s1 := hsb.other (B' := b + 1 + 1 + 1) (by omega) (.int .i64 ((q : Int) + 1))
    have r1 := hrs.other (B' := b + 1 + 1 + 1) (by omega) (.int .i64 ((q : Int) + 1))
    have k1 := hsc.other (B' := b + 1 + 1 + 1) (by omega) (.int .i64 ((q : Int) + 1))
    have o1 := row_set hn (by decide) hrow (.int .i64 ((q : Int) + 1))
    have b1 : Below b W (W.setCell ⟨b + 1 + 1 + 1, 0, none⟩ (.int .i64 ((q : Int) + 1))) := (Below.refl b W).setCell (p := ⟨b + 1 + 1 + 1, 0, none⟩) (by show b ≤ b + 1 + 1 + 1; omega) _
    have hTW : Tab (W.setCell ⟨b + 1 + 1 + 1, 0, none⟩ (.int .i64 ((q : Int) + 1))) := fun i h => ((b1.cell (p := ⟨0, i, none⟩) (by show 0 < b; omega)).trans ((hB.cell (p := ⟨0, i, none⟩) (by show 0 < b; omega)).trans (ht i h)))
    have cv := v1.cell
    have cs := s1.cell
    have cr := r1.cell
    have fr := r1.frozen
    have HV := Hid.mk' v1
    have HR := Hid.mk' o1
    have HN := Hid.mk' n1
    have HS := Hid.mk' s1
    have HRS := Hid.mk' r1
    have HSC := Hid.mk' (And.intro hsc k1)
    have HG := Hid.mk' hg
    have HB := Hid.mk' (And.intro hB b1)
    have HNN := Hid.mk' hN
    have HQQ := Hid.mk' hq
    have hbW : b ≤ W.heap.size := by have := hB.size; omega
    clear hv hrow hn hsb hrs hg hB hN hq n1 v1 s1 r1 k1 o1 b1 hsc
    have hbad : ∀ w' : World, ¬ (at_ = N ∧ Swar.idxL tx 10 0 = -1 ∧ q + 1 ≤ s.size) → ¬ good s (pre ++ [⟨(at_, tx), hxb⟩]) := fun w' h => not_good s pre _ (by rw [HNN.out, HQQ.out]; exact h)
    by_cases hA : at_ = N
    · subst hA
      by_cases hI : Swar.idxL tx 10 0 = -1
      · by_cases hQ : q + 1 ≤ s.size
        · have hQI : ¬ (s.size : Int) < (q : Int) + 1 := by omega
          clear hbad
          have hsz1 : b ≤ (W.setCell ⟨b + 1 + 1 + 1, 0, none⟩ (.int .i64 ((q : Int) + 1))).heap.size := by have := HB.out.2.size; omega
          have HSZ := Hid.mk' hsz1
          clear hsz1
          gi_wp2_with (first
            | (refine ⟨trivial, ?_⟩; gi_at_call 8; refine (CallsIn.inRound l (callsIn_wide.2 (index_any tx 10 0 _ (by omega) (by omega) (by omega) (by omega) hTW))).mono ?_; rintro e w' ⟨rfl, m, rfl⟩; rw [show (0 : Int).toNat = 0 from rfl, hI])
            | (gi_at_builtin; refine stopApp _ _ _ _ rfl ?_)
            | fail)
          apply Hid.mk'
          refine wpListIn_append_str _ rfl _ _ 31 9 rfl b 5 i0 Tryd.underlying31 Tryd.underlying9 hi hz0 hz1 hz2 _ _ _ rfl (show (World.drewN _ _).ownsRow b 5 1 _ _ _ from HR.out) tx rfl (by unfold maxLen; omega) (by omega) HSZ.out ?_
          intro v' w3 ho3 hg3
          have A3 := boxed_app (show Boxed (World.drewN (W.setCell ⟨b + 1 + 1 + 1, 0, none⟩ (.int .i64 ((q : Int) + 1))) _) (b + 1 + 1) 31 _ from HV.out) (by decide) (show World.ownsRow (World.drewN (W.setCell ⟨b + 1 + 1 + 1, 0, none⟩ (.int .i64 ((q : Int) + 1))) _) b 5 1 _ _ _ from HR.out) HSZ.out (by omega) ho3 hg3
          obtain ⟨p3, c3, rfl⟩ := slice_shape ho3
          obtain ⟨a0, a1, a2, a3, a4, a5⟩ := A3
          have n3 := a5 _ _ _ HN.out (by decide) (by omega)
          have s3 := a5 _ _ _ HS.out (by decide) (by omega)
          have r3 := a5 _ _ _ HRS.out (by decide) (by omega)
          have k3 := a5 _ _ _ HSC.out.2 (by decide) (by omega)
          have c30 := a0.cell
          have f30 := a0.frozen
          have hz4 := a4.size
          have HO3 := Hid.mk' a2
          have HA := Hid.mk' (And.intro a1 (And.intro a3 a4))
          have HX := Hid.mk' (And.intro n3 (And.intro s3 (And.intro r3 k3)))
          have c31 := a1.cell
          have f31 := a1.frozen
          have HZ4 : Hid (b ≤ (w3.setCell ⟨b + 1 + 1, 0, none⟩ (.slice p3 (at_ + tx.size) c3)).heap.size) := Nat.le_trans HSZ.out hz4
          clear a0 a1 a2 a3 a4 a5 n3 s3 r3 k3 ho3 hg3 hz4
          gi_wp2_with (gi_at_builtin; refine stopApp _ _ _ _ rfl ?_)
          apply Hid.mk'
          have hsz4 : (w3.setCell ⟨b + 1 + 1, 0, none⟩ (.slice p3 (at_ + tx.size) c3)).heap.size = w3.heap.size := by simp [World.setCell]
          have hcn := cell_one_new (w3.setCell ⟨b + 1 + 1, 0, none⟩ (.slice p3 (at_ + tx.size) c3)) (.int .u8 10) 5
          rw [hsz4] at hcn
          refine wpListIn_append_own _ rfl _ _ 31 rfl b 5 i0 (.int .u8 0) 1 1 Tryd.underlying31 hi hz0 hz1 hz2 rfl (by decide) _ _ _ rfl (HO3.out.alloc _) ⟨w3.heap.size, 0, none⟩ 1 1 [.int .u8 10] rfl rfl hcn (by simp [Value.oneCell']) (by unfold maxLen; omega) (by omega) (by have := HZ4.out; simp only [World.size_alloc]; omega) ?_
          intro v' w6 ho6 hg6 _
          have A6 := boxed_app (HA.out.1.alloc _) (by decide) (HO3.out.alloc _) (by have := HZ4.out; simp only [World.size_alloc]; omega) (by omega) ho6 hg6
          obtain ⟨p6, c6, rfl⟩ := slice_shape ho6
          obtain ⟨a0, a1, a2, a3, a4, a5⟩ := A6
          have n6 := a5 _ _ _ (HX.out.1.alloc _) (by decide) (by omega)
          have s6 := a5 _ _ _ (HX.out.2.1.alloc _) (by decide) (by omega)
          have r6 := a5 _ _ _ (HX.out.2.2.1.alloc _) (by decide) (by omega)
          have k6 := a5 _ _ _ (HX.out.2.2.2.alloc _) (by decide) (by omega)
          have c60 := a0.cell
          have f60 := a0.frozen
          have HY := Hid.mk' (And.intro a1 (And.intro a2 (And.intro a3 a4)))
          have HYX := Hid.mk' (And.intro n6 (And.intro s6 (And.intro r6 k6)))
          clear a0 a1 a2 a3 a4 a5 n6 s6 r6 k6 ho6 hg6
          gi_wp2
          refine ⟨((((KeepsOthers.setCell _ _ _).trans (keeps_drewN _ _)).trans HA.out.2.1).trans (KeepsOthers.alloc _ _)).trans HY.out.2.2.1, ⟨(((HB.out.2.drewN' _).trans HA.out.2.2).alloc HZ4.out _).trans HY.out.2.2.2, (show _ = _ from HYX.out.2.2.2).trans (show _ = _ from HSC.out.1).symm⟩, ⟨_, HY.out.1, ?_, trivial⟩, ?_, HYX.out.2.1, HYX.out.2.2.1, HYX.out.2.2.2, ?_, HB.out.1.trans ((((HB.out.2.drewN' _).trans HA.out.2.2).alloc HZ4.out _).trans HY.out.2.2.2)⟩
          · have e1 : Swar.joined (pv (pre ++ [⟨(at_, tx), hxb⟩])) = Swar.joined (pv pre) ++ (Sums.bl tx ++ [10]) := by rw [pv_snoc, Swar.joined_snoc]
            have e2 : (Swar.joined (pv pre) ++ (Sums.bl tx ++ [10])).length = at_ + tx.size + 1 := by
              have h1 := Sums.bl_length tx
              have h2 := HNN.out
              simp only [List.length_append, List.length_cons, List.length_nil]
              omega
            rw [e1, e2, ← List.append_assoc, byv_append, byv_append, ← strc_byv]
            exact HY.out.2.1
          · have e3 : ((pre ++ [(⟨(at_, tx), hxb⟩ : Ln)]).length : Int) = (q : Int) + 1 := by
              have := HQQ.out
              simp
              omega
            rw [e3]
            exact HYX.out.1
          · exact good_snoc s pre _ HG.out HNN.out.symm hI (by rw [HQQ.out]; exact hQ)
        · have hQI : (s.size : Int) < (q : Int) + 1 := by omega
          gi_wp2_with (refine ⟨trivial, ?_⟩; gi_at_call 8; refine (CallsIn.inRound l (callsIn_wide.2 (index_any tx 10 0 _ (by omega) (by omega) (by omega) (by omega) hTW))).mono ?_; rintro e w' ⟨rfl, m, rfl⟩; rw [show (0 : Int).toNat = 0 from rfl, hI])
          exact ⟨((KeepsOthers.setCell _ _ _).trans (keeps_drewN _ _)).trans (KeepsOthers.setCell _ _ _), rfl, hbad w (fun h => hQ h.2.2)⟩
      · have hI2 := Swar.idx_bounds tx 10 0
        have hI3 : (Swar.idxL tx 10 0 != -1) = true := by simp; exact hI
        gi_wp2_with (refine ⟨trivial, ?_⟩; gi_at_call 8; refine (CallsIn.inRound l (callsIn_wide.2 (index_any tx 10 0 _ (by omega) (by omega) (by omega) (by omega) hTW))).mono ?_; rintro e w' ⟨rfl, m, rfl⟩; rw [show (0 : Int).toNat = 0 from rfl])
        exact ⟨((KeepsOthers.setCell _ _ _).trans (keeps_drewN _ _)).trans (KeepsOthers.setCell _ _ _), rfl, hbad w (fun h => hI h.2.1)⟩
    · have hAI : ((at_ : Int) != (at_ : Int)) = false := by simp
      have hAN : ((at_ : Int) != (N : Int)) = true := by simp; omega
      gi_wp2
      refine ⟨trivial, ?_⟩
      gi_wp2
      exact ⟨(KeepsOthers.setCell _ _ _).trans (KeepsOthers.setCell _ _ _), rfl, hbad w (fun h => hA h.1)⟩
  case done =>
    rintro D ys W hD rfl ⟨⟨v, hv, hrow, _⟩, hn, hsb, hrs, hsc, hg, hB⟩ hK
    have hall := Swar.lines_all s (s.size + 1) 0 (by omega)
    have hpl := pv_lines s hs
    have hj : Swar.joined (pv (lnL s)) = Sums.bl s ++ List.replicate (Swar.tailOf s 0) 10 := by rw [hpl]; exact hall.1
    have hlen : (lnL s).length = Swar.cntL s 10 s.size + Swar.tailOf s 0 := by
      have h1 := hall.2 (by omega)
      rw [Swar.cnt_0] at h1
      have h2 : (lnL s).length = (Swar.linesF s (s.size + 1) 0).length := by unfold lnL; simp
      omega
    have hcl := Swar.cnt_le s 10 s.size
    obtain ⟨p, cp, rfl⟩ := slice_shape hrow
    have hconv : ∀ m, (convert 31 9 (.slice p (Swar.joined (pv (lnL s))).length cp)).run Tryd.prog (W.drewN m) = .ok (.string (nums (Swar.joined (pv (lnL s))))) (W.drewN m) := fun m => conv_own b _ _ (W.drewN m) _ rfl hrow
    obtain ⟨N, hN⟩ : ∃ N, (Swar.joined (pv (lnL s))).length = N := ⟨_, rfl⟩
    rw [hN] at hconv hv
    rw [hj] at hconv
    rw [hlen] at hn
    obtain ⟨fd, hfd⟩ : ∃ fd, Swar.cntL s 10 s.size = fd := ⟨_, rfl⟩
    rw [hfd] at hn hcl
    have hcv := hv.cell
    have hcn := hn.cell
    have hcs := hsb.cell
    have hcr := hrs.cell
    have hfr := hrs.frozen
    have fin : ∀ X : World, X.heap = W.heap → X.os = W.os → X.tape = W.tape → X.output = W.output → ((X.setCell ⟨b + 1, 0, none⟩ (.bool true)).putObj D (.deferred none)).cell? ⟨b + 1, 0, none⟩ = some (.bool true) ∧ Below w.heap.size w ((X.setCell ⟨b + 1, 0, none⟩ (.bool true)).putObj D (.deferred none)) ∧ (X.setCell ⟨b + 1, 0, none⟩ (.bool true)).heap[D]? = some (.deferred (some [])) := by
      intro X e1 e2 e3 e4
      have h1 : Boxed (X.setCell ⟨b + 1, 0, none⟩ (.bool true)) (b + 1) 4 (.bool true) := (show Boxed X (b + 1) 4 (.bool false) by unfold Boxed; rw [e1]; exact hrs).set _
      have hK' := (KeepsOthers.setCell X ⟨b + 1, 0, none⟩ (.bool true)).same D _ (by rw [e1]; exact hK) rfl
      have hBX : Below b w X := ⟨e2.trans hB.os, e3.trans hB.tape, e4.trans hB.output, by rw [e1]; exact hB.size, fun k hk => by rw [e1]; exact hB.block k hk⟩
      refine ⟨cell_kept h1.cell (grownBy_putObj' _ D (.deferred none)) (fun r e => by cases e; exact ⟨_, hK', rfl⟩), ?_, hK'⟩
      rw [hb]
      exact ((hBX.setCell (p := ⟨b + 1, 0, none⟩) (by show b ≤ b + 1; omega) _)).trans (belowK_b (w := w) (by omega) _ D _ _ (by omega) hK' rfl rfl)
    have FIN := Hid.mk' fin
    have HFD := Hid.mk' hfd
    have h1 := count_any s 10
    clear hv hrow hn hsb hrs hsc hg hB hpl hj hlen hall fin hfd
    have hone : Swar.cntL ⟨#[10]⟩ 10 (⟨#[10]⟩ : ByteArray).size = 1 := by decide
    have HONE := Hid.mk' hone
    clear hone
    by_cases h0 : s.size = 0
    · obtain rfl : fd = 0 := by omega
      have htl : Swar.tailOf s 0 = 0 := by simp [Swar.tailOf, h0]
      rw [htl] at hcn
      clear hconv htl hN
      gi_wp2_with (first
        | (refine ⟨trivial, ?_⟩; gi_at_call 9; refine (callsIn_wide.2 (h1 _ (by omega) (by omega))).mono ?_; clear h1; rintro e w' ⟨rfl, m, rfl⟩; rw [HFD.out])
        | (refine ⟨trivial, ?_⟩; gi_at_call 9; refine (callsIn_wide.2 (count_any ⟨#[10]⟩ 10 _ (by decide) (by omega))).mono ?_; rintro e w'' ⟨rfl, m2, rfl⟩; rw [HONE.out]))
      refine ⟨by simp, .inl ⟨_, _, rfl, run_takeDeferred (FIN.out (W.drewN (m + m2)) rfl rfl rfl rfl).2.2, ?_⟩⟩
      refine ⟨.bool true, ?_, rfl, (FIN.out (W.drewN (m + m2)) rfl rfl rfl rfl).2.1⟩
      simp [results, Tryd.f4, go_sem, (FIN.out (W.drewN (m + m2)) rfl rfl rfl rfl).1]
    · obtain ⟨z, hz1'⟩ : ∃ z, z + 1 = s.size := ⟨s.size - 1, by omega⟩
      have hzI : (s.size : Int) - 1 = (z : Int) := by omega
      have hzn : s.size - 1 = z := by omega
      have h0I : ((s.size : Int) == 0) = false := beq_eq_false_iff_ne.2 (by omega)
      by_cases hla : Swar.bt s (s.size - 1) = 10
      · have htl : Swar.tailOf s 0 = 0 := by simp [Swar.tailOf, hla]
        rw [htl, List.replicate_zero, List.append_nil, nums_bl] at hconv
        rw [htl] at hcn
        have hidx := fun W' => idx_bt s z 10 (by omega) (by rw [← hzn]; exact hla.symm) W'
        clear htl hN hla hzn
        gi_wp2_with (refine ⟨trivial, ?_⟩; gi_at_call 9; refine (callsIn_wide.2 (h1 _ (by omega) (by omega))).mono ?_; clear h1; rintro e w' ⟨rfl, m, rfl⟩; rw [HFD.out])
        refine ⟨by simp, .inl ⟨_, _, rfl, run_takeDeferred (FIN.out (W.drewN m) rfl rfl rfl rfl).2.2, ?_⟩⟩
        refine ⟨.bool true, ?_, rfl, (FIN.out (W.drewN m) rfl rfl rfl rfl).2.1⟩
        simp [results, Tryd.f4, go_sem, (FIN.out (W.drewN m) rfl rfl rfl rfl).1]
      · have htl : Swar.tailOf s 0 = 1 := by rw [Swar.tailOf, if_pos ⟨by omega, hla⟩]
        rw [htl, show Sums.bl s ++ List.replicate 1 10 = Sums.bl (s ++ ⟨#[10]⟩) by rw [Sums.bl_append]; rfl, nums_bl] at hconv
        rw [htl] at hcn
        obtain ⟨c, hc⟩ : ∃ c, c = Swar.bt s z := ⟨_, rfl⟩
        have hidx := fun W' => idx_bt s z c (by omega) hc W'
        have hcne : c ≠ 10 := by rw [hc, ← hzn]; exact hla
        have hne : ((c : Int) == 10) = false := beq_eq_false_iff_ne.2 (by omega)
        have hc256 : c < 256 := by rw [hc]; exact Swar.bt_lt s z
        clear htl hN hla hc hzn
        gi_wp2_with (refine ⟨trivial, ?_⟩; gi_at_call 9; refine (callsIn_wide.2 (h1 _ (by omega) (by omega))).mono ?_; clear h1; rintro e w' ⟨rfl, m, rfl⟩; rw [HFD.out])
        refine ⟨by simp, .inl ⟨_, _, rfl, run_takeDeferred (FIN.out (W.drewN m) rfl rfl rfl rfl).2.2, ?_⟩⟩
        refine ⟨.bool true, ?_, rfl, (FIN.out (W.drewN m) rfl rfl rfl rfl).2.1⟩
        simp [results, Tryd.f4, go_sem, (FIN.out (W.drewN m) rfl rfl rfl rfl).1]
  case stop =>
    rintro D c pre W hD hpre ⟨rfl, hng⟩ hK
    exact (hng (good_lines s hs pre hpre)).elim
end Go.Proofs.YtpdaefmellalnaaDoor
