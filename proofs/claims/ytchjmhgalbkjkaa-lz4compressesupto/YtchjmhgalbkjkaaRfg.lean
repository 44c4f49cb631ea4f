/-
  The document's shortest. Conditions: the text has at most 4096 bytes.
-/
import Derived.Test.YtchjmhgalbkjkaaRff
import Derived.Test.YtchjmhgalbkjkaaRfh
import Derived.Deep.RegionHeld3
import Derived.Lib.MinMax
namespace Lz
theorem cm_le0 (W : Nat → Nat) (p : Nat) : ∀ d, cm W p d ≤ farN
  | 0 => Nat.le_refl _
  | d + 1 => by
    rw [cm]
    exact Nat.le_trans (Nat.min_le_left _ _) (cm_le0 W p d)
theorem cpd_le (n : Nat) (R : Nat → Nat) (p : Nat) (hp : p ≤ n) (hR : p + R p ≤ n) (hn : n ≤ 4096) : cpd n R p ≤ 1099511627776 := by
  rw [← cpd_eq n R p hp hR hn]
  exact cm_le0 _ _ _
end Lz
namespace Go.Proofs.Ytchjmhgalbkjkaa
open Go.RowKit
set_option linter.unusedVariables false
theorem rs_row {w : World} {g n : Nat} {F G : Nat → Nat} (h : w.heap[g]? = some (.cells (rowN F (n + 1)).toArray 3 (0, 0))) (hF : ∀ x, x < n + 1 → F x = G x) : w.heap[g]? = some (.cells (rowN G (n + 1)).toArray 3 (0, 0)) := by
  have e : rowN F (n + 1) = rowN G (n + 1) := by
    unfold rowN
    apply List.map_congr_left
    intro x hx
    rw [hF x (by simpa using hx)]
  rw [← e]
  exact h
structure UrR (bs : List Nat) (L : List Way) (n gl gr gc : Nat) (LG FR FC : Nat → Nat) (w0 : World) (ov : Value) (C : List Lz.Cp) (c a : Nat) (w : World) : Prop where
  row : w.ownsRow w0.heap.size 85 3 ov c (cpv C)
  len : c = C.length
  eq : ∃ f, bs.length < a + f ∧ C ++ Lz.unrF bs L f a = Lz.unrF bs L (bs.length + 1) 0
  rs : Rs n gl gr gc LG FR FC w0 w
  lim : 4 * c ≤ a
theorem Rs.grow {n gl gr gc : Nat} {LG FR FC : Nat → Nat} {w0 w w' : World} {o : Obj} {v : Value} {c : Nat} {xs : List Value} (h : Rs n gl gr gc LG FR FC w0 w) (hr : w.ownsRow w0.heap.size 85 3 v c xs) (hg : (w.alloc o).grownBy w' v.ownBlock) : Rs n gl gr gc LG FR FC w0 w' := by
  have hsz := h.bel.size
  have stay : ∀ (k : Nat) (cs : Array Value), w.heap[k]? = some (.cells cs 3 (0, 0)) → w'.heap[k]? = some (.cells cs 3 (0, 0)) := by
    intro k cs hk
    have hlt := (Array.getElem?_eq_some_iff.1 hk).1
    have hk2 := (Below.heap_alloc w o k hlt).trans hk
    exact (hg.block k (by simp; omega) (fun e => row_other (hr.alloc o) hk2 (by decide) e.symm)).trans hk2
  exact ⟨stay gl _ h.lgs, stay gr _ h.res, stay gc _ h.cps, (h.bel.alloc hsz o).grown hg (by simp; omega) (fun k hk => (hr.lt k hk).1), h.ge⟩
set_option maxRecDepth 100000 in
set_option maxHeartbeats 4000000 in
theorem refShortest_any (s : ByteArray) (w : World) (hs : s.size ≤ 4096) :
    Calls Try.prog 26 #[.string s] w fun e w' => ∃ v, e = .returned v ∧ CprR w' v (best3 s) ∧ Below w.heap.size w w' := by
  have hsl := Sums.bl_length s
  have HLO := Hid.mk' (fun w => refLongest_any s w hs)
  obtain ⟨R, hR⟩ : ∃ R, R = Lz.rch (Sums.bl s) (s.size - 1) := ⟨_, rfl⟩
  obtain ⟨n, hn⟩ : ∃ n, s.size = n := ⟨_, rfl⟩
  obtain ⟨m, hm⟩ : ∃ m, n + 1 = m := ⟨_, rfl⟩
  have hmI : (n : Int) + 1 = (m : Int) := by omega
  have hms := make_rowN m (by omega)
  have hlgR : ∀ x, R x = if 4 ≤ Lz.lg (Sums.bl s) x then Lz.lg (Sums.bl s) x else 0 := fun x => by
    have := Lz.rch_lg (Sums.bl s) x
    rw [hsl] at this
    rw [hR]
    exact this
  have hRle : ∀ x, R x ≤ n - 5 - x := fun x => by
    have := Lz.rch_le (Sums.bl s) (s.size - 1) x
    rw [← hR, hsl, hn] at this
    exact this
  have hR12 : ∀ x, R x ≠ 0 → 4 ≤ R x → x + 12 ≤ n := fun x h0 h4 => by
    rcases Lz.rch_ok (Sums.bl s) (s.size - 1) x with h | ⟨_, h, _⟩
    · rw [← hR] at h
      exact absurd h h0
    · rw [hsl, hn] at h
      exact h
  have hlgle : ∀ x, x ≤ n → x + Lz.lg (Sums.bl s) x ≤ n := fun x hx => by
    unfold Lz.lg
    split
    · have := Lz.mxA_le (Sums.bl s) x x
      rw [hsl, hn] at this
      omega
    · omega
  rw [hn] at HLO
  rw [hm] at HLO
  have hsz : (s.size : Int) = (n : Int) := by omega
  have HX := Hid.mk' (And.intro hlgR (And.intro hRle (And.intro hR12 (And.intro hlgle (And.intro hm (And.intro hR (And.intro hn hsl)))))))
  have hn4 : n ≤ 4096 := by omega
  obtain ⟨LG, hLG⟩ : ∃ LG, Lz.lg (Sums.bl s) = LG := ⟨_, rfl⟩
  rw [hLG] at HLO HX
  clear hlgR hRle hR12 hlgle hm hR hsl hLG
  go_enter Try.func26, Try.ntmps26
  go_upto_block 0 with (go_at_call 46; refine (HLO.out _).mono ?_; rintro e w1 ⟨gl, rfl, hgl, hrow, hb1⟩; have hgl2 := (Array.getElem?_eq_some_iff.1 hrow).1; have HR1 := Hid.mk' (And.intro hrow hb1); clear hrow hb1)
  obtain ⟨gr, hgr⟩ : ∃ gr, w1.heap.size = gr := ⟨_, rfl⟩
  obtain ⟨w3, hw3⟩ : ∃ w3, (w1.alloc (.cells (rowN (fun _ => 0) m).toArray 3)).alloc (.cells (rowN (fun _ => 0) m).toArray 3) = w3 := ⟨_, rfl⟩
  have hst : Rs n gl gr (gr + 1) LG (fun _ => 0) (fun _ => 0) w w3 := by
    have h1 := HR1.out.1
    have h2 := HR1.out.2
    have hz := h2.size
    rw [← hw3, ← hgr]
    have hmm := HX.out.2.2.2.2.1
    refine ⟨?_, ?_, ?_, (h2.alloc hz _).alloc (by simp; omega) _, hgl, hgl2, by omega⟩
    · rw [Below.heap_alloc _ _ _ (by simp; omega), Below.heap_alloc _ _ _ hgl2, hmm]
      exact h1
    · rw [Below.heap_alloc _ _ _ (by simp), hmm]
      exact heap_alloc_new w1 _
    · rw [hmm]
      have := heap_alloc_new (w1.alloc (.cells (rowN (fun _ => 0) m).toArray 3)) (.cells (rowN (fun _ => 0) m).toArray 3)
      simpa using this
  rw [hw3, hgr]
  have HST := Hid.mk' hst
  clear hst hw3 hgr hgl2 HR1 HLO hms
  go_cut [7] (fun pv wc => Hid (Rs n gl gr (gr + 1) LG (fun x => (Lz.wv n R x).1) (Lz.cpd n R) w wc))
  case first =>
    go_wp2_with fail
    go_loopw [7] (fun pv wr => ∃ (pI : Int) (FR FC : Nat → Nat), pv = .int .i64 pI ∧ -1 ≤ pI ∧ pI ≤ (n : Int) ∧ Hid (Rs n gl gr (gr + 1) LG FR FC w wr ∧ (∀ x : Nat, x ≤ n → pI < (x : Int) → FR x = (Lz.wv n R x).1 ∧ FC x = Lz.cpd n R x))) (fun pv _ => (intOf pv + 1).toNat)
    case atStart => exact ⟨(n : Int), fun _ => 0, fun _ => 0, rfl, by omega, by omega, ⟨HST.out, fun x h1 h2 => by omega⟩⟩
    case round =>
      obtain ⟨pI, FR, FC, rfl, hp1, hp2, hrs⟩ := hrel
      rename World => wo
      clear HST
      by_cases hp0 : pI < 0
      · go_wp2
        go_meet
        obtain ⟨h1, h2⟩ := hrs.out
        refine ⟨rs_row h1.lgs (fun x hx => rfl), rs_row h1.res (fun x hx => (h2 x (by omega) (by omega)).1), rs_row h1.cps (fun x hx => (h2 x (by omega) (by omega)).2), h1.bel, h1.ge⟩
      · obtain ⟨p, rfl⟩ := Int.eq_ofNat_of_zero_le (show 0 ≤ pI by omega)
        have hp0I : ¬ (p : Int) < 0 := by omega
        have hpn : p ≤ n := by omega
        have hpm : (p : Int) < (m : Int) := by omega
        obtain ⟨q1, q2, q3, q4, q5⟩ := hrs.out.1.cells p hpn
        have hC0 := hrs.out.1.putC p 1099511627776
        obtain ⟨w4, hw4⟩ : ∃ w4, wo.setCell ⟨gr + 1, p, none⟩ (.int .i64 ((1099511627776 : Nat) : Int)) = w4 := ⟨_, rfl⟩
        have hw4' : wo.setCell ⟨gr + 1, p, none⟩ (.int .i64 1099511627776) = w4 := hw4
        rw [hw4] at hC0
        have HC0 := Hid.mk' hC0
        have HFX := Hid.mk' hrs.out.2
        clear hC0 hw4 hrs hp1 hp2 hp0
        go_upto_block 2 with fail
        clear hw4' q1 q2 q3 q4 q5
        go_cut [8] (fun mv wc => Hid (Rs n gl gr (gr + 1) LG FR (fun x => if x = p then Lz.cpd n R p else FC x) w wc))
        case first =>
          go_wp2_with fail
          go_loopw [8] (fun mv wr => ∃ d : Nat, mv = .int .i64 ((d : Int) + 4) ∧ d ≤ LG p - 3 ∧ Hid (Rs n gl gr (gr + 1) LG FR (fun x => if x = p then Lz.cm (fun x => (Lz.wv n R x).1) p d else FC x) w wr)) (fun mv _ => LG p + 1 - (intOf mv).toNat)
          case atStart => exact ⟨0, by simp, by omega, HC0⟩
          case round =>
            obtain ⟨d, rfl, hd, hr2⟩ := hrel
            clear HC0
            have v1 := (hr2.out.cells p hpn).1
            obtain ⟨lp, hlp⟩ : ∃ lp, LG p = lp := ⟨_, rfl⟩
            have hpl : p + lp ≤ n := by
              have := HX.out.2.2.2.1 p hpn
              rw [hlp] at this
              exact this
            rw [hlp] at hd v1
            have HLP := Hid.mk' hlp
            clear hlp
            by_cases hc : d + 4 ≤ lp
            · have hcI : (d : Int) + 4 ≤ (lp : Int) := by omega
              obtain ⟨q, hq⟩ : ∃ q, p + (d + 4) = q := ⟨_, rfl⟩
              have hqI : (p : Int) + ((d : Int) + 4) = (q : Int) := by omega
              have hqm : (q : Int) < (m : Int) := by omega
              have hqI2 : (p : Int) + (d : Int) + 4 = (q : Int) := by omega
              have hqw : IntKind.i64.wrap (q : Int) = (q : Int) := by
                simp only [IntKind.wrap_i64]
                omega
              have hqb : q ≤ 4096 := by omega
              have hdI : (d : Int) + 4 - 4 = (d : Int) := by omega
              have hdb : d ≤ 4096 := by omega
              have hdw : IntKind.i64.wrap (d : Int) = (d : Int) := by
                simp only [IntKind.wrap_i64]
                omega
              have v2 := (hr2.out.cells q (by omega)).2.1
              have v3 := (hr2.out.cells p hpn).2.2.1
              have v4 := (hr2.out.cells p hpn).2.2.2.2
              have hB := (HFX.out q (by omega) (by omega)).1
              have hBle := Lz.wv_cost n R q
              rw [hB] at v2
              rw [if_pos rfl] at v3
              have hcm : Lz.cm (fun x => (Lz.wv n R x).1) p (d + 1) = min (Lz.cm (fun x => (Lz.wv n R x).1) p d) (2 + Lz.lenz d + (Lz.wv n R q).1) := by
                rw [Lz.cm, hq]
              obtain ⟨A, hA⟩ : ∃ A, Lz.cm (fun x => (Lz.wv n R x).1) p d = A := ⟨_, rfl⟩
              obtain ⟨B, hBB⟩ : ∃ B, (Lz.wv n R q).1 = B := ⟨_, rfl⟩
              obtain ⟨L, hL⟩ : ∃ L, Lz.lenz d = L := ⟨_, rfl⟩
              have hLle : L ≤ 4097 := by
                have := Lz.lenz_le d
                omega
              have HB := Hid.mk' (fun w => refBytesOf_any d w (by omega))
              rw [hL] at HB
              rw [hA] at v3 hcm
              rw [hBB] at v2 hcm hBle
              rw [hL] at hcm
              obtain ⟨M, hM⟩ : ∃ M, min A (2 + L + B) = M := ⟨_, rfl⟩
              have hMI : min (A : Int) (2 + (L : Int) + (B : Int)) = (M : Int) := by omega
              have hw1 : IntKind.i64.wrap (2 + (L : Int)) = 2 + (L : Int) := by
                simp only [IntKind.wrap_i64]
                omega
              have hw2 : IntKind.i64.wrap (2 + (L : Int) + (B : Int)) = 2 + (L : Int) + (B : Int) := by
                simp only [IntKind.wrap_i64]
                omega
              have HM := Hid.mk' (hcm.trans hM)
              clear hB hA hBB hL hcm hM hq
              go_upto_block 3 with fail
              go_cut [8] (fun mv wc => mv = .int .i64 ((d : Int) + 4) ∧ Hid (Rs n gl gr (gr + 1) LG FR (fun x => if x = p then Lz.cm (fun x => (Lz.wv n R x).1) p (d + 1) else FC x) w wc))
              case first =>
                go_upto_region 12 with fail
                go_region_with (go_at_call 47; (try simp only [hdw]); refine (HB.out _).mono ?_; rintro e w1 ⟨rfl, rfl⟩)
                all_goals
                  go_wp2_with fail
                  go_meet
                  refine ⟨rfl, ?_⟩
                  have h9 := ((hr2.out.putC p M).congr rfl (show _ = fun x => if x = p then Lz.cm (fun x => (Lz.wv n R x).1) p (d + 1) else FC x by
                    funext x
                    by_cases e : x = p
                    · rw [if_pos e, if_pos e, HM.out]
                    · rw [if_neg e, if_neg e, if_neg e])).drew 1
                  exact h9
              case rest =>
                obtain ⟨rfl, hr3⟩ := hcut
                have hne : LG p + 1 - (d + 4 + 1) < LG p + 1 - (d + 4) := by have := HLP.out; omega
                go_wp2
                refine ⟨⟨d + 1, by first | rfl | (congr 1; omega), by have := HLP.out; omega, hr3⟩, ?_⟩
                show LG p + 1 - ((d : Int) + 4 + 1).toNat < LG p + 1 - ((d : Int) + 4).toNat
                omega
            · have hcI : ¬ (d : Int) + 4 ≤ (lp : Int) := by omega
              go_wp2
              go_meet
              have hR := HX.out.1 p
              have e : d = R p - 3 := by
                have := HLP.out
                rw [hR]
                split <;> omega
              have e2 := Lz.cpd_eq n R p hpn (by have := HX.out.2.1 p; omega) hn4
              have := hr2.out
              rw [e, e2] at this
              exact this
        case rest =>
          rename World => w5
          obtain ⟨r, hr⟩ : ∃ r, n - p = r := ⟨_, rfl⟩
          have hrI : (n : Int) - (p : Int) = (r : Int) := by omega
          obtain ⟨L0, hL0⟩ : ∃ L0, Lz.lenz r = L0 := ⟨_, rfl⟩
          have hL0le : L0 ≤ 4097 := by
            have := Lz.lenz_le r
            omega
          have HB0 := Hid.mk' (fun w => refBytesOf_any r w (by omega))
          rw [hL0] at HB0
          obtain ⟨i0, hi0⟩ : ∃ i0, 1 + L0 + r = i0 := ⟨_, rfl⟩
          have hi0I : 1 + (L0 : Int) + (n : Int) - (p : Int) = (i0 : Int) := by omega
          have hR0 := hcut.out.putR p i0
          have f4 := (hcut.out.cells p hpn).2.2.2.1
          have c4 := (hcut.out.cells p hpn).2.1
          obtain ⟨w6, hw6⟩ : ∃ w6, w5.setCell ⟨gr, p, none⟩ (.int .i64 (i0 : Int)) = w6 := ⟨_, rfl⟩
          rw [hw6] at hR0
          have HR0 := Hid.mk' hR0
          have HI0 := Hid.mk' (And.intro hr (And.intro hL0 hi0))
          clear hR0 hcut HC0 hr hL0 hi0
          go_upto_block 4 with (go_at_call 47; refine (HB0.out _).mono ?_; rintro e w1 ⟨rfl, rfl⟩)
          clear hw6 f4 c4
          go_wp2_with fail
          go_loopw [9] (fun kv wr => ∃ k : Nat, kv = .int .i64 (k : Int) ∧ k ≤ n - p + 1 ∧ Hid (Rs n gl gr (gr + 1) LG (fun x => if x = p then Lz.rm (Lz.cpd n R) p i0 k else FR x) (fun x => if x = p then Lz.cpd n R p else FC x) w wr)) (fun kv _ => n + 1 - p - (intOf kv).toNat)
          case atStart => exact ⟨0, by simp, by omega, HR0⟩
          case round =>
            obtain ⟨k, rfl, hk, hr2⟩ := hrel
            clear HR0
            by_cases hc : p + k ≤ n
            · obtain ⟨q, hq⟩ : ∃ q, p + k = q := ⟨_, rfl⟩
              have hqI : (p : Int) + (k : Int) = (q : Int) := by omega
              have hqm : (q : Int) < (m : Int) := by omega
              have hqw : IntKind.i64.wrap (q : Int) = (q : Int) := by
                simp only [IntKind.wrap_i64]
                omega
              have hqn : (q : Int) ≤ (n : Int) := by omega
              have v2 := (hr2.out.cells q (by omega)).2.2.1
              have v3 := (hr2.out.cells p hpn).2.1
              have v4 := (hr2.out.cells p hpn).2.2.2.1
              have hB : (if q = p then Lz.cpd n R p else FC q) = Lz.cpd n R q := by
                by_cases e : q = p
                · rw [if_pos e, e]
                · rw [if_neg e]
                  exact (HFX.out q (by omega) (by omega)).2
              have hBle : Lz.cpd n R q ≤ 1099511627776 := Lz.cpd_le n R q (by omega) (by have := HX.out.2.1 q; omega) hn4
              rw [hB] at v2
              rw [if_pos rfl] at v3
              have hrm : Lz.rm (Lz.cpd n R) p i0 (k + 1) = min (Lz.rm (Lz.cpd n R) p i0 k) (1 + Lz.lenz k + k + Lz.cpd n R q) := by
                rw [Lz.rm, hq]
              obtain ⟨A, hA⟩ : ∃ A, Lz.rm (Lz.cpd n R) p i0 k = A := ⟨_, rfl⟩
              obtain ⟨B, hBB⟩ : ∃ B, Lz.cpd n R q = B := ⟨_, rfl⟩
              obtain ⟨L, hL⟩ : ∃ L, Lz.lenz k = L := ⟨_, rfl⟩
              have hLle : L ≤ 4097 := by
                have := Lz.lenz_le k
                omega
              have HB := Hid.mk' (fun w => refBytesOf_any k w (by omega))
              rw [hL] at HB
              rw [hA] at v3 hrm
              rw [hBB] at v2 hrm hBle
              rw [hL] at hrm
              obtain ⟨M, hM⟩ : ∃ M, min A (1 + L + k + B) = M := ⟨_, rfl⟩
              have hMI : min (A : Int) (1 + (L : Int) + (k : Int) + (B : Int)) = (M : Int) := by omega
              have hw1 : IntKind.i64.wrap (1 + (L : Int)) = 1 + (L : Int) := by
                simp only [IntKind.wrap_i64]
                omega
              have hw2 : IntKind.i64.wrap (1 + (L : Int) + (k : Int)) = 1 + (L : Int) + (k : Int) := by
                simp only [IntKind.wrap_i64]
                omega
              have hw3 : IntKind.i64.wrap (1 + (L : Int) + (k : Int) + (B : Int)) = 1 + (L : Int) + (k : Int) + (B : Int) := by
                simp only [IntKind.wrap_i64]
                omega
              have HM := Hid.mk' (hrm.trans hM)
              clear hB hA hBB hL hrm hM hq
              go_upto_block 5 with fail
              go_cut [9] (fun kv wc => kv = .int .i64 (k : Int) ∧ Hid (Rs n gl gr (gr + 1) LG (fun x => if x = p then Lz.rm (Lz.cpd n R) p i0 (k + 1) else FR x) (fun x => if x = p then Lz.cpd n R p else FC x) w wc))
              case first =>
                go_upto_region 17 with fail
                go_region_with (go_at_call 47; refine (HB.out _).mono ?_; rintro e w1 ⟨rfl, rfl⟩)
                all_goals
                  go_wp2_with fail
                  go_meet
                  refine ⟨rfl, ?_⟩
                  have h9 := ((hr2.out.putR p M).congr (show _ = fun x => if x = p then Lz.rm (Lz.cpd n R) p i0 (k + 1) else FR x by
                    funext x
                    by_cases e : x = p
                    · rw [if_pos e, if_pos e, HM.out]
                    · rw [if_neg e, if_neg e, if_neg e]) rfl).drew 1
                  exact h9
              case rest =>
                obtain ⟨rfl, hr3⟩ := hcut
                go_wp2
                refine ⟨⟨k + 1, by first | rfl | (congr 1; omega), by omega, hr3⟩, ?_⟩
                show n + 1 - p - ((k : Int) + 1).toNat < n + 1 - p - ((k : Int)).toNat
                omega
            · have hcI : ¬ (p : Int) + (k : Int) ≤ (n : Int) := by omega
              have hkk : k = n - p + 1 := by omega
              have hre : Lz.rm (Lz.cpd n R) p i0 k = (Lz.wv n R p).1 := by
                have := Lz.rest_eq n R HX.out.2.2.1 p hpn hn4
                rw [hkk, ← HI0.out.2.2, ← HI0.out.2.1, ← HI0.out.1]
                exact this
              have HRE := Hid.mk' hre
              clear hre
              go_wp2
              refine ⟨⟨(p : Int) - 1, _, _, rfl, by omega, by omega, ⟨hr2.out, fun x hx1 hx2 => ?_⟩⟩, ?_⟩
              · by_cases e : x = p
                · rw [if_pos e, if_pos e, e]
                  exact ⟨HRE.out, rfl⟩
                · rw [if_neg e, if_neg e]
                  exact HFX.out x hx1 (by omega)
              · show ((p : Int) - 1 + 1).toNat < ((p : Int) + 1).toNat
                omega
  case rest =>
    rename World => w5
    clear HST
    have hwl : ∀ x, (waysOf s).getD x (0, 0, 0) = Lz.wv n R x := fun x => by
      unfold waysOf Lz.wv
      rw [HX.out.2.2.2.2.2.2.1, HX.out.2.2.2.2.2.1, HX.out.2.2.2.2.2.2.1]
    have HWL := Hid.mk' hwl
    have hsl : (Sums.bl s).length = n := by rw [HX.out.2.2.2.2.2.2.2, HX.out.2.2.2.2.2.2.1]
    have HSL := Hid.mk' hsl
    clear hwl hsl
    go_wp2_with fail
    go_loopw [10, 11] (fun ov av wr => ∃ (C : List Lz.Cp) (c a : Nat), av = .int .i64 (a : Int) ∧ a ≤ n ∧ Hid (UrR (Sums.bl s) (waysOf s) n gl gr (gr + 1) LG (fun x => (Lz.wv n R x).1) (Lz.cpd n R) w ov C c a wr)) (fun _ av _ => n + 1 - (intOf av).toNat)
    case atStart => exact ⟨[], 0, 0, by simp, by omega, ⟨World.ownsRow_nil _ _ _ _, rfl, ⟨n + 1, by rw [HSL.out]; omega, by rw [List.nil_append, HSL.out]⟩, hcut.out, by omega⟩⟩
    case round =>
      obtain ⟨C, c, a, rfl, han, hur⟩ := hrel
      clear hcut
      obtain ⟨b, cap2, rfl⟩ := row_shape hur.out.row
      obtain ⟨K, hK⟩ : ∃ K, K = if (Lz.wv n R a).2.2 = 0 then n - a else (Lz.wv n R a).2.1 := ⟨_, rfl⟩
      obtain ⟨k1, k2, k3⟩ := Lz.read_k n R HX.out.2.2.1 a han hn4 K hK
      have HK := Hid.mk' (And.intro hK (And.intro k2 k3))
      have hanI : (a : Int) ≤ (n : Int) := by omega
      clear hK k2 k3
      go_upto_block 8 with fail
      go_cut [12] (fun kv wc => kv = .int .i64 (K : Int) ∧ Hid (∃ j, wc = wr.drewN j))
      case first =>
        go_wp2_with fail
        go_loopw [12] (fun kv wq => ∃ k : Nat, kv = .int .i64 (k : Int) ∧ k ≤ K ∧ Hid (∃ j, wq = wr.drewN j)) (fun kv _ => K - (intOf kv).toNat)
        case atStart => exact ⟨0, by simp, by omega, ⟨0, rfl⟩⟩
        case round =>
          obtain ⟨k, rfl, hk, hwq⟩ := hrel
          rename World => wq
          have HRS : Hid (Rs n gl gr (gr + 1) LG (fun x => (Lz.wv n R x).1) (Lz.cpd n R) w wq) := by
            obtain ⟨j, rfl⟩ := hwq.out
            exact hur.out.rs.drew j
          obtain ⟨q, hq⟩ : ∃ q, a + k = q := ⟨_, rfl⟩
          have hqI : (a : Int) + (k : Int) = (q : Int) := by omega
          have hqm : (q : Int) < (m : Int) := by omega
          have hqw : IntKind.i64.wrap (q : Int) = (q : Int) := by
            simp only [IntKind.wrap_i64]
            omega
          obtain ⟨r, hr⟩ : ∃ r, n - a = r := ⟨_, rfl⟩
          have hrI : (n : Int) - (a : Int) = (r : Int) := by omega
          have v2 := (HRS.out.cells q (by omega)).2.2.1
          have v3 := (HRS.out.cells a (by omega)).2.1
          have hBle : Lz.cpd n R q ≤ 1099511627776 := Lz.cpd_le n R q (by omega) (by have := HX.out.2.1 q; omega) hn4
          have hcs : k < K → 1 + Lz.lenz k + k + Lz.cpd n R q ≠ (Lz.wv n R a).1 := fun h => by
            rw [← hq]
            exact HK.out.2.1 k h
          have hce : k = K → k < r → 1 + Lz.lenz k + k + Lz.cpd n R q = (Lz.wv n R a).1 := fun h h2 => by
            have h3 : (Lz.wv n R a).2.2 ≠ 0 := fun h4 => by
              have := HK.out.1
              rw [if_pos h4] at this
              omega
            rw [← hq, h]
            exact (HK.out.2.2 h3).2.1
          obtain ⟨A, hA⟩ : ∃ A, (Lz.wv n R a).1 = A := ⟨_, rfl⟩
          obtain ⟨B, hBB⟩ : ∃ B, Lz.cpd n R q = B := ⟨_, rfl⟩
          obtain ⟨L, hL⟩ : ∃ L, Lz.lenz k = L := ⟨_, rfl⟩
          have hLle : L ≤ 4097 := by
            have := Lz.lenz_le k
            omega
          have HB := Hid.mk' (fun w => refBytesOf_any k w (by omega))
          rw [hL] at HB hcs hce
          rw [hA] at v3 hcs hce
          rw [hBB] at v2 hcs hce hBle
          have hw1 : IntKind.i64.wrap (1 + (L : Int)) = 1 + (L : Int) := by
            simp only [IntKind.wrap_i64]
            omega
          have hw2 : IntKind.i64.wrap (1 + (L : Int) + (k : Int)) = 1 + (L : Int) + (k : Int) := by
            simp only [IntKind.wrap_i64]
            omega
          have hw3 : IntKind.i64.wrap (1 + (L : Int) + (k : Int) + (B : Int)) = 1 + (L : Int) + (k : Int) + (B : Int) := by
            simp only [IntKind.wrap_i64]
            omega
          have HCS := Hid.mk' (And.intro hcs hce)
          have hKr : K ≤ r := by omega
          clear hcs hce hA hBB hL hr hq
          go_upto_region 21 with fail
          go_cut [122] (fun bv wc => bv = .bool (decide (k < K)) ∧ Hid (∃ j, wc = wr.drewN j))
          case first =>
            by_cases hkr : k < r
            · have hkrI : (k : Int) < (r : Int) := by omega
              have hne : (1 + (L : Int) + (k : Int) + (B : Int) == (A : Int)) = !decide (k < K) := by
                by_cases h : k < K
                · have := HCS.out.1 h
                  rw [decide_eq_true h]
                  simp
                  omega
                · have := HCS.out.2 (by omega) hkr
                  rw [decide_eq_false h]
                  simp
                  omega
              go_quiet ((go_at_call 47; exact Calls.quiet_of_same (HB.out _)))
              go_wp2_with (go_at_call 47; refine (HB.out _).mono ?_; rintro e w1 ⟨rfl, rfl⟩)
              go_meet
              refine ⟨?_, ?_⟩
              · simp only [bne, hne, Bool.not_not]
              · obtain ⟨j, rfl⟩ := hwq.out
                exact ⟨j + nq, World.drewN_drewN _ _ _⟩
            · have hkrI : ¬ (k : Int) < (r : Int) := by omega
              have hkK : decide (k < K) = false := decide_eq_false (by omega)
              go_quiet ((go_at_call 47; exact Calls.quiet_of_same (HB.out _)))
              go_wp2_with fail
              go_meet
              refine ⟨?_, ?_⟩
              · rw [hkK]
              · obtain ⟨j, rfl⟩ := hwq.out
                exact ⟨j + nq, World.drewN_drewN _ _ _⟩
          case rest =>
            obtain ⟨rfl, hwc⟩ := hcut
            by_cases hkK : k < K
            · rw [decide_eq_true hkK]
              go_wp2
              refine ⟨⟨k + 1, by first | rfl | (congr 1; omega), by omega, hwc⟩, ?_⟩
              show K - ((k : Int) + 1).toNat < K - ((k : Int)).toNat
              omega
            · rw [decide_eq_false hkK]
              go_wp2
              go_meet
              exact ⟨by rw [show k = K by omega], hwc⟩
      case rest =>
        obtain ⟨rfl, hwq⟩ := hcut
        rename World => wq
        have HUR : Hid (UrR (Sums.bl s) (waysOf s) n gl gr (gr + 1) LG (fun x => (Lz.wv n R x).1) (Lz.cpd n R) w (.slice b c cap2) C c a wq) := by
          obtain ⟨j, rfl⟩ := hwq.out
          exact ⟨hur.out.row, hur.out.len, hur.out.eq, hur.out.rs.drew j, hur.out.lim⟩
        clear hwq hur
        obtain ⟨f, hf, heq⟩ := HUR.out.eq
        rw [HSL.out] at hf
        obtain ⟨f, rfl⟩ : ∃ f1, f = f1 + 1 := ⟨f - 1, by omega⟩
        rw [Lz.unrF, HWL.out a] at heq
        obtain ⟨p, hp⟩ : ∃ p, a + K = p := ⟨_, rfl⟩
        have hpI : (a : Int) + (K : Int) = (p : Int) := by omega
        by_cases hz : (Lz.wv n R a).2.2 = 0
        · have hKn : p = n := by
            have := HK.out.1
            rw [if_pos hz] at this
            omega
          have hge : (n : Int) ≤ (p : Int) := by omega
          have hgeB : decide ((n : Int) ≤ (p : Int)) = true := by simp; omega
          rw [if_pos hz, List.append_nil] at heq
          have HE := Hid.mk' heq
          clear heq hf hz hp hKn
          go_wp2
          go_ret
          refine ⟨_, rfl, ?_, HUR.out.rs.bel⟩
          have := HE.out
          rw [HSL.out] at this
          have hb3 : best3 s = Lz.unrF (Sums.bl s) (waysOf s) (n + 1) 0 := by
            unfold best3
            rw [HX.out.2.2.2.2.2.2.1]
          rw [hb3, ← this]
          exact cprR_of HUR.out.row HUR.out.len
        · obtain ⟨k4, k5, k6⟩ := HK.out.2.2 hz
          rw [hp] at k4 k5 k6
          have hKw : K = (Lz.wv n R a).2.1 := by
            have := HK.out.1
            rw [if_neg hz] at this
            exact this
          obtain ⟨M, hM⟩ : ∃ M, (Lz.wv n R a).2.2 = M := ⟨_, rfl⟩
          rw [hM] at k6 hz heq
          rw [if_neg hz, ← hKw, hp] at heq
          obtain ⟨m1, m2, m3, m4⟩ := Lz.read_m n R p (by omega) M k6 hz
          have hlgp : LG p = R p := by
            have := HX.out.1 p
            split at this
            · exact this.symm
            · omega
          obtain ⟨lp, hlp⟩ : ∃ lp, R p = lp := ⟨_, rfl⟩
          rw [hlp] at hlgp m2 m4
          have hlpn : p + lp ≤ n := by
            have := HX.out.2.1 p
            rw [hlp] at this
            omega
          have hlt : ¬ (n : Int) ≤ (p : Int) := by omega
          have hltB : decide ((n : Int) ≤ (p : Int)) = false := by simp; omega
          have hpm : (p : Int) < (m : Int) := by omega
          have hpw : IntKind.i64.wrap (p : Int) = (p : Int) := by
            simp only [IntKind.wrap_i64]
            omega
          have v1 := (HUR.out.rs.cells p (by omega)).1
          rw [hlgp] at v1
          have hpn : p + 12 ≤ n := k4
          have hnear : ∃ off, 1 ≤ off ∧ off ≤ p ∧ ((Sums.bl s).drop (p - off)).take M = ((Sums.bl s).drop p).take M := by
            rcases Lz.rch_ok (Sums.bl s) (s.size - 1) p with h | ⟨r1, r2, off, r3, r4, r5, r6⟩
            · rw [← HX.out.2.2.2.2.2.1, hlp] at h
              omega
            · rw [← HX.out.2.2.2.2.2.1, hlp] at r6
              exact ⟨off, r3, r4, Lz.agree_take (Sums.bl s) (p - off) p M (by omega) (by omega)⟩
          obtain ⟨off, o1, o2, o3⟩ := hnear
          have HNE := Hid.mk' (fun w => refNearest_any s p M off w hs o1 o2 (by have := HX.out.2.2.2.2.2.2.1; omega) o3)
          obtain ⟨lo, hlo⟩ : ∃ lo, Lz.leastF (Sums.bl s) p M p 1 = lo := ⟨_, rfl⟩
          rw [hlo] at HNE heq
          have hlob : lo ≤ 4097 := by rw [← hlo]; have := Lz.leastF_le (Sums.bl s) p M p 1; omega
          have HE := Hid.mk' heq
          have HMM := Hid.mk' (And.intro m3 m4)
          have hlim := HUR.out.lim
          have HF := Hid.mk' hf
          clear heq hf hz k4 k5 k6 hKw hM m3 m4 hlgp hlp o1 o2 o3 hlo
          go_upto_block 10 with fail
          go_cut [14] (fun mv wc => mv = .int .i64 (M : Int) ∧ Hid (∃ j, wc = wq.drewN j))
          case first =>
            go_wp2_with fail
            go_loopw [14] (fun mv wx => ∃ q : Nat, mv = .int .i64 (q : Int) ∧ M ≤ q ∧ q ≤ lp ∧ Hid (∃ j, wx = wq.drewN j)) (fun mv _ => (intOf mv).toNat)
            case atStart => exact ⟨lp, rfl, m2, Nat.le_refl _, ⟨0, rfl⟩⟩
            case round =>
              obtain ⟨q, rfl, hq1, hq2, hwx⟩ := hrel
              rename World => wx
              have HRS : Hid (Rs n gl gr (gr + 1) LG (fun x => (Lz.wv n R x).1) (Lz.cpd n R) w wx) := by
                obtain ⟨j, rfl⟩ := hwx.out
                exact HUR.out.rs.drew j
              obtain ⟨y, hy⟩ : ∃ y, p + q = y := ⟨_, rfl⟩
              have hyI : (p : Int) + (q : Int) = (y : Int) := by omega
              have hym : (y : Int) < (m : Int) := by omega
              have hyw : IntKind.i64.wrap (y : Int) = (y : Int) := by
                simp only [IntKind.wrap_i64]
                omega
              obtain ⟨d, hd⟩ : ∃ d, q - 4 = d := ⟨_, rfl⟩
              have hdI : (q : Int) - 4 = (d : Int) := by omega
              have hdw : IntKind.i64.wrap (d : Int) = (d : Int) := by
                simp only [IntKind.wrap_i64]
                omega
              have v2 := (HRS.out.cells y (by omega)).2.1
              have v3 := (HRS.out.cells p (by omega)).2.2.1
              have hBle := Lz.wv_cost n R y
              have hcs : M < q → 2 + Lz.lenz d + (Lz.wv n R y).1 ≠ Lz.cpd n R p := fun h => by
                rw [← hy, ← hd]
                exact HMM.out.2 q h hq2
              have hce : M = q → 2 + Lz.lenz d + (Lz.wv n R y).1 = Lz.cpd n R p := fun h => by
                rw [← hy, ← hd, ← h]
                exact HMM.out.1
              have hAle : Lz.cpd n R p ≤ 1099511627776 := Lz.cpd_le n R p (by omega) (by have := HX.out.2.1 p; omega) hn4
              obtain ⟨A, hA⟩ : ∃ A, Lz.cpd n R p = A := ⟨_, rfl⟩
              obtain ⟨B, hBB⟩ : ∃ B, (Lz.wv n R y).1 = B := ⟨_, rfl⟩
              obtain ⟨L, hL⟩ : ∃ L, Lz.lenz d = L := ⟨_, rfl⟩
              have hLle : L ≤ 4097 := by
                have := Lz.lenz_le d
                omega
              have HB := Hid.mk' (fun w => refBytesOf_any d w (by omega))
              rw [hL] at HB hcs hce
              rw [hA] at v3 hcs hce hAle
              rw [hBB] at v2 hcs hce hBle
              have hw1 : IntKind.i64.wrap (2 + (L : Int)) = 2 + (L : Int) := by
                simp only [IntKind.wrap_i64]
                omega
              have hw2 : IntKind.i64.wrap (2 + (L : Int) + (B : Int)) = 2 + (L : Int) + (B : Int) := by
                simp only [IntKind.wrap_i64]
                omega
              have HCS := Hid.mk' (And.intro hcs hce)
              clear hcs hce hA hBB hL hd hy
              go_upto_region 27 with fail
              go_cut [151] (fun bv wc => bv = .bool (decide (M < q)) ∧ Hid (∃ j, wc = wq.drewN j))
              case first =>
                have hne : (2 + (L : Int) + (B : Int) == (A : Int)) = !decide (M < q) := by
                  by_cases h : M < q
                  · have := HCS.out.1 h
                    rw [decide_eq_true h]
                    simp
                    omega
                  · have := HCS.out.2 (by omega)
                    rw [decide_eq_false h]
                    simp
                    omega
                go_quiet ((go_at_call 47; exact Calls.quiet_of_same (HB.out _)))
                go_wp2_with (go_at_call 47; refine (HB.out _).mono ?_; rintro e w1 ⟨rfl, rfl⟩)
                go_meet
                refine ⟨?_, ?_⟩
                · simp only [bne, hne, Bool.not_not]
                · obtain ⟨j, rfl⟩ := hwx.out
                  exact ⟨j + nq, World.drewN_drewN _ _ _⟩
              case rest =>
                obtain ⟨rfl, hwc⟩ := hcut
                by_cases hqM : M < q
                · rw [decide_eq_true hqM]
                  have hq1w : (q : Int) - 1 = ((q - 1 : Nat) : Int) := by omega
                  go_wp2
                  refine ⟨⟨q - 1, by first | rfl | (congr 1; omega), by omega, by omega, hwc⟩, ?_⟩
                  show (((q - 1 : Nat) : Int)).toNat < ((q : Int)).toNat
                  omega
                · rw [decide_eq_false hqM]
                  go_wp2
                  go_meet
                  exact ⟨by rw [show q = M by omega], hwc⟩
          case rest =>
            obtain ⟨rfl, hwx⟩ := hcut
            rename World => wx
            have HU : Hid (UrR (Sums.bl s) (waysOf s) n gl gr (gr + 1) LG (fun x => (Lz.wv n R x).1) (Lz.cpd n R) w (.slice b c cap2) C c a wx) := by
              obtain ⟨j, rfl⟩ := hwx.out
              exact ⟨HUR.out.row, HUR.out.len, HUR.out.eq, HUR.out.rs.drew j, HUR.out.lim⟩
            obtain ⟨i0, hi, hz0, hz1, hz2⟩ := info_parts infoR
            obtain ⟨q, hq⟩ : ∃ q, p + M = q := ⟨_, rfl⟩
            have hqI : (p : Int) + (M : Int) = (q : Int) := by omega
            have hcC : c ≤ 4096 := by omega
            have hsz : w.heap.size ≤ wx.heap.size := HU.out.rs.bel.size
            have HPQ := Hid.mk' (And.intro hp hq)
            clear hwx HUR v1 hp hq
            rw [HPQ.out.2] at HE
            go_wp2_with (first | (go_at_call 48; refine (HNE.out _).mono ?_; rintro e w7 ⟨rfl, j7, hw7⟩; have HU7 : Hid (UrR (Sums.bl s) (waysOf s) n gl gr (gr + 1) LG (fun x => (Lz.wv n R x).1) (Lz.cpd n R) w (.slice b c cap2) C c a w7) := (by rw [hw7]; exact ⟨HU.out.row, HU.out.len, HU.out.eq, HU.out.rs.drew j7, HU.out.lim⟩); have hsz7 : w.heap.size ≤ w7.heap.size := HU7.out.rs.bel.size; clear hw7) | (at_builtin; refine wpList_append_own _ rfl _ _ 55 rfl w.heap.size 85 i0 _ 3 24 Try.underlying55 hi hz0 hz1 hz2 rfl (by decide) (.slice b c cap2) c (cpv C) rfl (by exact (HU7.out.row.alloc _)) ⟨w7.heap.size, 0, none⟩ 1 1 [.int .i64 (p : Int), .int .i64 (lo : Int), .int .i64 (M : Int)] rfl rfl (n3_news _ _ _ _ _) (cp_one _ _ _) (by unfold maxLen; omega) (by omega) (by simp; omega) ?_; intro v8 w8 hown8 hgrow8 _; have HO8 := Hid.mk' hown8; have HG8 := Hid.mk' hgrow8; obtain ⟨b8, cap8, rfl⟩ := row_shape hown8; clear hown8 hgrow8) | fail)
            go_roundw
            case rel =>
              have h1 := HPQ.out.1
              have h2 := HPQ.out.2
              have h3 := HU7.out.len
              have h4 := HF.out
              exact ⟨C ++ [⟨p, lo, M⟩], c + 1, q, rfl, by omega, Hid.mk' ⟨by rw [cpv_append]; exact HO8.out, by simp; omega, ⟨f, by rw [HSL.out]; omega, by rw [List.append_assoc]; exact HE.out⟩, HU7.out.rs.grow HU7.out.row HG8.out, by omega⟩⟩
            case measure =>
              have h1 := HPQ.out.1
              have h2 := HPQ.out.2
              simp [intOf]
              omega
end Go.Proofs.Ytchjmhgalbkjkaa
