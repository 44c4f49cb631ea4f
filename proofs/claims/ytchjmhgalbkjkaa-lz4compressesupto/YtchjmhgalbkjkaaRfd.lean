/-
  The document's longest. Conditions: the text has at most 4096 bytes.
-/
import Derived.Test.YtchjmhgalbkjkaaRfc
import Derived.Test.YtchjmhgalbkjkaaLvpk
import Derived.Deep.DeepCutAuto
namespace Lz
/-- the greatest agreement with a place below one -/
def mxA (bs : List Nat) (p : Nat) : Nat → Nat
  | 0 => 0
  | k + 1 => max (mxA bs p k) (agree bs k p)
def lg (bs : List Nat) (p : Nat) : Nat := if p + 12 ≤ bs.length then mxA bs p p else 0
theorem mxA_ge (bs : List Nat) (p : Nat) : ∀ (k c : Nat), c < k → agree bs c p ≤ mxA bs p k
  | 0, c, h => by omega
  | k + 1, c, h => by
    rw [mxA]
    by_cases e : c = k
    · subst e
      exact Nat.le_max_right _ _
    · exact Nat.le_trans (mxA_ge bs p k c (by omega)) (Nat.le_max_left _ _)
theorem mxA_at (bs : List Nat) (p : Nat) : ∀ (k : Nat), mxA bs p k = 0 ∨ ∃ c, c < k ∧ mxA bs p k = agree bs c p
  | 0 => .inl rfl
  | k + 1 => by
    rw [mxA]
    rcases Nat.le_total (mxA bs p k) (agree bs k p) with h | h
    · rw [Nat.max_eq_right h]
      exact .inr ⟨k, by omega, rfl⟩
    · rw [Nat.max_eq_left h]
      rcases mxA_at bs p k with h0 | ⟨c, h1, h2⟩
      · exact .inl h0
      · exact .inr ⟨c, by omega, h2⟩
theorem rch_lg (bs : List Nat) (p : Nat) : rch bs (bs.length - 1) p = if 4 ≤ lg bs p then lg bs p else 0 := by
  by_cases h12 : p + 12 ≤ bs.length
  · have hl : lg bs p = mxA bs p p := by unfold lg; rw [if_pos h12]
    rw [hl]
    have hle : rch bs (bs.length - 1) p ≤ mxA bs p p := by
      rcases rch_ok bs (bs.length - 1) p with h | ⟨_, _, off, h1, h2, _, h4⟩
      · omega
      · rw [h4]
        exact mxA_ge bs p p (p - off) (by omega)
    by_cases h4 : 4 ≤ mxA bs p p
    · rw [if_pos h4]
      rcases mxA_at bs p p with h0 | ⟨c, hc, he⟩
      · omega
      · have := rch_max bs (bs.length - 1) p (p - c) (by omega) (by omega) (by omega) h12 (by rw [show p - (p - c) = c by omega, ← he]; exact h4)
        rw [show p - (p - c) = c by omega, ← he] at this
        omega
    · rw [if_neg h4]
      rcases rch_ok bs (bs.length - 1) p with h | ⟨h1, _⟩
      · exact h
      · omega
  · have hl : lg bs p = 0 := by unfold lg; rw [if_neg h12]
    rw [hl, if_neg (by omega)]
    rcases rch_ok bs (bs.length - 1) p with h | ⟨_, h2, _⟩
    · exact h
    · omega
theorem mxA_le (bs : List Nat) (p k : Nat) : mxA bs p k ≤ bs.length - 5 - p := by
  rcases mxA_at bs p k with h | ⟨c, _, h⟩
  · omega
  · rw [h]
    exact agree_le bs c p
end Lz
namespace Go.Proofs.Ytchjmhgalbkjkaa
open Go.RowKit
set_option linter.unusedVariables false
/-- outside: places above are done -/
structure Lo (bs : List Nat) (n g0 gr : Nat) (pI : Int) (w0 w : World) : Prop where
  out : w.heap[g0]? = some (.cells (rowN (fun x => if pI < (x : Int) then Lz.lg bs x else 0) (n + 1)).toArray 3 (0, 0))
  row : ∃ F : Nat → Nat, w.heap[gr]? = some (.cells (rowN F (n + 1)).toArray 3 (0, 0)) ∧ ∀ c : Nat, (c : Int) ≤ pI → F c = Lz.agree bs c (pI.toNat + 1)
  bel : Below w0.heap.size w0 w
  ge : w0.heap.size ≤ g0 ∧ g0 < gr
/-- inside: so many places are held against one -/
structure Li (bs : List Nat) (n g0 gr gn p c : Nat) (w0 w : World) : Prop where
  out : w.heap[g0]? = some (.cells (rowN (fun x => if x = p then (if p + 12 ≤ n then Lz.mxA bs p c else 0) else if p < x then Lz.lg bs x else 0) (n + 1)).toArray 3 (0, 0))
  row : ∃ F : Nat → Nat, w.heap[gr]? = some (.cells (rowN F (n + 1)).toArray 3 (0, 0)) ∧ ∀ c : Nat, c ≤ p → F c = Lz.agree bs c (p + 1)
  now : ∃ F : Nat → Nat, w.heap[gn]? = some (.cells (rowN F (n + 1)).toArray 3 (0, 0)) ∧ (∀ x : Nat, x < c → F x = Lz.agree bs x p) ∧ ∀ x, c ≤ x → F x = 0
  bel : Below w0.heap.size w0 w
  ge : w0.heap.size ≤ g0 ∧ g0 < gr ∧ gr < gn
theorem Li.drew {bs : List Nat} {n g0 gr gn p c : Nat} {w0 w : World} (h : Li bs n g0 gr gn p c w0 w) (k : Nat) : Li bs n g0 gr gn p c w0 (w.drewN k) := ⟨h.out, h.row, h.now, h.bel.drewN' k, h.ge⟩
theorem set_other (w : World) (g k o : Nat) (u : Value) (h : k ≠ g) : (w.setCell ⟨g, o, none⟩ u).heap[k]? = w.heap[k]? := by
  simp only [World.setCell, Array.getElem?_modify]
  rw [if_neg (by omega)]
/-- now[c] is laid -/
structure Lm (bs : List Nat) (n g0 gr gn p c : Nat) (w0 w : World) : Prop where
  out : w.heap[g0]? = some (.cells (rowN (fun x => if x = p then (if p + 12 ≤ n then Lz.mxA bs p c else 0) else if p < x then Lz.lg bs x else 0) (n + 1)).toArray 3 (0, 0))
  row : ∃ F : Nat → Nat, w.heap[gr]? = some (.cells (rowN F (n + 1)).toArray 3 (0, 0)) ∧ ∀ c : Nat, c ≤ p → F c = Lz.agree bs c (p + 1)
  now : ∃ F : Nat → Nat, w.heap[gn]? = some (.cells (rowN F (n + 1)).toArray 3 (0, 0)) ∧ (∀ x : Nat, x < c + 1 → F x = Lz.agree bs x p) ∧ ∀ x, c + 1 ≤ x → F x = 0
  bel : Below w0.heap.size w0 w
  ge : w0.heap.size ≤ g0 ∧ g0 < gr ∧ gr < gn
theorem Li.same {bs : List Nat} {n g0 gr gn p c : Nat} {w0 w : World} (h : Li bs n g0 gr gn p c w0 w) (h0 : Lz.agree bs c p = 0) : Lm bs n g0 gr gn p c w0 w := by
  obtain ⟨F, f1, f2, f3⟩ := h.now
  refine ⟨h.out, h.row, ⟨F, f1, fun x hx => ?_, fun x hx => f3 x (by omega)⟩, h.bel, h.ge⟩
  by_cases e : x = c
  · subst e
    rw [h0]
    exact f3 x (Nat.le_refl _)
  · exact f2 x (by omega)
theorem Li.put {bs : List Nat} {n g0 gr gn p c v : Nat} {w0 w : World} (h : Li bs n g0 gr gn p c w0 w) (hv : v = Lz.agree bs c p) : Lm bs n g0 gr gn p c w0 (w.setCell ⟨gn, c, none⟩ (.int .i64 (v : Int))) := by
  obtain ⟨F, f1, f2, f3⟩ := h.now
  obtain ⟨G, g1, g2⟩ := h.row
  have hge := h.ge
  refine ⟨(set_other w gn g0 c _ (by omega)).trans h.out, ⟨G, (set_other w gn gr c _ (by omega)).trans g1, g2⟩, ⟨_, rowN_put f1 c v, fun x hx => ?_, fun x hx => ?_⟩, below_setc h.bel (by omega) c _, h.ge⟩
  · by_cases e : x = c
    · rw [if_pos e, e]
      exact hv
    · rw [if_neg e]
      exact f2 x (by omega)
  · rw [if_neg (by omega)]
    exact f3 x (by omega)
theorem Lm.keep {bs : List Nat} {n g0 gr gn p c : Nat} {w0 w : World} (h : Lm bs n g0 gr gn p c w0 w) (hc : p + 12 ≤ n → Lz.agree bs c p ≤ Lz.mxA bs p c) (k : Nat) : Li bs n g0 gr gn p (c + 1) w0 (w.drewN k) := by
  refine ⟨?_, h.row, h.now, h.bel.drewN' k, h.ge⟩
  have e : (fun x => if x = p then (if p + 12 ≤ n then Lz.mxA bs p (c + 1) else 0) else if p < x then Lz.lg bs x else 0) = (fun x => if x = p then (if p + 12 ≤ n then Lz.mxA bs p c else 0) else if p < x then Lz.lg bs x else 0) := by
    funext x
    by_cases e1 : p + 12 ≤ n
    · rw [if_pos e1, if_pos e1, Lz.mxA, Nat.max_eq_left (hc e1)]
    · rw [if_neg e1, if_neg e1]
  show w.heap[g0]? = _
  rw [e]
  exact h.out
theorem Lm.more {bs : List Nat} {n g0 gr gn p c v : Nat} {w0 w : World} (h : Lm bs n g0 gr gn p c w0 w) (hv : v = Lz.agree bs c p) (h12 : p + 12 ≤ n) (hc : Lz.mxA bs p c < v) (k : Nat) : Li bs n g0 gr gn p (c + 1) w0 ((w.drewN k).setCell ⟨g0, p, none⟩ (.int .i64 (v : Int))) := by
  obtain ⟨F, f1, f2, f3⟩ := h.now
  obtain ⟨G, g1, g2⟩ := h.row
  have hge := h.ge
  refine ⟨?_, ⟨G, (set_other (w.drewN k) g0 gr p _ (by omega)).trans g1, g2⟩, ⟨F, (set_other (w.drewN k) g0 gn p _ (by omega)).trans f1, f2, f3⟩, below_setc (h.bel.drewN' k) (by omega) p _, h.ge⟩
  rw [rowN_put (w := w.drewN k) h.out p v]
  have e : (fun x => if x = p then v else if x = p then (if p + 12 ≤ n then Lz.mxA bs p c else 0) else if p < x then Lz.lg bs x else 0) = (fun x => if x = p then (if p + 12 ≤ n then Lz.mxA bs p (c + 1) else 0) else if p < x then Lz.lg bs x else 0) := by
    funext x
    by_cases e1 : x = p
    · rw [if_pos e1, if_pos e1, if_pos h12, Lz.mxA, ← hv, Nat.max_eq_right (by omega)]
    · rw [if_neg e1, if_neg e1, if_neg e1]
  rw [e]
set_option maxRecDepth 100000 in
set_option maxHeartbeats 2000000 in
theorem refLongest_any (s : ByteArray) (w : World) (hs : s.size ≤ 4096) :
    Calls Try.prog 46 #[.string s] w fun e w' => ∃ g, e = .returned (.slice (some ⟨g, 0, none⟩) (s.size + 1) (s.size + 1)) ∧ w.heap.size ≤ g ∧ w'.heap[g]? = some (.cells (rowN (Lz.lg (Sums.bl s)) (s.size + 1)).toArray 3 (0, 0)) ∧ Below w.heap.size w w' := by
  have hsl := Sums.bl_length s
  obtain ⟨m, hm⟩ : ∃ m, s.size + 1 = m := ⟨_, rfl⟩
  have hmI : (s.size : Int) + 1 = (m : Int) := by omega
  have hms := make_rowN m (by omega)
  have HM := Hid.mk' (And.intro hm hsl)
  obtain ⟨w2, hw2⟩ : ∃ w2, (w.alloc (.cells (rowN (fun _ => 0) m).toArray 3)).alloc (.cells (rowN (fun _ => 0) m).toArray 3) = w2 := ⟨_, rfl⟩
  have hst : Lo (Sums.bl s) s.size w.heap.size (w.heap.size + 1) ((s.size : Int) - 6) w w2 := by
    rw [← hw2]
    refine ⟨?_, ⟨fun _ => 0, ?_, fun c hc => ?_⟩, ((Below.refl _ _).alloc (Nat.le_refl _) _).alloc (by simp) _, Nat.le_refl _, by omega⟩
    · have e : (fun x : Nat => if (s.size : Int) - 6 < (x : Int) then Lz.lg (Sums.bl s) x else 0) = fun _ => 0 := by
        funext x
        split
        · unfold Lz.lg
          rw [if_neg (by omega)]
        · rfl
      rw [e, Below.heap_alloc _ _ _ (by simp), hm]
      exact heap_alloc_new w _
    · have := heap_alloc_new (w.alloc (.cells (rowN (fun _ => 0) m).toArray 3)) (.cells (rowN (fun _ => 0) m).toArray 3)
      rw [hm]
      simpa using this
    · rw [Lz.agree_stop _ _ _ (by omega)]
  have HST := Hid.mk' hst
  rw [hm]
  clear hst hm hsl
  go_enter Try.func46, Try.ntmps46
  go_wp2
  clear hw2
  have hms2 := hms
  go_loopw [4, 5] (fun rv pv wr => ∃ (gr : Nat) (pI : Int), rv = .slice (some ⟨gr, 0, none⟩) m m ∧ pv = .int .i64 pI ∧ -7 ≤ pI ∧ pI ≤ (s.size : Int) - 6 ∧ Hid (Lo (Sums.bl s) s.size w.heap.size gr pI w wr)) (fun _ pv _ => (intOf pv + 7).toNat)
  case atStart => exact ⟨w.heap.size + 1, (s.size : Int) - 6, rfl, by first | rfl | (congr 1; omega), by omega, by omega, HST⟩
  case round =>
    obtain ⟨gr, pI, rfl, rfl, hp1, hp2, hlo⟩ := hrel
    rename World => wo
    clear HST
    by_cases hp0 : pI < 0
    · go_wp2
      go_ret
      refine ⟨w.heap.size, by rfl, Nat.le_refl _, ?_, hlo.out.bel⟩
      have := hlo.out.out
      rw [HM.out.1] at this
      have e : (fun x : Nat => if pI < (x : Int) then Lz.lg (Sums.bl s) x else 0) = Lz.lg (Sums.bl s) := by
        funext x
        rw [if_pos (by omega)]
      rw [e] at this
      exact this
    · obtain ⟨p, rfl⟩ := Int.eq_ofNat_of_zero_le (show 0 ≤ pI by omega)
      have hp0I : ¬ (p : Int) < 0 := by omega
      have hps : p + 6 ≤ s.size := by omega
      obtain ⟨gn, hgn⟩ : ∃ gn, wo.heap.size = gn := ⟨_, rfl⟩
      obtain ⟨w3, hw3⟩ : ∃ w3, wo.alloc (.cells (rowN (fun _ => 0) m).toArray 3) = w3 := ⟨_, rfl⟩
      have hli : Li (Sums.bl s) s.size w.heap.size gr gn p 0 w w3 := by
        obtain ⟨F, f1, f2⟩ := hlo.out.row
        have hlt := (Array.getElem?_eq_some_iff.1 f1).1
        have hge := hlo.out.ge
        rw [← hw3, ← hgn]
        refine ⟨?_, ⟨F, (Below.heap_alloc _ _ _ hlt).trans f1, fun c hc => ?_⟩, ⟨fun _ => 0, ?_, fun x hx => by omega, fun x _ => rfl⟩, hlo.out.bel.alloc hlo.out.bel.size _, hge.1, hge.2, hlt⟩
        · rw [Below.heap_alloc _ _ _ (by omega)]
          have e : (fun x => if x = p then (if p + 12 ≤ s.size then Lz.mxA (Sums.bl s) p 0 else 0) else if p < x then Lz.lg (Sums.bl s) x else 0) = fun x : Nat => if (p : Int) < (x : Int) then Lz.lg (Sums.bl s) x else 0 := by
            funext x
            by_cases e1 : x = p
            · have hx : ¬ (p : Int) < (x : Int) := by omega
              rw [if_pos e1, if_neg hx]
              split <;> rfl
            · rw [if_neg e1]
              by_cases e2 : p < x
              · rw [if_pos e2, if_pos (by omega)]
              · rw [if_neg e2, if_neg (by omega)]
          rw [e]
          exact hlo.out.out
        · have := f2 c (by omega)
          simpa using this
        · rw [HM.out.1]
          exact heap_alloc_new wo _
      have HLI := Hid.mk' hli
      have hmm : s.size + 1 = m := HM.out.1
      have HMM := Hid.mk' hmm
      clear hli hmm hlo hp0 hp1 hp2
      go_wp2
      clear hw3 hgn
      go_loopw [7] (fun cv wr => ∃ c : Nat, cv = .int .i64 (c : Int) ∧ c ≤ p ∧ Hid (Li (Sums.bl s) s.size w.heap.size gr gn p c w wr)) (fun cv _ => p - (intOf cv).toNat)
      case atStart => exact ⟨0, by simp, by omega, HLI⟩
      case round =>
        obtain ⟨c, rfl, hcp, hli⟩ := hrel
        clear HLI hms2 hms
        by_cases hc : c < p
        · have hcI : (c : Int) < (p : Int) := by omega
          obtain ⟨x, hx⟩ : ∃ x, x = (Sums.bl s).getD c 0 := ⟨_, rfl⟩
          obtain ⟨y, hy⟩ : ∃ y, y = (Sums.bl s).getD p 0 := ⟨_, rfl⟩
          have hidx := idx_any s c x (by omega) hx
          have hidy := idx_any s p y (by omega) hy
          have hstep := Lz.agree_step (Sums.bl s) c p (by rw [HM.out.2]; omega) (by rw [HM.out.2]; omega)
          rw [← hx, ← hy] at hstep
          have HSTP := Hid.mk' hstep
          obtain ⟨e, he⟩ : ∃ e, decide (x = y) = e := ⟨_, rfl⟩
          have heI : ((x : Int) == (y : Int)) = e := by
            rw [← he]
            by_cases h : x = y
            · rw [decide_eq_true h]
              simp
              omega
            · rw [decide_eq_false h]
              simp
              omega
          have HE := Hid.mk' he
          clear hx hy hstep he
          go_upto_region 10 with fail
          go_cut [39] (fun bv wc => Hid (∃ j, wc = wr.drewN j) ∧ bv = .bool e)
          case first =>
            go_quiet (fail)
            go_wp2_with fail
            go_meet
            exact ⟨⟨nq, rfl⟩, rfl⟩
          case rest =>
            obtain ⟨hwc, rfl⟩ := hcut
            rename World => w4
            have HL4 : Hid (Li (Sums.bl s) s.size w.heap.size gr gn p c w w4) := by
              obtain ⟨j, rfl⟩ := hwc.out
              exact hli.out.drew j
            clear hwc hli hidx hidy heI
            obtain ⟨F, f1, f2⟩ := HL4.out.row
            obtain ⟨G, g1, g2, g3⟩ := HL4.out.now
            rw [HM.out.1] at f1 g1
            have hmc : c + 1 < m := by have := HM.out.1; omega
            obtain ⟨c1, hc1⟩ : ∃ c1, c + 1 = c1 := ⟨_, rfl⟩
            have hc1I : (c : Int) + 1 = (c1 : Int) := by omega
            have hc1m : (c1 : Int) < (m : Int) := by omega
            have hcm : (c : Int) < (m : Int) := by omega
            obtain ⟨k1, _⟩ := rowN_cell f1 c1 (by omega)
            obtain ⟨k2, k3⟩ := rowN_cell g1 c (by omega)
            have hF := f2 c1 (by omega)
            obtain ⟨A, hA⟩ : ∃ A, F c1 = A := ⟨_, rfl⟩
            rw [hA] at k1 hF
            have hAb : A ≤ 4096 := by
              have := Lz.agree_le (Sums.bl s) c1 (p + 1)
              rw [HM.out.2, ← hF] at this
              omega
            have hag : Lz.agree (Sums.bl s) c p = if x = y then A + 1 else 0 := by
              rw [HSTP.out, hF, ← hc1]
              by_cases h : x = y
              · rw [if_pos h, if_pos h.symm]
              · rw [if_neg h, if_neg (fun h2 => h h2.symm)]
            have HAG := Hid.mk' hag
            clear f1 f2 g1 g2 g3 hF hA hag HSTP hc1
            go_upto_if 39 with fail
            go_cut [7] (fun cv wc => cv = .int .i64 (c : Int) ∧ Hid (Lm (Sums.bl s) s.size w.heap.size gr gn p c w wc))
            case first =>
              cases e with
              | true =>
                have hxy : x = y := of_decide_eq_true HE.out
                have HV : Hid (A + 1 = Lz.agree (Sums.bl s) c p) := by
                  rw [HAG.out, if_pos hxy]
                  exact rfl
                clear hxy
                go_wp2_with fail
                go_meet
                exact ⟨rfl, HL4.out.put HV.out⟩
              | false =>
                have hxy : ¬ x = y := of_decide_eq_false HE.out
                have HV : Hid (Lz.agree (Sums.bl s) c p = 0) := by
                  rw [HAG.out, if_neg hxy]
                  exact rfl
                clear hxy
                go_wp2_with fail
                go_meet
                exact ⟨rfl, HL4.out.same HV.out⟩
            case rest =>
              obtain ⟨rfl, hlm⟩ := hcut
              rename World => w5
              clear HL4 k1 k2 k3 HAG HE
              obtain ⟨G, g1, g2, g3⟩ := hlm.out.now
              have hout := hlm.out.out
              rw [HM.out.1] at g1 hout
              obtain ⟨k2, _⟩ := rowN_cell g1 c (by omega)
              obtain ⟨k4, k5⟩ := rowN_cell hout p (by omega)
              rw [g2 c (by omega)] at k2
              simp only [if_true] at k4
              obtain ⟨v, hv⟩ : ∃ v, Lz.agree (Sums.bl s) c p = v := ⟨_, rfl⟩
              obtain ⟨u, hu⟩ : ∃ u, (if p + 12 ≤ s.size then Lz.mxA (Sums.bl s) p c else 0) = u := ⟨_, rfl⟩
              rw [hv] at k2
              rw [hu] at k4
              have hpm : (p : Int) < (m : Int) := by omega
              have HV := Hid.mk' (And.intro hv hu)
              clear g1 g2 g3 hout hv hu
              by_cases huv : u < v
              · have huvI : (u : Int) < (v : Int) := by omega
                have huvB : decide ((u : Int) < (v : Int)) = true := by simp; omega
                have huvN : decide (u < v) = true := by simp; omega
                by_cases h12 : p + 12 ≤ s.size
                · have h12I : (p : Int) + 12 ≤ (s.size : Int) := by omega
                  have h12B : decide ((p : Int) + 12 ≤ (s.size : Int)) = true := by simp; omega
                  have HMO : Hid (∀ j, Li (Sums.bl s) s.size w.heap.size gr gn p (c + 1) w ((w5.drewN j).setCell ⟨w.heap.size, p, none⟩ (.int .i64 (v : Int)))) := fun j => hlm.out.more HV.out.1.symm h12 (by have := HV.out.2; rw [if_pos h12] at this; omega) j
                  go_wp2_with fail
                  go_quiet (fail)
                  go_wp2_with fail
                  go_roundw
                  case rel => exact ⟨c + 1, by simp; try omega, by omega, HMO.out nq⟩
                  case measure =>
                    simp [intOf]
                    omega
                · have h12I : ¬ (p : Int) + 12 ≤ (s.size : Int) := by omega
                  have h12B : decide ((p : Int) + 12 ≤ (s.size : Int)) = false := by simp; omega
                  have HKP : Hid (∀ j, Li (Sums.bl s) s.size w.heap.size gr gn p (c + 1) w (w5.drewN j)) := fun j => hlm.out.keep (fun h => absurd h h12) j
                  go_wp2_with fail
                  go_quiet (fail)
                  go_wp2_with fail
                  go_roundw
                  case rel => exact ⟨c + 1, by simp; try omega, by omega, HKP.out nq⟩
                  case measure =>
                    simp [intOf]
                    omega
              · have huvI : ¬ (u : Int) < (v : Int) := by omega
                have huvB : decide ((u : Int) < (v : Int)) = false := by simp; omega
                have huvN : decide (u < v) = false := by simp; omega
                have HKP : Hid (∀ j, Li (Sums.bl s) s.size w.heap.size gr gn p (c + 1) w (w5.drewN j)) := fun j => hlm.out.keep (fun h => by have h2 := HV.out.2; rw [if_pos h] at h2; have h1 := HV.out.1; omega) j
                go_wp2_with fail
                go_quiet (fail)
                go_wp2_with fail
                go_roundw
                case rel => exact ⟨c + 1, by simp; try omega, by omega, HKP.out nq⟩
                case measure =>
                  simp [intOf]
                  omega
        · obtain rfl : c = p := by omega
          have hcI : ¬ (c : Int) < (c : Int) := by omega
          go_wp2
          go_roundw
          case rel =>
            obtain ⟨F, f1, f2, f3⟩ := hli.out.now
            have hge := hli.out.ge
            refine ⟨gn, (c : Int) - 1, rfl, by first | rfl | simp, by omega, by omega, Hid.mk' ⟨?_, ⟨F, f1, fun x hx => ?_⟩, hli.out.bel, hge.1, by omega⟩⟩
            · have := hli.out.out
              have e : (fun x => if x = c then (if c + 12 ≤ s.size then Lz.mxA (Sums.bl s) c c else 0) else if c < x then Lz.lg (Sums.bl s) x else 0) = fun x : Nat => if (c : Int) - 1 < (x : Int) then Lz.lg (Sums.bl s) x else 0 := by
                funext x
                by_cases e1 : x = c
                · subst e1
                  have hx2 : (x : Int) - 1 < (x : Int) := by omega
                  rw [if_pos rfl, if_pos hx2]
                  unfold Lz.lg
                  rw [HM.out.2]
                · rw [if_neg e1]
                  by_cases e2 : c < x
                  · rw [if_pos e2, if_pos (by omega)]
                  · rw [if_neg e2, if_neg (by omega)]
              rw [e] at this
              exact this
            · rw [f2 x (by omega), show ((c : Int) - 1).toNat + 1 = c by omega]
          case measure =>
            simp [intOf]
            try omega
end Go.Proofs.Ytchjmhgalbkjkaa
