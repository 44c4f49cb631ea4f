/-
  moment.Span of any text. Conditions: a text of at most 4000000000 bytes; the table of units lies as the program lays it.
-/
import Derived.Test.YthmpokndffbkdaaDoorSpD
import Derived.Test.YthmpokndffbkdaaDoorIxB
namespace Go.Proofs.YthmpokndffbkdaaDoor
open Go.RowKit
set_option linter.unusedVariables false
theorem idxAny_all (s : ByteArray) (w : World) (hs : s.size ≤ 4000000000) : Calls Tryd.prog 62 #[.string s, .string ⟨#[48, 49, 50, 51, 52, 53, 54, 55, 56, 57]⟩] w fun e w' => e = .returned (.int .i64 (ixA (Sums.bl s))) ∧ Below w.heap.size w w' := by
  by_cases h8 : s.size ≤ 8
  · exact idxAny_small s w h8
  · refine Calls.mono (Any.strings_IndexAny_long YthmpokndffbkdaaDoor.lays153 (zero_of_info YthmpokndffbkdaaDoor.set153).1 (zero_of_info YthmpokndffbkdaaDoor.set153).2 s digits10 w (by decide) (by omega) (by omega) (by decide) digits_ascii) ?_
    rintro e w' ⟨rfl, rfl⟩
    rw [ixA_is]
    exact ⟨rfl, ((Below.refl w.heap.size w).alloc (Nat.le_refl _) _).alloc (by simp) _⟩
/-- any byte at all -/
def Any8 (z : Nat) : Prop := z = z
set_option maxRecDepth 100000 in
set_option maxHeartbeats 2000000 in
theorem cutU_any (s : ByteArray) (w : World) (hs : s.size ≤ 4000000000) (ha : ∀ z ∈ Sums.bl s, Any8 z) :
    Calls Tryd.prog 39 #[.string s] w fun e w' => (∃ d u r : ByteArray, Sums.bl d = cutA (Sums.bl s) ∧ Sums.bl u = (cutB (Sums.bl s)).take (unL (cutB (Sums.bl s))) ∧ Sums.bl r = (cutB (Sums.bl s)).drop (unL (cutB (Sums.bl s))) ∧ e = .returned (.tuple #[.agg #[.string d, .string u], .string r])) ∧ Below w.heap.size w w' := by
  have HT := Hid.mk' (fun w => trimL_any s w)
  have HA := Hid.mk' ha
  have hsI : (s.size : Int) ≤ 4000000000 := by omega
  clear ha
  go_enter Tryd.func39, Tryd.ntmps39
  go_wp2_with fail
  have Z0 := heap_alloc_new w (.cells #[.string ⟨#[]⟩, .string ⟨#[]⟩] 51)
  have B0 := (Below.refl w.heap.size w).alloc (Nat.le_refl _) (.cells #[.string ⟨#[]⟩, .string ⟨#[]⟩] 51)
  have S0 : w.heap.size < (w.alloc (.cells #[.string ⟨#[]⟩, .string ⟨#[]⟩] 51)).heap.size := by simp
  generalize (w.alloc _) = w0 at *
  refine (HT.out _).mono ?_
  rintro e w1 ⟨⟨t, ht, rfl⟩, hb⟩
  have Z1 := Hid.mk' ((hb.block _ S0).trans Z0)
  have B1 := Hid.mk' (B0.trans (hb.mono (Nat.le_of_lt S0)))
  have S1 : w.heap.size < w1.heap.size := Nat.lt_of_lt_of_le S0 hb.size
  have HTL := Hid.mk' ht
  have htl : t.size ≤ s.size := by
    rw [← Sums.bl_length t, ht, ← Sums.bl_length s]
    exact (List.dropWhile_sublist _).length_le
  have hat : ∀ z ∈ Sums.bl t, Any8 z := fun z hz => HA.out z (by rw [ht] at hz; exact (List.dropWhile_sublist _).subset hz)
  have HI := Hid.mk' (fun w => idxAny_all t w (by omega))
  clear hb B0 S0 Z0 ht hat HT
  go_wp2_with fail
  refine (HI.out _).mono ?_
  rintro e w2 ⟨rfl, hb⟩
  have Z2 := Hid.mk' ((hb.block _ S1).trans Z1.out)
  have B2 := Hid.mk' (B1.out.trans (hb.mono (Nat.le_of_lt S1)))
  clear hb B1 Z1 HI
  rw [ixA_un]
  have hul := unL_le (Sums.bl t)
  have hbt := Sums.bl_length t
  obtain ⟨q, hq⟩ : ∃ q, unL (Sums.bl t) = q := ⟨_, rfl⟩
  rw [hq, hbt] at hul
  rw [hq, hbt]
  have HQ := Hid.mk' hq
  clear hq hbt
  obtain ⟨k, hk⟩ : ∃ k, s.size - t.size = k := ⟨_, rfl⟩
  have hkI : (s.size : Int) - (t.size : Int) = (k : Int) := by omega
  have HK := Hid.mk' hk
  have hkb : k ≤ s.size := by omega
  clear hk
  have z0 : w2.cell? ⟨w.heap.size, 0, none⟩ = some (.string ⟨#[]⟩) := by simp [World.cell?, Z2.out]
  have z1 : w2.cell? ⟨w.heap.size, 1, none⟩ = some (.string ⟨#[]⟩) := by simp [World.cell?, Z2.out]
  have f0 : w2.frozen? ⟨w.heap.size, 0, none⟩ = false := by simp [World.frozen?, Z2.out]
  have f1 : w2.frozen? ⟨w.heap.size, 1, none⟩ = false := by simp [World.frozen?, Z2.out]
  have k0 : (0 : Int) ≤ (k : Int) := by omega
  have k1 : (k : Int) ≤ (s.size : Int) := by omega
  have q0 : (0 : Int) ≤ (q : Int) := by omega
  have q1 : (q : Int) ≤ (t.size : Int) := by omega
  by_cases he : q = t.size
  · rw [if_pos he]
    subst he
    go_wp2_with fail
    go_region
    all_goals
      generalize hd : s.extract 0 k = d at *
      have g1 := only_set (o := 0) w2 (.string d) Z2.out
      have g2 := only_set (o := 1) _ (.string t) g1.2
      have hrow : ((w2.setCell ⟨w.heap.size, 0, none⟩ (.string d)).setCell ⟨w.heap.size, 1, none⟩ (.string t)).drew.heap[w.heap.size]? = some (.cells #[.string d, .string t] 51 (0, 0)) := g2.2
      have hbel : Below w.heap.size w ((w2.setCell ⟨w.heap.size, 0, none⟩ (.string d)).setCell ⟨w.heap.size, 1, none⟩ (.string t)).drew := (B2.out.trans ((g1.1.trans g2.1).below (Nat.le_refl _) B2.out.size)).drewN' 1
      clear g1 g2 z0 z1 f0 f1
      go_wp2_with fail
      generalize ((w2.setCell _ _).setCell _ _).drew = w3 at *
      have hld := run_loadVar_row (P := Tryd.prog) w3 w.heap.size _ 51 _ _ _ hrow Tryd.underlying51 rfl (sizePart _ rfl)
      refine bodyPost_ret (v := .tuple #[.agg #[.string d, .string t], .string ByteArray.empty]) ?_ rfl ⟨⟨d, t, ByteArray.empty, ?_, ?_, ?_, rfl⟩, hbel⟩
      · simp [results, Tryd.f39, asAddr, hld]
      · rw [← hd, Sums.bl_extract, List.drop_zero, ← take_cut (Sums.bl s)]
        unfold cutB
        rw [← HTL.out, Sums.bl_length, Sums.bl_length]
        first | rfl | (rw [HK.out])
      · have e := HTL.out
        unfold cutB
        rw [← e, HQ.out, List.take_of_length_le (by rw [Sums.bl_length]; exact Nat.le_refl _)]
      · have e := HTL.out
        unfold cutB
        rw [← e, HQ.out, List.drop_eq_nil_of_le (by rw [Sums.bl_length]; exact Nat.le_refl _)]
        rfl
  · rw [if_neg he]
    have hneg : ¬ (q : Int) < 0 := by omega
    go_wp2_with fail
    go_region
    all_goals
      generalize hd : s.extract 0 k = d at *
      generalize hu : t.extract 0 q = u at *
      generalize hr : t.extract q t.size = r at *
      have g1 := only_set (o := 0) w2 (.string d) Z2.out
      have g2 := only_set (o := 1) _ (.string u) g1.2
      have hrow : ((w2.setCell ⟨w.heap.size, 0, none⟩ (.string d)).setCell ⟨w.heap.size, 1, none⟩ (.string u)).drew.heap[w.heap.size]? = some (.cells #[.string d, .string u] 51 (0, 0)) := g2.2
      have hbel : Below w.heap.size w ((w2.setCell ⟨w.heap.size, 0, none⟩ (.string d)).setCell ⟨w.heap.size, 1, none⟩ (.string u)).drew := (B2.out.trans ((g1.1.trans g2.1).below (Nat.le_refl _) B2.out.size)).drewN' 1
      clear g1 g2 z0 z1 f0 f1
      go_wp2_with fail
      generalize ((w2.setCell _ _).setCell _ _).drew = w3 at *
      have hld := run_loadVar_row (P := Tryd.prog) w3 w.heap.size _ 51 _ _ _ hrow Tryd.underlying51 rfl (sizePart _ rfl)
      refine bodyPost_ret (v := .tuple #[.agg #[.string d, .string u], .string r]) ?_ rfl ⟨⟨d, u, r, ?_, ?_, ?_, rfl⟩, hbel⟩
      · simp [results, Tryd.f39, asAddr, hld]
      · rw [← hd, Sums.bl_extract, List.drop_zero, ← take_cut (Sums.bl s)]
        unfold cutB
        rw [← HTL.out, Sums.bl_length, Sums.bl_length]
        first | rfl | (rw [HK.out])
      · have e := HTL.out
        unfold cutB
        rw [← e, HQ.out, ← hu, Sums.bl_extract, List.drop_zero]
      · have e := HTL.out
        unfold cutB
        rw [← e, HQ.out, ← hr, Sums.bl_drop]
set_option maxRecDepth 100000 in
set_option maxHeartbeats 4000000 in
theorem spanU_any (s : ByteArray) (w : World) (hs : s.size ≤ 4000000000) (ha : ∀ z ∈ Sums.bl s, Any8 z) (hu : UnT w) :
    Calls Tryd.prog 19 #[.string s] w fun e w' => e = spanR (spanF (s.size + 1) (Sums.bl s) 0 0) ∧ Below w.heap.size w w' := by
  obtain ⟨R, hR⟩ : ∃ R, spanF (s.size + 1) (Sums.bl s) 0 0 = R := ⟨_, rfl⟩
  rw [hR]
  have H0 : Hid (SpW w w) := ⟨hu, Below.refl _ _, hu.size⟩
  have HR := Hid.mk' hR
  have HA := Hid.mk' ha
  have HS := Hid.mk' hs
  clear hR ha hu hs
  go_enter Tryd.func19, Tryd.ntmps19
  go_wp2_with fail
  go_loopw [0, 4, 5] (fun sv mv nv wr => ∃ (t : ByteArray) (f sum nx : Nat), sv = .string t ∧ mv = .int .i64 ((sum : Nat) : Int) ∧ nv = .int .i64 ((nx : Nat) : Int) ∧ sum ≤ 253402300799999 ∧ nx ≤ 5 ∧ Hid (t.size < f ∧ t.size ≤ 4000000000 ∧ (∀ z ∈ Sums.bl t, Any8 z) ∧ spanF f (Sums.bl t) sum nx = R) ∧ Hid (SpW w wr)) (fun sv _ _ _ => strSz sv)
  case atStart => exact ⟨s, s.size + 1, 0, 0, rfl, rfl, rfl, by decide, by decide, ⟨Nat.lt_succ_self _, HS.out, HA.out, HR.out⟩, H0⟩
  case round =>
    obtain ⟨t, f, sum, nx, rfl, rfl, rfl, hsum, hnx, hh, hw⟩ := hrel
    obtain ⟨f', rfl⟩ : ∃ f', f = f' + 1 := ⟨f - 1, by have := hh.out.1; omega⟩
    cases hl : Sums.bl t with
    | nil =>
      obtain ⟨he, he2⟩ := tk_nil t hl
      have hr := hh.out.2.2.2
      rw [spanF, if_pos hl] at hr
      have HRR : Hid (spanR R = spanR (some sum)) := by show _ = _; rw [hr]
      clear hl hr
      by_cases h0 : sum = 0
      · subst h0
        go_wp2_with fail
        go_ret2
        exact ⟨HRR.out.symm, hw.out.bel⟩
      · have h0I : ((sum : Int) == 0) = false := by simp; omega
        have HS0 := Hid.mk' h0
        clear h0
        go_wp2_with fail
        go_ret2
        refine ⟨?_, hw.out.bel⟩
        rw [HRR.out]
        simp only [spanR, if_neg HS0.out]
        rfl
    | cons x r =>
      obtain ⟨n1, n2, n3, n4⟩ := tk_cons t x r hl
      have hr := hh.out.2.2.2
      rw [spanF, if_neg (by rw [hl]; simp)] at hr
      have HRR := Hid.mk' hr
      have HCUT := Hid.mk' (fun w => cutU_any t w hh.out.2.1 hh.out.2.2.1)
      clear hl hr
      go_wp2_with fail
      have Z0 := heap_alloc_new wr (.cells #[.string ⟨#[]⟩, .string ⟨#[]⟩] 51)
      have B0 := (Below.refl wr.heap.size wr).alloc (Nat.le_refl _) (.cells #[.string ⟨#[]⟩, .string ⟨#[]⟩] 51)
      have S0 : wr.heap.size < (wr.alloc (.cells #[.string ⟨#[]⟩, .string ⟨#[]⟩] 51)).heap.size := by simp
      have hw0 := Hid.mk' (hw.out.next B0)
      generalize (wr.alloc _) = w0 at *
      generalize hP : wr.heap.size = P at *
      refine (HCUT.out _).mono ?_
      rintro e w1 ⟨⟨d, u, q, hd, hu, hq, rfl⟩, hb⟩
      have Z1 := (hb.block _ S0).trans Z0
      have hw1 := Hid.mk' (hw0.out.next hb)
      have S1 : P < w1.heap.size := Nat.lt_of_lt_of_le S0 hb.size
      have z0 : w1.cell? ⟨P, 0, none⟩ = some (.string ⟨#[]⟩) := by simp [World.cell?, Z1]
      have z1 : w1.cell? ⟨P, 1, none⟩ = some (.string ⟨#[]⟩) := by simp [World.cell?, Z1]
      have f0 : w1.frozen? ⟨P, 0, none⟩ = false := by simp [World.frozen?, Z1]
      have f1 : w1.frozen? ⟨P, 1, none⟩ = false := by simp [World.frozen?, Z1]
      have g1 := only_set (o := 0) w1 (.string d) Z1
      have g2 := only_set (o := 1) _ (.string u) g1.2
      have hPb : w.heap.size ≤ P := by rw [← hP]; exact hw.out.bel.size
      have HD := Hid.mk' (And.intro hd (And.intro hu hq))
      have b2 : Below P w1 ((w1.setCell ⟨P, 0, none⟩ (.string d)).setCell ⟨P, 1, none⟩ (.string u)) := (g1.1.trans g2.1).below (Nat.le_refl _) (Nat.le_of_lt S1)
      have hw2 : Hid (SpW w ((w1.setCell ⟨P, 0, none⟩ (.string d)).setCell ⟨P, 1, none⟩ (.string u))) := ⟨hw1.out.un.below b2 (Nat.lt_of_lt_of_le hw.out.pos hPb), hw1.out.bel.trans (b2.mono hPb), hw.out.pos⟩
      have e0 : ((w1.setCell ⟨P, 0, none⟩ (.string d)).setCell ⟨P, 1, none⟩ (.string u)).cell? ⟨P, 0, none⟩ = some (.string d) := by simp [World.cell?, g2.2]
      have e1 : ((w1.setCell ⟨P, 0, none⟩ (.string d)).setCell ⟨P, 1, none⟩ (.string u)).cell? ⟨P, 1, none⟩ = some (.string u) := by simp [World.cell?, g2.2]
      have S2 : P < ((w1.setCell ⟨P, 0, none⟩ (.string d)).setCell ⟨P, 1, none⟩ (.string u)).heap.size := Nat.lt_of_lt_of_le S1 b2.size
      have hds : d.size ≤ 4000000000 := by
        rw [← Sums.bl_length, hd]
        have h1 : (cutA (Sums.bl t)).length ≤ (Sums.bl t).length := (List.takeWhile_sublist _).length_le
        have h2 := hh.out.2.1
        rw [Sums.bl_length] at h1
        omega
      have HDS := Hid.mk' hds
      clear hb Z0 Z1 B0 S0 g1 g2 b2 hd hu hq hw0 hw1 S1 hds
      go_wp2_with fail
      clear z0 z1 f0 f1
      generalize ((w1.setCell _ _).setCell _ _) = w3 at *
      go_region_held3 (fun w' => w'.cell? ⟨P, 0, none⟩ = some (.string d) ∧ w'.cell? ⟨P, 1, none⟩ = some (.string u)) (first | go_keep | exact ⟨e0, e1⟩ | exact ⟨y0, y1⟩ | exact ⟨x0, x1⟩)
        ((first | (go_at_call 40; refine (count_any d u _ HDS.out).mono ?_; rintro e wz ⟨rfl, hbz⟩; have y0 : wz.cell? ⟨P, 0, none⟩ = some (.string d) := (by first | exact cell_below hbz T2 x0 | exact cell_below hbz S2 e0); have y1 : wz.cell? ⟨P, 1, none⟩ = some (.string u) := (by first | exact cell_below hbz T2 x1 | exact cell_below hbz S2 e1); have T1 : P < wz.heap.size := (by first | exact Nat.lt_of_lt_of_le T2 hbz.size | exact Nat.lt_of_lt_of_le S2 hbz.size); have hwz : Hid (SpW w wz) := (by first | exact hwx.out.next hbz | exact hw2.out.drew.next hbz); clear hbz) | (go_at_call 41; refine (unitFrom_any d u nx _ hnx (by first | exact hwz.out.un | exact hw2.out.drew.un)).mono ?_; rintro e wx ⟨rfl, hbx⟩; have x0 : wx.cell? ⟨P, 0, none⟩ = some (.string d) := (by first | exact cell_below hbx T1 y0 | exact cell_below hbx S2 e0); have x1 : wx.cell? ⟨P, 1, none⟩ = some (.string u) := (by first | exact cell_below hbx T1 y1 | exact cell_below hbx S2 e1); have T2 : P < wx.heap.size := (by first | exact Nat.lt_of_lt_of_le T1 hbx.size | exact Nat.lt_of_lt_of_le S2 hbx.size); have hwx : Hid (SpW w wx) := (by first | exact hwz.out.next hbx | exact hw2.out.drew.next hbx); clear hbx)))
      all_goals
        have hr := HRR.out
        have hd : cutA (Sums.bl t) = Sums.bl d := HD.out.1.symm
        have hu : uL (Sums.bl t) = Sums.bl u := HD.out.2.1.symm
        have hq : rL (Sums.bl t) = Sums.bl q := HD.out.2.2.symm
        have hlt : cntF (cutA (Sums.bl t)) ≠ 0 → q.size < t.size := fun hc => by
          have := rL_lt hc
          rw [hq, Sums.bl_length, Sums.bl_length] at this
          exact this
        have hqa : ∀ z ∈ Sums.bl q, Any8 z := fun z hz => hh.out.2.2.1 z (rL_sub _ z (by rw [hq]; exact hz))
        have hcl : cntF (cutA (Sums.bl t)) < 1000000000000000 := cntF_lt _
        have huf := ufF_is (Sums.bl u) (5 - nx) nx
        rw [hd] at hr hlt hcl
        rw [hu] at hr
        rw [hq] at hr
        have HQA := Hid.mk' hqa
        have HT := Hid.mk' hh.out
        generalize cntF (Sums.bl d) = c at *
        generalize ufF (Sums.bl u) (5 - nx) nx = K at *
        have HLT := Hid.mk' hlt
        have hun := hwx.out.un
        have m0 := hun.m0
        have m1 := hun.m1
        have m2 := hun.m2
        have m3 := hun.m3
        have m4 := hun.m4
        clear hd hu hq hlt hqa HRR HD hun e0 e1 y0 y1 x0 x1 hh
        by_cases hc : c = 0
        · rw [if_pos hc] at hr
          subst hc
          have HF : Hid (spanR R = .returned (.tuple #[.int .i64 0, .int .i64 121])) := by show _ = _; rw [← hr]; rfl
          clear hr huf
          go_wp2_with fail
          go_ret2
          exact ⟨HF.out.symm, hwx.out.bel⟩
        · rw [if_neg hc] at hr
          have hcI : ((c : Int) == 0) = false := by simp; omega
          have hlt2 := HLT.out hc
          clear hc
          rcases huf with rfl | ⟨j, hj1, hj2, rfl⟩
          · rw [if_pos (by decide)] at hr
            have HF : Hid (spanR R = .returned (.tuple #[.int .i64 0, .int .i64 121])) := by show _ = _; rw [← hr]; rfl
            clear hr
            go_wp2_with fail
            go_ret2
            exact ⟨HF.out.symm, hwx.out.bel⟩
          · rw [if_neg (by omega), Int.toNat_natCast] at hr
            have HJ := Hid.mk' (And.intro hj1 hj2)
            rcases (show j = 0 ∨ j = 1 ∨ j = 2 ∨ j = 3 ∨ j = 4 by omega) with rfl | rfl | rfl | rfl | rfl
            · rw [show unum 0 = 86400000 from rfl] at hr
              obtain ⟨g, hg⟩ : ∃ g, (253402300799999 - sum) / 86400000 = g := ⟨_, rfl⟩
              rw [hg] at hr
              have hgI : ((253402300799999 : Int) - (sum : Int)) / 86400000 = (g : Int) := by omega
              clear hj1 hj2
              by_cases hgc : g < c
              · rw [if_pos hgc] at hr
                have hgcI : (g : Int) < (c : Int) := by omega
                have hgcb : decide ((g : Int) < (c : Int)) = true := by simp; omega
                have HF : Hid (spanR R = .returned (.tuple #[.int .i64 0, .int .i64 121])) := by show _ = _; rw [← hr]; rfl
                clear hr hg
                go_wp2_with fail
                go_ret2
                exact ⟨HF.out.symm, hwx.out.bel⟩
              · rw [if_neg hgc] at hr
                have hgcI : ¬ (g : Int) < (c : Int) := by omega
                have hgcb : decide ((g : Int) < (c : Int)) = false := by simp; omega
                have hpr : sum + c * 86400000 ≤ 253402300799999 := by omega
                have HF := Hid.mk' hr
                have HPR := Hid.mk' hpr
                clear hr hg
                go_wp2_with fail
                go_roundw
                case rel => exact ⟨q, f', sum + c * 86400000, 1, rfl, int_eq (by omega), rfl, HPR.out, by decide, ⟨by have := HT.out.1; omega, by have := HT.out.2.1; omega, HQA.out, HF.out⟩, hwx⟩
                case measure => exact hlt2
            · rw [show unum 1 = 3600000 from rfl] at hr
              obtain ⟨g, hg⟩ : ∃ g, (253402300799999 - sum) / 3600000 = g := ⟨_, rfl⟩
              rw [hg] at hr
              have hgI : ((253402300799999 : Int) - (sum : Int)) / 3600000 = (g : Int) := by omega
              clear hj1 hj2
              by_cases hgc : g < c
              · rw [if_pos hgc] at hr
                have hgcI : (g : Int) < (c : Int) := by omega
                have hgcb : decide ((g : Int) < (c : Int)) = true := by simp; omega
                have HF : Hid (spanR R = .returned (.tuple #[.int .i64 0, .int .i64 121])) := by show _ = _; rw [← hr]; rfl
                clear hr hg
                go_wp2_with fail
                go_ret2
                exact ⟨HF.out.symm, hwx.out.bel⟩
              · rw [if_neg hgc] at hr
                have hgcI : ¬ (g : Int) < (c : Int) := by omega
                have hgcb : decide ((g : Int) < (c : Int)) = false := by simp; omega
                have hpr : sum + c * 3600000 ≤ 253402300799999 := by omega
                have HF := Hid.mk' hr
                have HPR := Hid.mk' hpr
                clear hr hg
                go_wp2_with fail
                go_roundw
                case rel => exact ⟨q, f', sum + c * 3600000, 2, rfl, int_eq (by omega), rfl, HPR.out, by decide, ⟨by have := HT.out.1; omega, by have := HT.out.2.1; omega, HQA.out, HF.out⟩, hwx⟩
                case measure => exact hlt2
            · rw [show unum 2 = 60000 from rfl] at hr
              obtain ⟨g, hg⟩ : ∃ g, (253402300799999 - sum) / 60000 = g := ⟨_, rfl⟩
              rw [hg] at hr
              have hgI : ((253402300799999 : Int) - (sum : Int)) / 60000 = (g : Int) := by omega
              clear hj1 hj2
              by_cases hgc : g < c
              · rw [if_pos hgc] at hr
                have hgcI : (g : Int) < (c : Int) := by omega
                have hgcb : decide ((g : Int) < (c : Int)) = true := by simp; omega
                have HF : Hid (spanR R = .returned (.tuple #[.int .i64 0, .int .i64 121])) := by show _ = _; rw [← hr]; rfl
                clear hr hg
                go_wp2_with fail
                go_ret2
                exact ⟨HF.out.symm, hwx.out.bel⟩
              · rw [if_neg hgc] at hr
                have hgcI : ¬ (g : Int) < (c : Int) := by omega
                have hgcb : decide ((g : Int) < (c : Int)) = false := by simp; omega
                have hpr : sum + c * 60000 ≤ 253402300799999 := by omega
                have HF := Hid.mk' hr
                have HPR := Hid.mk' hpr
                clear hr hg
                go_wp2_with fail
                go_roundw
                case rel => exact ⟨q, f', sum + c * 60000, 3, rfl, int_eq (by omega), rfl, HPR.out, by decide, ⟨by have := HT.out.1; omega, by have := HT.out.2.1; omega, HQA.out, HF.out⟩, hwx⟩
                case measure => exact hlt2
            · rw [show unum 3 = 1000 from rfl] at hr
              obtain ⟨g, hg⟩ : ∃ g, (253402300799999 - sum) / 1000 = g := ⟨_, rfl⟩
              rw [hg] at hr
              have hgI : ((253402300799999 : Int) - (sum : Int)) / 1000 = (g : Int) := by omega
              clear hj1 hj2
              by_cases hgc : g < c
              · rw [if_pos hgc] at hr
                have hgcI : (g : Int) < (c : Int) := by omega
                have hgcb : decide ((g : Int) < (c : Int)) = true := by simp; omega
                have HF : Hid (spanR R = .returned (.tuple #[.int .i64 0, .int .i64 121])) := by show _ = _; rw [← hr]; rfl
                clear hr hg
                go_wp2_with fail
                go_ret2
                exact ⟨HF.out.symm, hwx.out.bel⟩
              · rw [if_neg hgc] at hr
                have hgcI : ¬ (g : Int) < (c : Int) := by omega
                have hgcb : decide ((g : Int) < (c : Int)) = false := by simp; omega
                have hpr : sum + c * 1000 ≤ 253402300799999 := by omega
                have HF := Hid.mk' hr
                have HPR := Hid.mk' hpr
                clear hr hg
                go_wp2_with fail
                go_roundw
                case rel => exact ⟨q, f', sum + c * 1000, 4, rfl, int_eq (by omega), rfl, HPR.out, by decide, ⟨by have := HT.out.1; omega, by have := HT.out.2.1; omega, HQA.out, HF.out⟩, hwx⟩
                case measure => exact hlt2
            · rw [show unum 4 = 1 from rfl] at hr
              obtain ⟨g, hg⟩ : ∃ g, (253402300799999 - sum) / 1 = g := ⟨_, rfl⟩
              rw [hg] at hr
              have hgI : ((253402300799999 : Int) - (sum : Int)) / 1 = (g : Int) := by omega
              clear hj1 hj2
              by_cases hgc : g < c
              · rw [if_pos hgc] at hr
                have hgcI : (g : Int) < (c : Int) := by omega
                have hgcb : decide ((g : Int) < (c : Int)) = true := by simp; omega
                have HF : Hid (spanR R = .returned (.tuple #[.int .i64 0, .int .i64 121])) := by show _ = _; rw [← hr]; rfl
                clear hr hg
                go_wp2_with fail
                go_ret2
                exact ⟨HF.out.symm, hwx.out.bel⟩
              · rw [if_neg hgc] at hr
                have hgcI : ¬ (g : Int) < (c : Int) := by omega
                have hgcb : decide ((g : Int) < (c : Int)) = false := by simp; omega
                have hpr : sum + c * 1 ≤ 253402300799999 := by omega
                have HF := Hid.mk' hr
                have HPR := Hid.mk' hpr
                clear hr hg
                go_wp2_with fail
                go_roundw
                case rel => exact ⟨q, f', sum + c * 1, 5, rfl, int_eq (by omega), rfl, HPR.out, by decide, ⟨by have := HT.out.1; omega, by have := HT.out.2.1; omega, HQA.out, HF.out⟩, hwx⟩
                case measure => exact hlt2
theorem spanV (s : ByteArray) (w : World) (hs : s.size ≤ 4000000000) (hu : UnT w) :
    Calls Tryd.prog 19 #[.string s] w fun e w' => e = spanR (spanF (s.size + 1) (Sums.bl s) 0 0) ∧ Below w.heap.size w w' :=
  spanU_any s w hs (fun _ _ => rfl) hu
end Go.Proofs.YthmpokndffbkdaaDoor
