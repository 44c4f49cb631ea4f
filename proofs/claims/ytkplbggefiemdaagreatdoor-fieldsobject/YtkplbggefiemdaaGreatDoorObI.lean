/-
  object: the reader: brackets, over whatever stands within them. Conditions: as each says.
-/
import Derived.Test.YtkplbggefiemdaaGreatDoorObH
namespace Go.Proofs.YtkplbggefiemdaaGreatDoor
open Go.RowKit
set_option linter.unusedVariables false
/-- below B nothing has turned but the block g -/
structure Onb (g B : Nat) (w w' : World) : Prop where
  os : w'.os = w.os
  tape : w'.tape = w.tape
  output : w'.output = w.output
  size : w.heap.size ≤ w'.heap.size
  block : ∀ k, k < B → k ≠ g → w'.heap[k]? = w.heap[k]?
theorem Onb.refl (g B : Nat) (w : World) : Onb g B w w := ⟨rfl, rfl, rfl, Nat.le_refl _, fun _ _ _ => rfl⟩
theorem Onb.trans {g B : Nat} {a b c : World} (h : Onb g B a b) (k : Onb g B b c) : Onb g B a c :=
  ⟨k.os.trans h.os, k.tape.trans h.tape, k.output.trans h.output, Nat.le_trans h.size k.size, fun i hi hg => (k.block i hi hg).trans (h.block i hi hg)⟩
theorem Only.onb {g B : Nat} {a b : World} (h : Only g a b) (hB : B ≤ a.heap.size) : Onb g B a b := ⟨h.os, h.tape, h.output, h.size, fun k hk hg => h.block k (by omega) hg⟩
theorem Onb.only {g B : Nat} {a b : World} (h : Onb g B a b) (hB : a.heap.size ≤ B) : Only g a b := ⟨h.os, h.tape, h.output, h.size, fun k hk hg => h.block k (by omega) hg⟩
theorem RwT.onb {g B : Nat} {a b : World} (k : RwT a) (hb : Onb g B a b) (hg : g ≠ 6) (h8 : 6 < B) : RwT b := by
  obtain ⟨t, f, h⟩ := k.ex
  exact ⟨t, f, (hb.block 6 h8 (fun e => hg e.symm)).trans h⟩
theorem Rr.deepen {g : Nat} {S : ByteArray} {p d : Nat} {w : World} (h : Rr g S p d w) (d2 : Nat) (x : Int) (hx : x = (d2 : Int)) : Rr g S p d2 (w.setCell ⟨g, 2, none⟩ (.int .i64 x)) ∧ Only g w (w.setCell ⟨g, 2, none⟩ (.int .i64 x)) := by
  subst hx
  have e := setCell_eq_setRow w g 2 _ 61 (0, 0) (.int .i64 (d2 : Int)) h.row
  rw [e]
  refine ⟨⟨?_, h.le⟩, ⟨rfl, rfl, rfl, by simp [World.setRow], fun k _ hk => ?_⟩⟩
  · have := setRow_heap w g _ ((#[.string S, .int .i64 (p : Int), .int .i64 (d : Int)] : Array Value).setIfInBounds 2 (.int .i64 (d2 : Int))) 61 (0, 0) h.row
    simpa using this
  · simp only [World.setRow, Array.getElem?_modify]
    rw [if_neg (by omega)]
/-- what is done within brackets: it goes on to another state, or gives up -/
def Rv.PostJ {A : Type} (r : Rv A) (J : A → World → Prop) (g : Nat) (S : ByteArray) (d B : Nat) (w : World) (e : Ending) (w' : World) : Prop :=
  match r with
  | .ok s p => e = .returned (.tuple #[]) ∧ Rr g S p d w' ∧ J s w' ∧ Onb g B w w'
  | .no c p => e = .panicked (flt c p) ∧ Onb g B w w'
theorem postJ_two {A : Type} {r : Rv A} {J : A → World → Prop} {g : Nat} {S : ByteArray} {d B : Nat} {w : World} {F : FuncId} {args : Array Value} (h : Calls Tryz.prog F args w (r.PostJ J g S d B w)) :
    (∃ s q, r = .ok s q ∧ Calls Tryz.prog F args w fun e w' => e = .returned (.tuple #[]) ∧ Rr g S q d w' ∧ J s w' ∧ Onb g B w w') ∨ (∃ c q, r = .no c q ∧ Calls Tryz.prog F args w fun e w' => e = .panicked (flt c q) ∧ Onb g B w w') := by
  cases r with
  | ok s q => exact .inl ⟨s, q, rfl, h⟩
  | no c q => exact .inr ⟨c, q, rfl, h⟩
set_option maxRecDepth 100000 in
set_option maxHeartbeats 4000000 in
theorem brackets_any {A : Type} (thing : A → Nat → Rv A) (sz : A → Nat) (J : A → World → Prop) (g : Nat) (S : ByteArray) (d n B cl : Nat) (F : FuncId) (first cap : Array Value) (hS : S.size ≤ 65536) (hdn : d + n = 40) (hgB : g < B) (hg8 : g ≠ 6) (h8 : 6 < B)
    (hent : ∀ w, (callFunc F (first ++ cap)).run Tryz.prog w = .ok (.enter F (first ++ cap)) w)
    (hJ : ∀ s w w', J s w → Only g w w' → J s w') (hJB : ∀ s w, J s w → B ≤ w.heap.size)
    (hadv : ∀ s p s' p', thing s p = .ok s' p' → p < p' ∧ sz s' ≤ sz s + 1)
    (hthing : 0 < n → ∀ s p w, Rr g S p (d + 1) w → RwT w → J s w → sz s ≤ p → Calls Tryz.prog F (first ++ cap) w ((thing s p).PostJ J g S (d + 1) B w))
    (s : A) (p : Nat) (w : World) (h : Rr g S p d w) (ht : RwT w) (hs : J s w) (hsz : sz s ≤ p) (hp : p < S.size) :
    Calls Tryz.prog 158 #[.pointer (some ⟨g, 0, none⟩), .int .u8 (cl : Int), .func (.func F) first cap] w ((brk thing (Sums.bl S) cl n s p).PostJ J g S d B w) := by
  obtain ⟨c0, c1, c2, f1, f2⟩ := h.cells
  have HS := Hid.mk' hS
  have HR := Hid.mk' h
  have HT := Hid.mk' ht
  have HJ := Hid.mk' hs
  have HJK := Hid.mk' hJ
  have HJB := Hid.mk' hJB
  have HC := Hid.mk' hthing
  have HP := Hid.mk' hp
  have HSZ := Hid.mk' hsz
  have HA := Hid.mk' hadv
  have HG := Hid.mk' (And.intro hgB (And.intro hg8 h8))
  clear hthing hJ hJB hs ht hS hadv hgB hg8 h8 hsz
  cases n with
  | zero =>
    obtain rfl : d = 40 := by omega
    unfold brk
    rw [if_pos rfl]
    unfold Rv.PostJ
    clear h hdn hp
    go_enter Tryz.func158, Tryz.ntmps158
    go_wp2_with fail
    refine (giveUp_any g 84 p _).mono ?_
    rintro e w1 ⟨rfl, hw⟩
    have hw2 := hw.symm
    subst hw2
    exact ⟨rfl, rfl, Onb.refl _ _ _⟩
  | succ n =>
    have hd1 : decide ((d : Int) = 40) = false := by simp; omega
    have hd2 : ((d : Int) == 40) = false := by simp; omega
    have hd3 : ¬ (d : Int) = 40 := by omega
    have hd4 : ¬ d = 40 := by omega
    have hdI : (d : Int) ≤ 39 := by omega
    have hpI : (p : Int) < 65536 := by have := HS.out; omega
    obtain ⟨r, hr⟩ : ∃ r, brk thing (Sums.bl S) cl (n + 1) s p = r := ⟨_, rfl⟩
    rw [hr]
    obtain ⟨q, hq⟩ : ∃ q, blP (Sums.bl S) (p + 1) = q := ⟨_, rfl⟩
    have HE : Hid ((if rngO cl cl ((Sums.bl S).drop q) = true then .ok s (q + 1) else (thing s q).bind (thgs thing (Sums.bl S) cl ((Sums.bl S).length + 1))) = r) := Hid.mk' (by rw [← hr, ← hq, brk, if_neg (Nat.succ_ne_zero n)])
    have HQ := Hid.mk' hq
    have HSQ : Hid (sz s ≤ q) := Hid.mk' (by have := blP_le (Sums.bl S) (p + 1); have := HSZ.out; omega)
    have HW : Hid (Rr g S (p + 1) (d + 1) ((w.setCell ⟨g, 2, none⟩ (.int .i64 ((d : Int) + 1))).setCell ⟨g, 1, none⟩ (.int .i64 ((p : Int) + 1))) ∧ Only g w ((w.setCell ⟨g, 2, none⟩ (.int .i64 ((d : Int) + 1))).setCell ⟨g, 1, none⟩ (.int .i64 ((p : Int) + 1)))) := Hid.mk' (by
      have a := h.deepen (d + 1) ((d : Int) + 1) (by simp)
      have b := a.1.step hp
      exact ⟨b.1, a.2.trans b.2⟩)
    clear h hr hq hp hdn HR
    go_enter Tryz.func158, Tryz.ntmps158
    go_wp2_with fail
    refine (blanks_any g S (p + 1) (d + 1) _ HW.out.1 HS.out).mono ?_
    rintro e w1 ⟨rfl, hr1, ho1⟩
    have H1 : Hid (Rr g S q (d + 1) w1 ∧ J s w1 ∧ Onb g B w w1) := Hid.mk' (by
      rw [HQ.out] at hr1
      have ho := HW.out.2.trans ho1
      exact ⟨hr1, HJK.out _ _ _ HJ.out ho, ho.onb (HJB.out _ _ HJ.out)⟩)
    clear hr1 ho1 HW HQ HJ c0 c1 c2 f1 f2
    go_wp2_with fail
    obtain ⟨b, hb⟩ : ∃ b, rngO cl cl ((Sums.bl S).drop q) = b := ⟨_, rfl⟩
    rw [hb] at HE
    refine (take_b g S q (d + 1) cl b _ H1.out.1 HS.out hb).mono ?_
    rintro e w2 ⟨rfl, hr2, ho2⟩
    have H2 : Hid (Rr g S (adv b q) (d + 1) w2 ∧ J s w2 ∧ Onb g B w w2) := Hid.mk' ⟨hr2, HJK.out _ _ _ H1.out.2.1 ho2, H1.out.2.2.trans (ho2.onb (HJB.out _ _ H1.out.2.1))⟩
    have HDI := Hid.mk' hdI
    clear hr2 ho2 hb H1 hd1 hd2 hd3 hd4 hdI hpI
    go_upto_if 36 with fail
    go_cut [] (fun wc => ∃ s' z, Hid (r = .ok s' z) ∧ Hid (Rr g S z (d + 1) wc ∧ J s' wc ∧ Onb g B w wc))
    case first =>
      cases b
      · have HF : Hid ((thing s q).bind (thgs thing (Sums.bl S) cl ((Sums.bl S).length + 1)) = r) := HE
        have H3 : Hid (Rr g S q (d + 1) w2 ∧ J s w2 ∧ Onb g B w w2) := H2
        clear H2 HE
        simp only [Bool.not_false]
        go_wp2_with fail
        rcases postJ_two (HC.out (Nat.succ_pos n) s q _ H3.out.1 (HT.out.onb H3.out.2.2 HG.out.2.1 HG.out.2.2) H3.out.2.1 HSQ.out) with ⟨s1, q1, ha, hc⟩ | ⟨c, q1, ha, hc⟩
        · refine hc.mono ?_
          rintro e w3 ⟨rfl, hr3, hj3, ho3⟩
          have HL1 : Hid (sz s1 ≤ q1) := Hid.mk' (by have := HA.out _ _ _ _ ha; have := HSQ.out; omega)
          have hF := HF.out
          rw [ha] at hF
          have H4 : Hid (Rr g S q1 (d + 1) w3 ∧ J s1 w3 ∧ Onb g B w w3) := Hid.mk' ⟨hr3, hj3, H3.out.2.2.trans ho3⟩
          have HF1 : Hid (thgs thing (Sums.bl S) cl ((Sums.bl S).length + 1) s1 q1 = r) := hF
          clear hr3 hj3 ho3 ha hF HF H3 hc
          go_wp2_with fail
          go_loopg [] ((Sums.bl S).length + 1) (fun k wr => ∃ s' z, Hid (thgs thing (Sums.bl S) cl k s' z = r ∧ (Sums.bl S).length < z + k ∧ sz s' ≤ z) ∧ Hid (Rr g S z (d + 1) wr ∧ J s' wr ∧ Onb g B w wr))
          case atStart => exact ⟨s1, q1, ⟨HF1.out, by omega, HL1.out⟩, H4⟩
          case round =>
            obtain ⟨s2, z, HK, H5⟩ := hrel
            clear H4 HF1
            rename World => wi
            cases gk with
            | zero =>
              have h1 := HK.out.2.1
              have h2 := H5.out.1.le
              rw [Sums.bl_length] at h1
              omega
            | succ k =>
              obtain ⟨b, hb⟩ : ∃ b, rngO cl cl ((Sums.bl S).drop z) = b := ⟨_, rfl⟩
              have HKE : Hid ((if b = true then .ok s2 (z + 1) else if rngO 44 44 ((Sums.bl S).drop z) = true then (thing s2 (z + 1)).bind (thgs thing (Sums.bl S) cl k) else .no 130 z) = r) := Hid.mk' (by rw [← HK.out.1, thgs, hb])
              have HKL : Hid ((Sums.bl S).length < z + (k + 1) ∧ sz s2 ≤ z) := HK.out.2
              go_wp2_with fail
              refine (take_b g S z (d + 1) cl b _ H5.out.1 HS.out hb).mono ?_
              rintro e w4 ⟨rfl, hr4, ho4⟩
              have H6 : Hid (Rr g S (adv b z) (d + 1) w4 ∧ J s2 w4 ∧ Onb g B w w4) := Hid.mk' ⟨hr4, HJK.out _ _ _ H5.out.2.1 ho4, H5.out.2.2.trans (ho4.onb (HJB.out _ _ H5.out.2.1))⟩
              clear hr4 ho4 hb H5 HK
              cases b
              · have H7 : Hid (Rr g S z (d + 1) w4 ∧ J s2 w4 ∧ Onb g B w w4) := H6
                obtain ⟨b, hb⟩ : ∃ b, rngO 44 44 ((Sums.bl S).drop z) = b := ⟨_, rfl⟩
                have HN := Hid.mk' (need_any g S z (d + 1) 44 _ w4 H7.out.1 HS.out rfl)
                rw [hb] at HN
                have HKF : Hid ((if b = true then (thing s2 (z + 1)).bind (thgs thing (Sums.bl S) cl k) else .no 130 z) = r) := Hid.mk' (by rw [← HKE.out, hb]; rfl)
                clear H6 HKE hb
                go_wp2_with fail
                refine HN.out.mono ?_
                cases b
                · rintro e w5 ⟨rfl, hr5, ho5⟩
                  have hr2 : Rv.no 130 z = r := HKF.out
                  subst hr2
                  exact ⟨rfl, rfl, H7.out.2.2.trans (ho5.onb (HJB.out _ _ H7.out.2.1))⟩
                · rintro e w5 ⟨he, hr5, ho5⟩
                  have he2 : e = .returned (.tuple #[]) := he
                  subst he2
                  have HKG : Hid ((thing s2 (z + 1)).bind (thgs thing (Sums.bl S) cl k) = r) := HKF
                  have H8 : Hid (Rr g S (z + 1) (d + 1) w5 ∧ J s2 w5 ∧ Onb g B w w5) := Hid.mk' ⟨hr5, HJK.out _ _ _ H7.out.2.1 ho5, H7.out.2.2.trans (ho5.onb (HJB.out _ _ H7.out.2.1))⟩
                  clear hr5 ho5 he HKF HN H7
                  go_wp2_with fail
                  rcases postJ_two (HC.out (Nat.succ_pos n) s2 (z + 1) _ H8.out.1 (HT.out.onb H8.out.2.2 HG.out.2.1 HG.out.2.2) H8.out.2.1 (by have := HKL.out.2; omega)) with ⟨s3, q3, ha, hc⟩ | ⟨c, q3, ha, hc⟩
                  · refine hc.mono ?_
                    rintro e w6 ⟨rfl, hr6, hj6, ho6⟩
                    have hlt := Hid.mk' (HA.out _ _ _ _ ha)
                    have hF := HKG.out
                    rw [ha] at hF
                    have H9 : Hid (Rr g S q3 (d + 1) w6 ∧ J s3 w6 ∧ Onb g B w w6) := Hid.mk' ⟨hr6, hj6, H8.out.2.2.trans ho6⟩
                    have HKH : Hid (thgs thing (Sums.bl S) cl k s3 q3 = r) := hF
                    clear hr6 hj6 ho6 ha hF HKG H8 hc
                    go_wp2_with fail
                    go_roundg k
                    case measure => omega
                    case rel => exact ⟨s3, q3, ⟨HKH.out, by have := HKL.out; have := hlt.out; omega, by have := HKL.out; have := hlt.out; omega⟩, H9⟩
                  · refine hc.mono ?_
                    rintro e w6 ⟨rfl, ho6⟩
                    have hF := HKG.out
                    rw [ha] at hF
                    have hr2 : Rv.no c q3 = r := hF
                    subst hr2
                    exact ⟨rfl, rfl, H8.out.2.2.trans ho6⟩
              · have HKF : Hid (r = .ok s2 (z + 1)) := Hid.mk' HKE.out.symm
                have H7 : Hid (Rr g S (z + 1) (d + 1) w4 ∧ J s2 w4 ∧ Onb g B w w4) := H6
                clear H6 HKE
                go_wp2_with fail
                go_meet
                exact ⟨s2, z + 1, HKF, H7⟩
        · refine hc.mono ?_
          rintro e w3 ⟨rfl, ho3⟩
          have hF := HF.out
          rw [ha] at hF
          have hr2 : Rv.no c q1 = r := hF
          subst hr2
          exact ⟨rfl, rfl, H3.out.2.2.trans ho3⟩
      · have HF : Hid (r = .ok s (q + 1)) := Hid.mk' HE.out.symm
        have H3 : Hid (Rr g S (q + 1) (d + 1) w2 ∧ J s w2 ∧ Onb g B w w2) := H2
        clear H2 HE
        simp only [Bool.not_true]
        go_wp2_with fail
        go_meet
        exact ⟨s, q + 1, HF, H3⟩
    case rest =>
      obtain ⟨s1, z, HF, H3⟩ := hcut
      have hr := HF.out
      subst hr
      clear HF H2 HE
      rename World => wb
      obtain ⟨c0, c1, c2, f1, f2⟩ := H3.out.1.cells
      have HD := Hid.mk' (H3.out.1.deepen d (d : Int) rfl)
      have hdI := HDI.out
      go_wp2_with fail
      go_end0
      exact ⟨rfl, HD.out.1, HJK.out _ _ _ H3.out.2.1 HD.out.2, H3.out.2.2.trans (HD.out.2.onb (HJB.out _ _ H3.out.2.1))⟩
end Go.Proofs.YtkplbggefiemdaaGreatDoor
