/-
  object: the reader: a word; a value without blanks; a value. Conditions: as each says.
-/
import Derived.Test.YtkplbggefiemdaaGreatDoorObQ
namespace Go.Proofs.YtkplbggefiemdaaGreatDoor
open Go.RowKit
set_option linter.unusedVariables false
set_option linter.unusedSimpArgs false
theorem postV_plain {g : Nat} {S : ByteArray} {d q k : Nat} {t : ByteArray} {w w4 : World} (h : Rr g S q d w4) (ho : Only g w w4) : Rr g S q d w4 ∧ Only g w w4 ∧ ∃ G : Nat → Prop, (∀ k, G k → w.heap.size ≤ k ∧ k < w4.heap.size) ∧ VlAt G w4 (.mk k t [] []) #[.int .i64 (k : Int), .string t, .slice none 0 0, .slice none 0 0] := ⟨h, ho, fun _ => False, fun _ hf => hf.elim, VlAt.plain k t⟩
/-- a result's box, and what may turn beside it -/
theorem res_keep {g R : Nat} {w2 w3 : World} (hg : g ≠ R) (hR : w2.heap[R]? = some (.cells zr4 41 (0, 0))) (ho : Only g w2 w3) : w3.heap[R]? = some (.cells zr4 41 (0, 0)) := (ho.block R (Array.getElem?_eq_some_iff.1 hR).1 (Ne.symm hg)).trans hR
theorem wrd_le (L : List Nat) (k : Nat) : ∀ (l : List Nat) (p : Nat) (v : Vl) (q : Nat), wrdP L k l p = .ok v q → p + l.length = q ∧ v = .mk k ByteArray.empty [] []
  | [], p, v, q, e => by
    rw [wrdP] at e
    injection e with e1 e2
    exact ⟨by simpa using e2, e1.symm⟩
  | c :: r, p, v, q, e => by
    rw [wrdP] at e
    split at e
    · have := wrd_le L k r (p + 1) v q e
      exact ⟨by simp; omega, this.2⟩
    · cases e
/-- the result's cells -/
structure Rz (R : Nat) (w : World) : Prop where
  r0 : w.cell? ⟨R, 0, none⟩ = some (.int .i64 0)
  r1 : w.cell? ⟨R, 1, none⟩ = some (.string ByteArray.empty)
  r2 : w.cell? ⟨R, 2, none⟩ = some (.slice none 0 0)
  r3 : w.cell? ⟨R, 3, none⟩ = some (.slice none 0 0)
  z0 : w.frozen? ⟨R, 0, none⟩ = false
  z1 : w.frozen? ⟨R, 1, none⟩ = false
  z2 : w.frozen? ⟨R, 2, none⟩ = false
  z3 : w.frozen? ⟨R, 3, none⟩ = false
theorem rz_of {R : Nat} {w : World} (h : w.heap[R]? = some (.cells zr4 41 (0, 0))) : Rz R w :=
  ⟨by simp [World.cell?, h, zr4], by simp [World.cell?, h, zr4], by simp [World.cell?, h, zr4], by simp [World.cell?, h, zr4], by simp [World.frozen?, h], by simp [World.frozen?, h], by simp [World.frozen?, h], by simp [World.frozen?, h]⟩
/-- what a value is behind the writing of a result's box -/
theorem out_put {g R : Nat} {S : ByteArray} {q d : Nat} {v : Vl} {cs cur : Array Value} {w w2 w3 w4 : World} (hw : Only g w w2) (hR : w.heap.size ≤ R) (hR2 : R < w2.heap.size) (hg : g ≠ R) (hr : Rr g S q d w3) (ho : Only g w2 w3) (hv : ∃ F : Nat → Prop, (∀ k, F k → w2.heap.size ≤ k ∧ k < w3.heap.size) ∧ VlAt F w3 v cs) (hp : Put4 w3 w4 R cur 41) : Rr g S q d w4 ∧ Only g w w4 ∧ ∃ G : Nat → Prop, (∀ k, G k → w.heap.size ≤ k ∧ k < w4.heap.size) ∧ VlAt G w4 v cs := by
  obtain ⟨F, h1, h2⟩ := hv
  have hs := hw.size
  have hs2 := ho.size
  have hall := hw.trans ho
  refine ⟨⟨(hp.block g hg).trans hr.row, hr.le⟩, ⟨hp.os.trans hall.os, hp.tape.trans hall.tape, hp.output.trans hall.output, by rw [hp.size]; exact hall.size, fun k a b => (hp.block k (by omega)).trans (hall.block k a b)⟩, F, fun k hk => ?_, VlAt.keep (fun _ x => x) (fun k hk _ => hp.block k (by have := h1 k hk; omega)) (by rw [hp.size]; omega) _ _ h2⟩
  have := h1 k hk
  rw [hp.size]
  omega
set_option maxRecDepth 100000 in
set_option maxHeartbeats 4000000 in
theorem word_any (g : Nat) (S T : ByteArray) (d p k : Nat) (w : World) (h : Rr g S p d w) (hS : S.size ≤ 65536) (hT : T.size ≤ 8) :
    Calls Tryz.prog 127 #[.pointer (some ⟨g, 0, none⟩), .string T, .int .i64 (k : Int)] w ((wrdP (Sums.bl S) k (Sums.bl T) p).PostV g S d w) := by
  have HS := Hid.mk' hS
  have HR := Hid.mk' h
  have hgl := h.lt
  have HGL := Hid.mk' hgl
  have hTI : (T.size : Int) ≤ 8 := by omega
  have HTI := Hid.mk' hT
  obtain ⟨r, hr⟩ : ∃ r, wrdP (Sums.bl S) k (Sums.bl T) p = r := ⟨_, rfl⟩
  rw [hr]
  have HE := Hid.mk' hr
  have HA : Hid (∀ X, X = w.alloc (.cells #[.int .i64 0, .string ByteArray.empty, .slice none 0 0, .slice none 0 0] 41) → Rr g S p d X ∧ Only g w X ∧ X.heap[w.heap.size]? = some (.cells zr4 41 (0, 0))) := Hid.mk' (fun X hX => by subst hX; exact ⟨h.below ((Below.refl w.heap.size w).alloc (Nat.le_refl _) _) h.lt, (Only.refl _ _).alloc _, heap_alloc_new w _⟩)
  clear h hS hr hT hgl
  go_enter Tryz.func127, Tryz.ntmps127
  go_wp2_with fail
  go_loopw [10] (fun iv wr => ∃ i : Nat, iv = .int .i64 ((i : Nat) : Int) ∧ i ≤ T.size ∧ Hid (wrdP (Sums.bl S) k ((Sums.bl T).drop i) (p + i) = r) ∧ Hid (Rr g S (p + i) d wr ∧ Only g w wr ∧ wr.heap[w.heap.size]? = some (.cells zr4 41 (0, 0)))) (fun iv _ => T.size - (intOf iv).toNat)
  case atStart =>
    refine ⟨0, rfl, by omega, ?_, ?_⟩
    · exact HE
    · exact Hid.mk' (HA.out _ rfl)
  case round =>
    obtain ⟨i, rfl, hi, HW, H⟩ := hrel
    clear HA HE HR
    rename World => wi
    by_cases hiT : i < T.size
    · have hiI : (i : Int) < (T.size : Int) := by omega
      obtain ⟨c, rest, hd⟩ : ∃ c rest, (Sums.bl T).drop i = c :: rest := by
        cases hd : (Sums.bl T).drop i with
        | nil => have := ob_nil T i (by omega) hd; omega
        | cons c rest => exact ⟨c, rest, rfl⟩
      have hidx := ob_idx T i c rest hd
      obtain ⟨_, hc256, hd1⟩ := ob_facts T i c rest hd
      obtain ⟨b, hb⟩ : ∃ b, rngO c c ((Sums.bl S).drop (p + i)) = b := ⟨_, rfl⟩
      have HN := Hid.mk' (fun X h => need_any g S (p + i) d c _ X h HS.out rfl)
      rw [hb] at HN
      have HE : Hid ((if b = true then wrdP (Sums.bl S) k ((Sums.bl T).drop (i + 1)) (p + i + 1) else .no 130 (p + i)) = r) := Hid.mk' (by rw [← HW.out, hd, wrdP, hb, hd1])
      clear hd hd1 hb HW
      go_wp2_with fail
      refine (HN.out _ H.out.1).mono ?_
      cases b
      · rintro e w5 ⟨rfl, hr5, ho5⟩
        have hr2 : Rv.no 130 (p + i) = r := HE.out
        subst hr2
        exact ⟨rfl, rfl, H.out.2.1.trans ho5⟩
      · rintro e w5 ⟨he, hr5, ho5⟩
        have he2 : e = .returned (.tuple #[]) := he
        subst he2
        have HE2 : Hid (wrdP (Sums.bl S) k ((Sums.bl T).drop (i + 1)) (p + (i + 1)) = r) := HE
        have H5 : Hid (Rr g S (p + (i + 1)) d w5 ∧ Only g w w5 ∧ w5.heap[w.heap.size]? = some (.cells zr4 41 (0, 0))) := Hid.mk' ⟨hr5, H.out.2.1.trans ho5, res_keep (by have := HGL.out; omega) H.out.2.2 ho5⟩
        clear hr5 ho5 he HE HN H
        go_wp2_with fail
        go_roundw
        case rel => exact ⟨i + 1, by simp, by omega, HE2, H5⟩
        case measure => simp [intOf]; omega
    · obtain rfl : i = T.size := by omega
      obtain ⟨r0, r1, r2, r3, z0, z1, z2, z3⟩ := rz_of H.out.2.2
      have hwr := HW.out
      rw [List.drop_eq_nil_of_le (by rw [Sums.bl_length]; omega), wrdP] at hwr
      subst hwr
      go_wp2_with fail
      have hp := put4_res (.int .i64 (k : Int)) (.string ByteArray.empty) (.slice none 0 0) (.slice none 0 0) H.out.2.2
      obtain ⟨y1, y2, y3⟩ := out_put H.out.2.1 (Nat.le_refl _) (Array.getElem?_eq_some_iff.1 H.out.2.2).1 (by have := HGL.out; omega) H.out.1 (Only.refl _ _) ⟨fun _ => False, fun _ hf => hf.elim, VlAt.plain k ByteArray.empty⟩ hp
      have hrow := hp.row
      show bodyPost _ _ _ _ _ (put4 wi w.heap.size 0 (.int .i64 (k : Int)) (.string ByteArray.empty) (.slice none 0 0) (.slice none 0 0))
      generalize put4 wi w.heap.size 0 (.int .i64 (k : Int)) (.string ByteArray.empty) (.slice none 0 0) (.slice none 0 0) = w4 at y1 y2 y3 hrow ⊢
      refine ⟨rfl, _, ?_, _, rfl, y1, y2, y3⟩
      simp [results, Tryz.f127, go_sem, World.cell?, hrow]
theorem is_b (g : Nat) (S : ByteArray) (p d c : Nat) (b : Bool) (w : World) (h : Rr g S p d w) (hS : S.size ≤ 65536) (hl : hasO c ((Sums.bl S).drop p) = b) :
    Calls Tryz.prog 126 #[.pointer (some ⟨g, 0, none⟩), .int .u8 (c : Int)] w fun e w' => e = .returned (.bool b) ∧ Rr g S p d w' ∧ Only g w w' := by
  refine (is_any g S p d c _ w h hS rfl).mono ?_
  rintro e w' ⟨rfl, n, rfl⟩
  exact ⟨by rw [hl], h.drewN n, (Only.refl _ _).drewN n⟩
theorem hasO_lt {S : ByteArray} {p c : Nat} (h : hasO c ((Sums.bl S).drop p) = true) : p < S.size := by
  cases hd : (Sums.bl S).drop p with
  | nil => rw [hd] at h; cases h
  | cons x r => exact (ob_facts S p x r hd).1
/-- a result that comes of a call and is put into a box -/
theorem bare_done {g B : Nat} {S : ByteArray} {d q : Nat} {v : Vl} {w wi w3 w4 : World} {cs cur : Array Value} (hg : g < w.heap.size) (hB : B = w.heap.size) (hwi : Rr g S d d wi ∨ True) (ho : Only g w wi) (hb : wi.heap[B]? = some (.cells zr4 41 (0, 0))) (hr : Rr g S q d w3) (ho3 : Only g wi w3) (hv : ∃ F : Nat → Prop, (∀ k, F k → wi.heap.size ≤ k ∧ k < w3.heap.size) ∧ VlAt F w3 v cs) (hp : Put4 w3 w4 B cur 41) : Rr g S q d w4 ∧ Only g w w4 ∧ ∃ G : Nat → Prop, (∀ k, G k → w.heap.size ≤ k ∧ k < w4.heap.size) ∧ VlAt G w4 v cs := by
  subst hB
  exact out_put ho (Nat.le_refl _) (Array.getElem?_eq_some_iff.1 hb).1 (by omega) hr ho3 hv hp
set_option maxRecDepth 100000 in
set_option maxHeartbeats 16000000 in
theorem bare_any (pq : Nat → Rv ByteArray) (val : Nat → Rv Vl) (g : Nat) (S : ByteArray) (d n p : Nat) (w : World) (h : Rr g S p d w) (ht : RwT w) (hS : S.size ≤ 65536) (hdn : d + n = 40) (hg8 : g ≠ 6)
    (hpq : ∀ a t b, pq a = .ok t b → a ≤ b ∧ t.size ≤ 65536) (hadv : ∀ a v b, val a = .ok v b → a < b)
    (hq : ∀ d a X, Rr g S a d X → RwT X → Calls Tryz.prog 128 #[.pointer (some ⟨g, 0, none⟩)] X ((pq a).PostT g S d X))
    (hval : 0 < n → ∀ a X, Rr g S a (d + 1) X → RwT X → Calls Tryz.prog 65 #[.pointer (some ⟨g, 0, none⟩)] X ((val a).PostV g S (d + 1) X)) :
    Calls Tryz.prog 95 #[.pointer (some ⟨g, 0, none⟩)] w ((barP S pq n val p).PostV g S d w) := by
  have HS := Hid.mk' hS
  have HGL := Hid.mk' h.lt
  have HA : Hid (∀ X, X = w.alloc (.cells #[.int .i64 0, .string ByteArray.empty, .slice none 0 0, .slice none 0 0] 41) → Rr g S p d X ∧ Only g w X ∧ RwT X ∧ X.heap[w.heap.size]? = some (.cells zr4 41 (0, 0))) := Hid.mk' (fun X hX => by subst hX; have hb := (Below.refl w.heap.size w).alloc (Nat.le_refl _) (.cells #[.int .i64 0, .string ByteArray.empty, .slice none 0 0, .slice none 0 0] 41); exact ⟨h.below hb h.lt, (Only.refl _ _).alloc _, ht.below hb ht.lt, heap_alloc_new w _⟩)
  have HKEEP : Hid (∀ X Y, Only g w X ∧ RwT X ∧ X.heap[w.heap.size]? = some (.cells zr4 41 (0, 0)) → Only g X Y → Only g w Y ∧ RwT Y ∧ Y.heap[w.heap.size]? = some (.cells zr4 41 (0, 0))) := Hid.mk' (fun X Y hX ho => ⟨hX.1.trans ho, hX.2.1.only ho hg8, res_keep (by have := h.lt; omega) hX.2.2 ho⟩)
  have HL := Hid.mk' (fun X h1 h2 hp => list_any val g S d n p X h1 h2 hS hdn hp hg8 hadv hval)
  have HOB := Hid.mk' (fun X h1 h2 hp => object_any pq val g S d n p X h1 h2 hS hdn hp hg8 hpq hadv hq hval)
  have HQ := Hid.mk' (hq d p)
  obtain ⟨r, hr⟩ : ∃ r, barP S pq n val p = r := ⟨_, rfl⟩
  rw [hr]
  have HE := Hid.mk' hr
  clear h ht hS hdn hg8 hpq hadv hq hval hr
  go_enter Tryz.func95, Tryz.ntmps95
  go_wp2_with fail
  have H9 : Hid (Rr g S p d _ ∧ Only g w _ ∧ RwT _ ∧ _) := Hid.mk' (HA.out _ rfl)
  clear HA
  obtain ⟨b110, hb110⟩ : ∃ b, hasO 110 ((Sums.bl S).drop p) = b := ⟨_, rfl⟩
  have HB110 := Hid.mk' hb110
  clear hb110
  cases b110
  · refine (is_b g S p d 110 false _ H9.out.1 HS.out (by exact HB110.out)).mono ?_
    rintro e w0 ⟨rfl, hr1, ho1⟩
    have H0 : Hid (Rr g S p d w0 ∧ Only g w w0 ∧ RwT w0 ∧ w0.heap[w.heap.size]? = some (.cells zr4 41 (0, 0))) := Hid.mk' ⟨hr1, HKEEP.out _ _ H9.out.2 ho1⟩
    clear hr1 ho1
    go_wp2_with fail
    obtain ⟨b102, hb102⟩ : ∃ b, hasO 102 ((Sums.bl S).drop p) = b := ⟨_, rfl⟩
    have HB102 := Hid.mk' hb102
    clear hb102
    cases b102
    · refine (is_b g S p d 102 false _ H0.out.1 HS.out (by exact HB102.out)).mono ?_
      rintro e w1 ⟨rfl, hr1, ho1⟩
      have H1 : Hid (Rr g S p d w1 ∧ Only g w w1 ∧ RwT w1 ∧ w1.heap[w.heap.size]? = some (.cells zr4 41 (0, 0))) := Hid.mk' ⟨hr1, HKEEP.out _ _ H0.out.2 ho1⟩
      clear hr1 ho1
      go_wp2_with fail
      obtain ⟨b116, hb116⟩ : ∃ b, hasO 116 ((Sums.bl S).drop p) = b := ⟨_, rfl⟩
      have HB116 := Hid.mk' hb116
      clear hb116
      cases b116
      · refine (is_b g S p d 116 false _ H1.out.1 HS.out (by exact HB116.out)).mono ?_
        rintro e w2 ⟨rfl, hr1, ho1⟩
        have H2 : Hid (Rr g S p d w2 ∧ Only g w w2 ∧ RwT w2 ∧ w2.heap[w.heap.size]? = some (.cells zr4 41 (0, 0))) := Hid.mk' ⟨hr1, HKEEP.out _ _ H1.out.2 ho1⟩
        clear hr1 ho1
        go_wp2_with fail
        obtain ⟨b34, hb34⟩ : ∃ b, hasO 34 ((Sums.bl S).drop p) = b := ⟨_, rfl⟩
        have HB34 := Hid.mk' hb34
        clear hb34
        cases b34
        · refine (is_b g S p d 34 false _ H2.out.1 HS.out (by exact HB34.out)).mono ?_
          rintro e w3 ⟨rfl, hr1, ho1⟩
          have H3 : Hid (Rr g S p d w3 ∧ Only g w w3 ∧ RwT w3 ∧ w3.heap[w.heap.size]? = some (.cells zr4 41 (0, 0))) := Hid.mk' ⟨hr1, HKEEP.out _ _ H2.out.2 ho1⟩
          clear hr1 ho1
          go_wp2_with fail
          obtain ⟨b91, hb91⟩ : ∃ b, hasO 91 ((Sums.bl S).drop p) = b := ⟨_, rfl⟩
          have HB91 := Hid.mk' hb91
          clear hb91
          cases b91
          · refine (is_b g S p d 91 false _ H3.out.1 HS.out (by exact HB91.out)).mono ?_
            rintro e w4 ⟨rfl, hr1, ho1⟩
            have H4 : Hid (Rr g S p d w4 ∧ Only g w w4 ∧ RwT w4 ∧ w4.heap[w.heap.size]? = some (.cells zr4 41 (0, 0))) := Hid.mk' ⟨hr1, HKEEP.out _ _ H3.out.2 ho1⟩
            clear hr1 ho1
            go_wp2_with fail
            obtain ⟨b123, hb123⟩ : ∃ b, hasO 123 ((Sums.bl S).drop p) = b := ⟨_, rfl⟩
            have HB123 := Hid.mk' hb123
            clear hb123
            cases b123
            · refine (is_b g S p d 123 false _ H4.out.1 HS.out (by exact HB123.out)).mono ?_
              rintro e w5 ⟨rfl, hr1, ho1⟩
              have H5 : Hid (Rr g S p d w5 ∧ Only g w w5 ∧ RwT w5 ∧ w5.heap[w.heap.size]? = some (.cells zr4 41 (0, 0))) := Hid.mk' ⟨hr1, HKEEP.out _ _ H4.out.2 ho1⟩
              clear hr1 ho1
              go_wp2_with fail
              have HE2 : Hid (numV S p (nmP (Sums.bl S) p) = r) := Hid.mk' (by rw [← HE.out, barP, HB110.out, if_neg (by decide), HB102.out, if_neg (by decide), HB116.out, if_neg (by decide), HB34.out, if_neg (by decide), HB91.out, if_neg (by decide), HB123.out, if_neg (by decide)])
              have HI : Hid (Only g w _ ∧ RwT _ ∧ _) := Hid.mk' H5.out.2
              have HI0 := Hid.mk' H5.out.1
              have hnum := number_any g S p d _ H5.out.1 HS.out
              cases hn : nmP (Sums.bl S) p with
              | ok q =>
                rw [hn] at hnum
                have hc : Calls Tryz.prog 131 #[.pointer (some ⟨g, 0, none⟩)] _ fun e w' => e = .returned (.string (S.extract p q)) ∧ Rr g S q d w' ∧ Only g _ w' := hnum
                have hE := HE2.out
                rw [hn] at hE
                have hrv2 : Rv.ok (.mk 4 (S.extract p q) [] []) q = r := hE
                clear hE
                generalize S.extract p q = t at hc hrv2
                subst hrv2
                refine hc.mono ?_
                rintro e wz ⟨rfl, hr3, ho3⟩
                have HX : Hid (Only g w wz ∧ RwT wz ∧ wz.heap[w.heap.size]? = some (.cells zr4 41 (0, 0))) := Hid.mk' (HKEEP.out _ _ H5.out.2 ho3)
                have HRR := Hid.mk' hr3
                have HOO := Hid.mk' ho3
                clear hr3 ho3 hc hn hnum
                obtain ⟨r0, r1, r2, r3, z0, z1, z2, z3⟩ := rz_of HX.out.2.2
                go_wp2_with fail
                have hp := put4_res (.int .i64 4) (.string t) (.slice none 0 0) (.slice none 0 0) HX.out.2.2
                obtain ⟨y1, y2, y3⟩ := bare_done HGL.out rfl (.inr trivial) HI.out.1 HI.out.2.2 HRR.out HOO.out ⟨fun _ => False, fun _ hf => hf.elim, VlAt.plain 4 t⟩ hp
                have hrow := hp.row
                show bodyPost _ _ _ _ _ (put4 wz w.heap.size 0 (.int .i64 4) (.string t) (.slice none 0 0) (.slice none 0 0))
                generalize put4 wz w.heap.size 0 (.int .i64 4) (.string t) (.slice none 0 0) (.slice none 0 0) = w4 at y1 y2 y3 hrow ⊢
                refine ⟨rfl, _, ?_, _, rfl, y1, y2, y3⟩
                simp [results, Tryz.f95, go_sem, World.cell?, hrow]
              | no c q =>
                rw [hn] at hnum
                have hc : Calls Tryz.prog 131 #[.pointer (some ⟨g, 0, none⟩)] _ fun e w' => e = .panicked (flt c q) ∧ Only g _ w' := hnum
                refine hc.mono ?_
                rintro e wz ⟨rfl, ho3⟩
                have hE := HE2.out
                rw [hn] at hE
                have hrv2 : Rv.no c q = r := hE
                subst hrv2
                exact ⟨rfl, rfl, H5.out.2.1.trans ho3⟩
            · have HLT : Hid (p < S.size) := Hid.mk' (hasO_lt HB123.out)
              refine (is_b g S p d 123 true _ H4.out.1 HS.out (by exact HB123.out)).mono ?_
              rintro e w5 ⟨rfl, hr1, ho1⟩
              have H5 : Hid (Rr g S p d w5 ∧ Only g w w5 ∧ RwT w5 ∧ w5.heap[w.heap.size]? = some (.cells zr4 41 (0, 0))) := Hid.mk' ⟨hr1, HKEEP.out _ _ H4.out.2 ho1⟩
              clear hr1 ho1
              go_wp2_with fail
              have HE2 : Hid (((brk (objT pq val (Sums.bl S)) (Sums.bl S) 125 n ([], []) p).bind fun s q => Rv.ok (.mk 7 ByteArray.empty s.1 s.2) q) = r) := Hid.mk' (by rw [← HE.out, barP, HB110.out, if_neg (by decide), HB102.out, if_neg (by decide), HB116.out, if_neg (by decide), HB34.out, if_neg (by decide), HB91.out, if_neg (by decide), HB123.out, if_pos rfl])
              have HI : Hid (Only g w _ ∧ RwT _ ∧ _) := Hid.mk' H5.out.2
              have HI0 := Hid.mk' H5.out.1
              rcases postV_two (HOB.out _ H5.out.1 H5.out.2.2.1 HLT.out) with ⟨v, q, hrv, hc⟩ | ⟨c, q, hrv, hc⟩
              · refine hc.mono ?_
                rintro e wz ⟨cs, rfl, hr3, ho3, hv3⟩
                have hrv2 : Rv.ok v q = r := hrv.symm.trans HE2.out
                subst hrv2
                obtain ⟨xk, xt, pn, nn, cn, pk, nk, ck, rfl⟩ : ∃ (xk : Int) (xt : ByteArray) (pn : Option Addr) (nn cn : Nat) (pk : Option Addr) (nk ck : Nat), cs = #[.int .i64 xk, .string xt, .slice pn nn cn, .slice pk nk ck] := by
                  obtain ⟨F, _, hv4⟩ := hv3
                  exact hv4.form
                have HX : Hid (Only g w wz ∧ RwT wz ∧ wz.heap[w.heap.size]? = some (.cells zr4 41 (0, 0))) := Hid.mk' (HKEEP.out _ _ H5.out.2 ho3)
                have HRR := Hid.mk' hr3
                have HOO := Hid.mk' ho3
                have HVV := Hid.mk' hv3
                clear hr3 ho3 hv3 hc hrv
                obtain ⟨r0, r1, r2, r3, z0, z1, z2, z3⟩ := rz_of HX.out.2.2
                go_wp2_with fail
                have hp := put4_res (.int .i64 xk) (.string xt) (.slice pn nn cn) (.slice pk nk ck) HX.out.2.2
                obtain ⟨y1, y2, y3⟩ := bare_done HGL.out rfl (.inr trivial) HI.out.1 HI.out.2.2 HRR.out HOO.out HVV.out hp
                have hrow := hp.row
                show bodyPost _ _ _ _ _ (put4 wz w.heap.size 0 (.int .i64 xk) (.string xt) (.slice pn nn cn) (.slice pk nk ck))
                generalize put4 wz w.heap.size 0 (.int .i64 xk) (.string xt) (.slice pn nn cn) (.slice pk nk ck) = w4 at y1 y2 y3 hrow ⊢
                refine ⟨rfl, _, ?_, _, rfl, y1, y2, y3⟩
                simp [results, Tryz.f95, go_sem, World.cell?, hrow]
              · refine hc.mono ?_
                rintro e wz ⟨rfl, ho3⟩
                have hrv2 : Rv.no c q = r := hrv.symm.trans HE2.out
                subst hrv2
                exact ⟨rfl, rfl, H5.out.2.1.trans ho3⟩
          · have HLT : Hid (p < S.size) := Hid.mk' (hasO_lt HB91.out)
            refine (is_b g S p d 91 true _ H3.out.1 HS.out (by exact HB91.out)).mono ?_
            rintro e w4 ⟨rfl, hr1, ho1⟩
            have H4 : Hid (Rr g S p d w4 ∧ Only g w w4 ∧ RwT w4 ∧ w4.heap[w.heap.size]? = some (.cells zr4 41 (0, 0))) := Hid.mk' ⟨hr1, HKEEP.out _ _ H3.out.2 ho1⟩
            clear hr1 ho1
            go_wp2_with fail
            have HE2 : Hid (((brk (lstT val) (Sums.bl S) 93 n [] p).bind fun ks q => Rv.ok (.mk 6 ByteArray.empty [] ks) q) = r) := Hid.mk' (by rw [← HE.out, barP, HB110.out, if_neg (by decide), HB102.out, if_neg (by decide), HB116.out, if_neg (by decide), HB34.out, if_neg (by decide), HB91.out, if_pos rfl])
            have HI : Hid (Only g w _ ∧ RwT _ ∧ _) := Hid.mk' H4.out.2
            have HI0 := Hid.mk' H4.out.1
            rcases postV_two (HL.out _ H4.out.1 H4.out.2.2.1 HLT.out) with ⟨v, q, hrv, hc⟩ | ⟨c, q, hrv, hc⟩
            · refine hc.mono ?_
              rintro e wz ⟨cs, rfl, hr3, ho3, hv3⟩
              have hrv2 : Rv.ok v q = r := hrv.symm.trans HE2.out
              subst hrv2
              obtain ⟨xk, xt, pn, nn, cn, pk, nk, ck, rfl⟩ : ∃ (xk : Int) (xt : ByteArray) (pn : Option Addr) (nn cn : Nat) (pk : Option Addr) (nk ck : Nat), cs = #[.int .i64 xk, .string xt, .slice pn nn cn, .slice pk nk ck] := by
                obtain ⟨F, _, hv4⟩ := hv3
                exact hv4.form
              have HX : Hid (Only g w wz ∧ RwT wz ∧ wz.heap[w.heap.size]? = some (.cells zr4 41 (0, 0))) := Hid.mk' (HKEEP.out _ _ H4.out.2 ho3)
              have HRR := Hid.mk' hr3
              have HOO := Hid.mk' ho3
              have HVV := Hid.mk' hv3
              clear hr3 ho3 hv3 hc hrv
              obtain ⟨r0, r1, r2, r3, z0, z1, z2, z3⟩ := rz_of HX.out.2.2
              go_wp2_with fail
              have hp := put4_res (.int .i64 xk) (.string xt) (.slice pn nn cn) (.slice pk nk ck) HX.out.2.2
              obtain ⟨y1, y2, y3⟩ := bare_done HGL.out rfl (.inr trivial) HI.out.1 HI.out.2.2 HRR.out HOO.out HVV.out hp
              have hrow := hp.row
              show bodyPost _ _ _ _ _ (put4 wz w.heap.size 0 (.int .i64 xk) (.string xt) (.slice pn nn cn) (.slice pk nk ck))
              generalize put4 wz w.heap.size 0 (.int .i64 xk) (.string xt) (.slice pn nn cn) (.slice pk nk ck) = w4 at y1 y2 y3 hrow ⊢
              refine ⟨rfl, _, ?_, _, rfl, y1, y2, y3⟩
              simp [results, Tryz.f95, go_sem, World.cell?, hrow]
            · refine hc.mono ?_
              rintro e wz ⟨rfl, ho3⟩
              have hrv2 : Rv.no c q = r := hrv.symm.trans HE2.out
              subst hrv2
              exact ⟨rfl, rfl, H4.out.2.1.trans ho3⟩
        · refine (is_b g S p d 34 true _ H2.out.1 HS.out (by exact HB34.out)).mono ?_
          rintro e w3 ⟨rfl, hr1, ho1⟩
          have H3 : Hid (Rr g S p d w3 ∧ Only g w w3 ∧ RwT w3 ∧ w3.heap[w.heap.size]? = some (.cells zr4 41 (0, 0))) := Hid.mk' ⟨hr1, HKEEP.out _ _ H2.out.2 ho1⟩
          clear hr1 ho1
          go_wp2_with fail
          have HE2 : Hid (((pq p).bind fun t q => Rv.ok (.mk 5 t [] []) q) = r) := Hid.mk' (by rw [← HE.out, barP, HB110.out, if_neg (by decide), HB102.out, if_neg (by decide), HB116.out, if_neg (by decide), HB34.out, if_pos rfl])
          have HI : Hid (Only g w _ ∧ RwT _ ∧ _) := Hid.mk' H3.out.2
          have HI0 := Hid.mk' H3.out.1
          rcases postT_two (HQ.out _ H3.out.1 H3.out.2.2.1) with ⟨t, q, hrv, hc⟩ | ⟨c, q, hrv, hc⟩
          · refine hc.mono ?_
            rintro e wz ⟨rfl, hr3, ho3⟩
            have hE := HE2.out
            rw [hrv] at hE
            have hrv2 : Rv.ok (.mk 5 t [] []) q = r := hE
            subst hrv2
            have HX : Hid (Only g w wz ∧ RwT wz ∧ wz.heap[w.heap.size]? = some (.cells zr4 41 (0, 0))) := Hid.mk' (HKEEP.out _ _ H3.out.2 ho3)
            have HRR := Hid.mk' hr3
            have HOO := Hid.mk' ho3
            clear hr3 ho3 hc hrv hE
            obtain ⟨r0, r1, r2, r3, z0, z1, z2, z3⟩ := rz_of HX.out.2.2
            go_wp2_with fail
            have hp := put4_res (.int .i64 5) (.string t) (.slice none 0 0) (.slice none 0 0) HX.out.2.2
            obtain ⟨y1, y2, y3⟩ := bare_done HGL.out rfl (.inr trivial) HI.out.1 HI.out.2.2 HRR.out HOO.out ⟨fun _ => False, fun _ hf => hf.elim, VlAt.plain 5 t⟩ hp
            have hrow := hp.row
            show bodyPost _ _ _ _ _ (put4 wz w.heap.size 0 (.int .i64 5) (.string t) (.slice none 0 0) (.slice none 0 0))
            generalize put4 wz w.heap.size 0 (.int .i64 5) (.string t) (.slice none 0 0) (.slice none 0 0) = w4 at y1 y2 y3 hrow ⊢
            refine ⟨rfl, _, ?_, _, rfl, y1, y2, y3⟩
            simp [results, Tryz.f95, go_sem, World.cell?, hrow]
          · refine hc.mono ?_
            rintro e wz ⟨rfl, ho3⟩
            have hE := HE2.out
            rw [hrv] at hE
            have hrv2 : Rv.no c q = r := hE
            subst hrv2
            exact ⟨rfl, rfl, H3.out.2.1.trans ho3⟩
      · refine (is_b g S p d 116 true _ H1.out.1 HS.out (by exact HB116.out)).mono ?_
        rintro e w2 ⟨rfl, hr1, ho1⟩
        have H2 : Hid (Rr g S p d w2 ∧ Only g w w2 ∧ RwT w2 ∧ w2.heap[w.heap.size]? = some (.cells zr4 41 (0, 0))) := Hid.mk' ⟨hr1, HKEEP.out _ _ H1.out.2 ho1⟩
        clear hr1 ho1
        go_wp2_with fail
        have HE2 : Hid (wrdP (Sums.bl S) 3 [116, 114, 117, 101] p = r) := Hid.mk' (by rw [← HE.out, barP, HB110.out, if_neg (by decide), HB102.out, if_neg (by decide), HB116.out, if_pos rfl])
        have HI : Hid (Only g w _ ∧ RwT _ ∧ _) := Hid.mk' H2.out.2
        have HI0 := Hid.mk' H2.out.1
        have HC : Hid (∀ X, Rr g S p d X → Calls Tryz.prog 127 #[.pointer (some ⟨g, 0, none⟩), .string ⟨#[116, 114, 117, 101]⟩, .int .i64 ((3 : Nat) : Int)] X (r.PostV g S d X)) := Hid.mk' fun X h1 => by
          have := word_any g S ⟨#[116, 114, 117, 101]⟩ d p 3 X h1 HS.out (by decide)
          rw [show Sums.bl ⟨#[116, 114, 117, 101]⟩ = [116, 114, 117, 101] from rfl] at this
          rw [← HE2.out]
          exact this
        rcases postV_two (HC.out _ H2.out.1) with ⟨v, q, hrv, hc⟩ | ⟨c, q, hrv, hc⟩
        · refine hc.mono ?_
          rintro e wz ⟨cs, rfl, hr3, ho3, hv3⟩
          subst hrv
          skip
          obtain ⟨xk, xt, pn, nn, cn, pk, nk, ck, rfl⟩ : ∃ (xk : Int) (xt : ByteArray) (pn : Option Addr) (nn cn : Nat) (pk : Option Addr) (nk ck : Nat), cs = #[.int .i64 xk, .string xt, .slice pn nn cn, .slice pk nk ck] := by
            obtain ⟨F, _, hv4⟩ := hv3
            exact hv4.form
          have HX : Hid (Only g w wz ∧ RwT wz ∧ wz.heap[w.heap.size]? = some (.cells zr4 41 (0, 0))) := Hid.mk' (HKEEP.out _ _ H2.out.2 ho3)
          have HRR := Hid.mk' hr3
          have HOO := Hid.mk' ho3
          have HVV := Hid.mk' hv3
          clear hr3 ho3 hv3 hc
          obtain ⟨r0, r1, r2, r3, z0, z1, z2, z3⟩ := rz_of HX.out.2.2
          go_wp2_with fail
          have hp := put4_res (.int .i64 xk) (.string xt) (.slice pn nn cn) (.slice pk nk ck) HX.out.2.2
          obtain ⟨y1, y2, y3⟩ := bare_done HGL.out rfl (.inr trivial) HI.out.1 HI.out.2.2 HRR.out HOO.out HVV.out hp
          have hrow := hp.row
          show bodyPost _ _ _ _ _ (put4 wz w.heap.size 0 (.int .i64 xk) (.string xt) (.slice pn nn cn) (.slice pk nk ck))
          generalize put4 wz w.heap.size 0 (.int .i64 xk) (.string xt) (.slice pn nn cn) (.slice pk nk ck) = w4 at y1 y2 y3 hrow ⊢
          refine ⟨rfl, _, ?_, _, rfl, y1, y2, y3⟩
          simp [results, Tryz.f95, go_sem, World.cell?, hrow]
        · refine hc.mono ?_
          rintro e wz ⟨rfl, ho3⟩
          subst hrv
          skip
          exact ⟨rfl, rfl, H2.out.2.1.trans ho3⟩
    · refine (is_b g S p d 102 true _ H0.out.1 HS.out (by exact HB102.out)).mono ?_
      rintro e w1 ⟨rfl, hr1, ho1⟩
      have H1 : Hid (Rr g S p d w1 ∧ Only g w w1 ∧ RwT w1 ∧ w1.heap[w.heap.size]? = some (.cells zr4 41 (0, 0))) := Hid.mk' ⟨hr1, HKEEP.out _ _ H0.out.2 ho1⟩
      clear hr1 ho1
      go_wp2_with fail
      have HE2 : Hid (wrdP (Sums.bl S) 2 [102, 97, 108, 115, 101] p = r) := Hid.mk' (by rw [← HE.out, barP, HB110.out, if_neg (by decide), HB102.out, if_pos rfl])
      have HI : Hid (Only g w _ ∧ RwT _ ∧ _) := Hid.mk' H1.out.2
      have HI0 := Hid.mk' H1.out.1
      have HC : Hid (∀ X, Rr g S p d X → Calls Tryz.prog 127 #[.pointer (some ⟨g, 0, none⟩), .string ⟨#[102, 97, 108, 115, 101]⟩, .int .i64 ((2 : Nat) : Int)] X (r.PostV g S d X)) := Hid.mk' fun X h1 => by
        have := word_any g S ⟨#[102, 97, 108, 115, 101]⟩ d p 2 X h1 HS.out (by decide)
        rw [show Sums.bl ⟨#[102, 97, 108, 115, 101]⟩ = [102, 97, 108, 115, 101] from rfl] at this
        rw [← HE2.out]
        exact this
      rcases postV_two (HC.out _ H1.out.1) with ⟨v, q, hrv, hc⟩ | ⟨c, q, hrv, hc⟩
      · refine hc.mono ?_
        rintro e wz ⟨cs, rfl, hr3, ho3, hv3⟩
        subst hrv
        skip
        obtain ⟨xk, xt, pn, nn, cn, pk, nk, ck, rfl⟩ : ∃ (xk : Int) (xt : ByteArray) (pn : Option Addr) (nn cn : Nat) (pk : Option Addr) (nk ck : Nat), cs = #[.int .i64 xk, .string xt, .slice pn nn cn, .slice pk nk ck] := by
          obtain ⟨F, _, hv4⟩ := hv3
          exact hv4.form
        have HX : Hid (Only g w wz ∧ RwT wz ∧ wz.heap[w.heap.size]? = some (.cells zr4 41 (0, 0))) := Hid.mk' (HKEEP.out _ _ H1.out.2 ho3)
        have HRR := Hid.mk' hr3
        have HOO := Hid.mk' ho3
        have HVV := Hid.mk' hv3
        clear hr3 ho3 hv3 hc
        obtain ⟨r0, r1, r2, r3, z0, z1, z2, z3⟩ := rz_of HX.out.2.2
        go_wp2_with fail
        have hp := put4_res (.int .i64 xk) (.string xt) (.slice pn nn cn) (.slice pk nk ck) HX.out.2.2
        obtain ⟨y1, y2, y3⟩ := bare_done HGL.out rfl (.inr trivial) HI.out.1 HI.out.2.2 HRR.out HOO.out HVV.out hp
        have hrow := hp.row
        show bodyPost _ _ _ _ _ (put4 wz w.heap.size 0 (.int .i64 xk) (.string xt) (.slice pn nn cn) (.slice pk nk ck))
        generalize put4 wz w.heap.size 0 (.int .i64 xk) (.string xt) (.slice pn nn cn) (.slice pk nk ck) = w4 at y1 y2 y3 hrow ⊢
        refine ⟨rfl, _, ?_, _, rfl, y1, y2, y3⟩
        simp [results, Tryz.f95, go_sem, World.cell?, hrow]
      · refine hc.mono ?_
        rintro e wz ⟨rfl, ho3⟩
        subst hrv
        skip
        exact ⟨rfl, rfl, H1.out.2.1.trans ho3⟩
  · refine (is_b g S p d 110 true _ H9.out.1 HS.out (by exact HB110.out)).mono ?_
    rintro e w0 ⟨rfl, hr1, ho1⟩
    have H0 : Hid (Rr g S p d w0 ∧ Only g w w0 ∧ RwT w0 ∧ w0.heap[w.heap.size]? = some (.cells zr4 41 (0, 0))) := Hid.mk' ⟨hr1, HKEEP.out _ _ H9.out.2 ho1⟩
    clear hr1 ho1
    go_wp2_with fail
    have HE2 : Hid (wrdP (Sums.bl S) 1 [110, 117, 108, 108] p = r) := Hid.mk' (by rw [← HE.out, barP, HB110.out, if_pos rfl])
    have HI : Hid (Only g w _ ∧ RwT _ ∧ _) := Hid.mk' H0.out.2
    have HI0 := Hid.mk' H0.out.1
    have HC : Hid (∀ X, Rr g S p d X → Calls Tryz.prog 127 #[.pointer (some ⟨g, 0, none⟩), .string ⟨#[110, 117, 108, 108]⟩, .int .i64 ((1 : Nat) : Int)] X (r.PostV g S d X)) := Hid.mk' fun X h1 => by
      have := word_any g S ⟨#[110, 117, 108, 108]⟩ d p 1 X h1 HS.out (by decide)
      rw [show Sums.bl ⟨#[110, 117, 108, 108]⟩ = [110, 117, 108, 108] from rfl] at this
      rw [← HE2.out]
      exact this
    rcases postV_two (HC.out _ H0.out.1) with ⟨v, q, hrv, hc⟩ | ⟨c, q, hrv, hc⟩
    · refine hc.mono ?_
      rintro e wz ⟨cs, rfl, hr3, ho3, hv3⟩
      subst hrv
      skip
      obtain ⟨xk, xt, pn, nn, cn, pk, nk, ck, rfl⟩ : ∃ (xk : Int) (xt : ByteArray) (pn : Option Addr) (nn cn : Nat) (pk : Option Addr) (nk ck : Nat), cs = #[.int .i64 xk, .string xt, .slice pn nn cn, .slice pk nk ck] := by
        obtain ⟨F, _, hv4⟩ := hv3
        exact hv4.form
      have HX : Hid (Only g w wz ∧ RwT wz ∧ wz.heap[w.heap.size]? = some (.cells zr4 41 (0, 0))) := Hid.mk' (HKEEP.out _ _ H0.out.2 ho3)
      have HRR := Hid.mk' hr3
      have HOO := Hid.mk' ho3
      have HVV := Hid.mk' hv3
      clear hr3 ho3 hv3 hc
      obtain ⟨r0, r1, r2, r3, z0, z1, z2, z3⟩ := rz_of HX.out.2.2
      go_wp2_with fail
      have hp := put4_res (.int .i64 xk) (.string xt) (.slice pn nn cn) (.slice pk nk ck) HX.out.2.2
      obtain ⟨y1, y2, y3⟩ := bare_done HGL.out rfl (.inr trivial) HI.out.1 HI.out.2.2 HRR.out HOO.out HVV.out hp
      have hrow := hp.row
      show bodyPost _ _ _ _ _ (put4 wz w.heap.size 0 (.int .i64 xk) (.string xt) (.slice pn nn cn) (.slice pk nk ck))
      generalize put4 wz w.heap.size 0 (.int .i64 xk) (.string xt) (.slice pn nn cn) (.slice pk nk ck) = w4 at y1 y2 y3 hrow ⊢
      refine ⟨rfl, _, ?_, _, rfl, y1, y2, y3⟩
      simp [results, Tryz.f95, go_sem, World.cell?, hrow]
    · refine hc.mono ?_
      rintro e wz ⟨rfl, ho3⟩
      subst hrv
      skip
      exact ⟨rfl, rfl, H0.out.2.1.trans ho3⟩
end Go.Proofs.YtkplbggefiemdaaGreatDoor
