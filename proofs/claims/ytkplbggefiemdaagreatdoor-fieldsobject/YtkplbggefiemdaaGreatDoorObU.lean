/-
  object: the reader: a quoted text, in a text of bytes below 128 without strokes. Conditions: as each says.
-/
import Derived.Test.YtkplbggefiemdaaGreatDoorObT
namespace Go.Proofs.YtkplbggefiemdaaGreatDoor
open Go.RowKit
set_option linter.unusedVariables false
set_option linter.unusedSimpArgs false
/-- where bytes that mean themselves end -/
def qtS : List Nat → Nat → Nat
  | [], p => p
  | x :: r, p => if 32 ≤ x ∧ x ≤ 127 ∧ x ≠ 34 ∧ x ≠ 92 then qtS r (p + 1) else p
theorem qtS_le : ∀ (l : List Nat) (p : Nat), p ≤ qtS l p ∧ qtS l p ≤ p + l.length
  | [], p => by simp [qtS]
  | x :: r, p => by
    have := qtS_le r (p + 1)
    rw [qtS]
    split <;> simp <;> omega
/-- a text of bytes below 128, without strokes -/
def plT (S : ByteArray) : Prop := ∀ x ∈ Sums.bl S, x < 128 ∧ x ≠ 92
theorem qs_round (S : ByteArray) (hpl : plT S) (q z : Nat) (h : qtS ((Sums.bl S).drop q) q = z) : (sgl ((Sums.bl S).drop q) = true ∧ qtS ((Sums.bl S).drop (q + 1)) (q + 1) = z ∧ ((Sums.bl S).drop (q + 1)).length < ((Sums.bl S).drop q).length) ∨ (q = z ∧ sgl ((Sums.bl S).drop q) = false ∧ low ((Sums.bl S).drop q) = true ∧ rngO 92 92 ((Sums.bl S).drop q) = false) := by
  cases hq : (Sums.bl S).drop q with
  | nil =>
    rw [hq] at h
    exact .inr ⟨h, rfl, rfl, rfl⟩
  | cons x r =>
    have hn : (Sums.bl S).drop (q + 1) = r := by rw [← List.drop_drop, hq]; rfl
    have hx := hpl x (List.mem_of_mem_drop (i := q) (by rw [hq]; simp))
    rw [hq, qtS] at h
    by_cases h2 : 32 ≤ x ∧ x ≤ 127 ∧ x ≠ 34 ∧ x ≠ 92
    · rw [if_pos h2] at h
      refine .inl ⟨?_, by rw [hn]; exact h, by rw [hn]; simp⟩
      simp [sgl]
      omega
    · rw [if_neg h2] at h
      refine .inr ⟨h, ?_, ?_, ?_⟩
      · simp [sgl]
        omega
      · simp [low]
        omega
      · rw [rng1]
        simp
        omega
/-- a quoted text in such a text -/
def pqS (S : ByteArray) (a : Nat) : Rv ByteArray :=
  if rngO 34 34 ((Sums.bl S).drop a) = true then
    if rngO 34 34 ((Sums.bl S).drop (qtS ((Sums.bl S).drop (a + 1)) (a + 1))) = true then .ok (S.extract (a + 1) (qtS ((Sums.bl S).drop (a + 1)) (a + 1))) (qtS ((Sums.bl S).drop (a + 1)) (a + 1) + 1)
    else .no 130 (qtS ((Sums.bl S).drop (a + 1)) (a + 1))
  else .no 130 a
theorem pqS_lt {S : ByteArray} (hS : S.size ≤ 65536) (a : Nat) (t : ByteArray) (b : Nat) (h : pqS S a = .ok t b) : a < b ∧ t.size ≤ 65536 := by
  unfold pqS at h
  have := (qtS_le ((Sums.bl S).drop (a + 1)) (a + 1)).1
  split at h
  · split at h
    · injection h with h1 h2
      refine ⟨by omega, ?_⟩
      rw [← h1, ByteArray.size_extract]
      omega
    · cases h
  · cases h
set_option maxRecDepth 100000 in
set_option maxHeartbeats 8000000 in
theorem quoted_low (g : Nat) (S : ByteArray) (hpl : plT S) (p z d : Nat) (b : Bool) (w : World) (h : Rr g S p d w) (hS : S.size ≤ 65536) (hg : g ≠ 6) (ht : RwT w) (h34 : rngO 34 34 ((Sums.bl S).drop p) = true) (hz : qtS ((Sums.bl S).drop (p + 1)) (p + 1) = z) (hb : rngO 34 34 ((Sums.bl S).drop z) = b) :
    Calls Tryz.prog 128 #[.pointer (some ⟨g, 0, none⟩)] w ((if b = true then Rv.ok (S.extract (p + 1) z) (z + 1) else .no 130 z : Rv ByteArray).PostT g S d w) := by
  have HS := Hid.mk' hS
  have HT := Hid.mk' (need_any g S p d 34 _ w h hS rfl)
  rw [h34] at HT
  have HZ := Hid.mk' hz
  have HG := Hid.mk' hg
  have HW := Hid.mk' ht
  have hpz : p + 1 ≤ z := by rw [← hz]; exact (qtS_le _ _).1
  have HPL := Hid.mk' hpl
  have HBB := Hid.mk' hb
  have HPZ := Hid.mk' hpz
  obtain ⟨t, htx⟩ : ∃ t, S.extract (p + 1) z = t := ⟨_, rfl⟩
  rw [htx]
  have HTX := Hid.mk' htx
  have hg0 := h.lt
  obtain ⟨a, ha⟩ : ∃ a, p + 1 = a := ⟨_, rfl⟩
  rw [ha] at HZ HPZ HTX
  have HT2 : Hid (Calls Tryz.prog 153 #[.pointer (some ⟨g, 0, none⟩), .int .u8 34] w fun e w' => e = .returned (.tuple #[]) ∧ Rr g S a d w' ∧ Only g w w') := Hid.mk' (by rw [← ha]; exact HT.out)
  obtain ⟨rr, hrr⟩ : ∃ rr, (if b = true then Rv.ok t (z + 1) else .no 130 z : Rv ByteArray) = rr := ⟨_, rfl⟩
  rw [hrr]
  have HE := Hid.mk' hrr
  clear h hS h34 hz hg ht htx HT ha hpz hpl hb hrr
  go_enter Tryz.func128, Tryz.ntmps128
  go_wp2_with fail
  refine HT2.out.mono ?_
  rintro e w1 ⟨rfl, hr1, ho1⟩
  have H1 := Hid.mk' (And.intro hr1 ho1)
  clear hr1 ho1 HT2
  go_wp2_with fail
  go_loopg [3] 1 (fun k mv wr => mv = .slice none 0 0 ∧ Hid (Rr g S a d wr ∧ Only g w wr))
  case atStart => exact ⟨rfl, H1⟩
  case round =>
    obtain ⟨rfl, H2⟩ := hrel
    clear H1
    rename World => wo
    obtain ⟨c0, c1, c2, f1, f2⟩ := H2.out.1.cells
    go_wp2_with fail
    clear c0 c1 c2 f1 f2
    go_loopg [] ((Sums.bl S).drop a).length (fun k wr => ∃ q : Nat, Hid (((Sums.bl S).drop q).length = k ∧ qtS ((Sums.bl S).drop q) q = z) ∧ Hid (Rr g S q d wr ∧ Only g w wr))
    case atStart => exact ⟨a, ⟨rfl, HZ.out⟩, H2⟩
    case round =>
      obtain ⟨q, HK, H⟩ := hrel
      clear H2
      rename World => wi
      rcases qs_round S HPL.out q z HK.out.2 with ⟨hs, hb, hlt⟩ | ⟨rfl, hs, hlo, hq⟩
      · have HB := Hid.mk' (And.intro hb hlt)
        have HSG := Hid.mk' hs
        clear hb hlt hs
        go_wp2_with fail
        refine (single_any g S q d true _ H.out.1 HS.out HSG.out).mono ?_
        rintro e w2 ⟨rfl, hr1, ho1⟩
        have H3 : Hid (Rr g S (q + 1) d w2 ∧ Only g w w2) := ⟨hr1, H.out.2.trans ho1⟩
        clear hr1 ho1
        go_wp2_with fail
        go_roundg ((Sums.bl S).drop (q + 1)).length
        case measure => have := HK.out.1; have := HB.out.2; omega
        case rel => exact ⟨q + 1, ⟨rfl, HB.out.1⟩, H3⟩
      · have HSG := Hid.mk' hs
        have HLO := Hid.mk' hlo
        have HQ92 := Hid.mk' hq
        clear hs hlo hq
        go_wp2_with fail
        refine (single_any g S q d false _ H.out.1 HS.out HSG.out).mono ?_
        rintro e w2 ⟨rfl, hr1, ho1⟩
        have H3 : Hid (Rr g S q d w2 ∧ Only g w w2) := ⟨hr1, H.out.2.trans ho1⟩
        clear hr1 ho1
        go_wp2_with fail
        refine (several_f g S q d _ H3.out.1 HS.out HG.out (HW.out.only H3.out.2 HG.out) HLO.out).mono ?_
        rintro e w3 ⟨rfl, hr1, ho1⟩
        have H4 : Hid (Rr g S q d w3 ∧ Only g w w3) := ⟨hr1, H3.out.2.trans ho1⟩
        clear hr1 ho1 H3
        go_wp2_with fail
        obtain ⟨c0, c1, c2, f1, f2⟩ := H4.out.1.cells
        have hlt3 := H4.out.1.lt
        have HLT := Hid.mk' hlt3
        have hsl : ∀ W, (Instr.slice 9 (.string S) (some (.int .i64 (a : Int))) (some (.int .i64 (q : Int))) none).run Tryz.prog W = .ok (.string t) W := fun W => by rw [← HTX.out]; exact ob_slice S a q W HPZ.out H4.out.1.le
        have hts : t.size ≤ 65536 := by rw [← HTX.out, ByteArray.size_extract]; have := HS.out; omega
        have HTS := Hid.mk' hts
        have hqS : (q : Int) ≤ (S.size : Int) := by have := H4.out.1.le; omega
        obtain ⟨i0, hi, hz0, hz1, hz2⟩ : ∃ i, Tryz.prog.info? 5 = some i ∧ i.zero = some (.int .u8 0) ∧ i.size = 1 ∧ i.bytes = 1 := ⟨_, rfl, rfl, rfl, rfl⟩
        have HNIL : Hid (∀ W : World, W.ownsRow w3.heap.size 5 1 (.slice none 0 0) 0 []) := Hid.mk' (fun W => ⟨rfl, .inl ⟨rfl, rfl⟩⟩)
        clear hlt3 hts
        go_region_held3 (fun w' => w'.cell? ⟨g, 0, none⟩ = some (.string S) ∧ w'.cell? ⟨g, 1, none⟩ = some (.int .i64 (q : Int))) (first | go_keep | exact ⟨k0, k1⟩)
          ((refine step_append_str (by rfl) _ _ _ _ (by rfl) w3.heap.size 5 i0 Tryz.underlying101 Tryz.underlying9 hi hz0 hz1 hz2 (.slice none 0 0) 0 [] (by rfl) (HNIL.out _) t (by rfl) (by unfold maxLen; have := HTS.out; omega) (by have := HTS.out; omega) (by simp) ?_; intro v5 w5 hown5 hgrow5; have k0 : w5.cell? ⟨g, 0, none⟩ = some (.string S) := (hgrow5.cell_far ⟨g, 0, none⟩ (by exact HLT.out) (by simp [Value.ownBlock])).trans c0; have k1 : w5.cell? ⟨g, 1, none⟩ = some (.int .i64 (q : Int)) := (hgrow5.cell_far ⟨g, 1, none⟩ (by exact HLT.out) (by simp [Value.ownBlock])).trans c1; have HO5 := Hid.mk' hown5; have HG5 := Hid.mk' hgrow5; clear hown5 hgrow5))
        have H5 : Hid (Rr g S q d w5 ∧ Only g w w5) := Hid.mk' (by
          have hbl := HG5.out.block g HLT.out (by simp [Value.ownBlock])
          refine ⟨⟨hbl.trans H4.out.1.row, H4.out.1.le⟩, ?_⟩
          have hod : Only g w w3.drew := ⟨H4.out.2.os, H4.out.2.tape, H4.out.2.output, H4.out.2.size, H4.out.2.block⟩
          exact hod.trans ⟨HG5.out.os, HG5.out.tape, HG5.out.output, HG5.out.size, fun k hk _ => HG5.out.block k hk (by simp [Value.ownBlock])⟩)
        have HR5 : Hid (w5.ownsRow w3.heap.size 5 1 v5 t.size (byv (Sums.bl t))) := Hid.mk' (by
          have := HO5.out
          rw [List.nil_append, Nat.zero_add, strCells_byvO] at this
          exact this)
        clear HO5 HG5 k0 k1 c0 c1 c2 f1 f2 hsl HNIL
        go_wp2_with fail
        refine (take_b g S q d 34 b _ H5.out.1 HS.out HBB.out).mono ?_
        rintro e w6 ⟨rfl, hr1, ho1⟩
        cases b
        · have H6 : Hid (Rr g S q d w6 ∧ Only g w w6) := ⟨hr1, H5.out.2.trans ho1⟩
          have HN := Hid.mk' (need_any g S q d 92 _ w6 hr1 HS.out rfl)
          rw [HQ92.out] at HN
          clear hr1 ho1 HR5 H5
          go_wp2_with fail
          refine HN.out.mono ?_
          rintro e w7 ⟨rfl, hr7, ho7⟩
          have hr2 : Rv.no 130 q = rr := HE.out
          subst hr2
          exact ⟨rfl, rfl, H6.out.2.trans ho7⟩
        · have H6 : Hid (Rr g S (q + 1) d w6 ∧ Only g w w6) := ⟨hr1, H5.out.2.trans ho1⟩
          have hcv := conv_own w3.heap.size t.size (Sums.bl t) w6 v5 (Sums.bl_length t) (own_keptO HR5.out fun k hk => ho1.block k (HR5.out.lt k hk).2 (by have := (HR5.out.lt k hk).1; have := HLT.out; omega))
          rw [nums_bl] at hcv
          have hr2 : Rv.ok t (q + 1) = rr := HE.out
          clear hr1 ho1 HR5 H5
          subst hr2
          go_wp2_with fail
          go_ret
          exact ⟨rfl, H6.out⟩
theorem quoted_none (g : Nat) (S : ByteArray) (p d : Nat) (w : World) (h : Rr g S p d w) (hS : S.size ≤ 65536) (h34 : rngO 34 34 ((Sums.bl S).drop p) = false) :
    Calls Tryz.prog 128 #[.pointer (some ⟨g, 0, none⟩)] w ((Rv.no 130 p : Rv ByteArray).PostT g S d w) := by
  have HT := Hid.mk' (need_any g S p d 34 _ w h hS rfl)
  rw [h34] at HT
  clear h hS h34
  go_enter Tryz.func128, Tryz.ntmps128
  go_wp2_with fail
  refine HT.out.mono ?_
  rintro e w7 ⟨rfl, hr7, ho7⟩
  exact ⟨rfl, rfl, ho7⟩
theorem quoted_pl (S : ByteArray) (hpl : plT S) (hS : S.size ≤ 65536) (g d a : Nat) (X : World) (hg : g ≠ 6) (h : Rr g S a d X) (ht : RwT X) : Calls Tryz.prog 128 #[.pointer (some ⟨g, 0, none⟩)] X ((pqS S a).PostT g S d X) := by
  unfold pqS
  cases h34 : rngO 34 34 ((Sums.bl S).drop a)
  · rw [if_neg (by decide)]
    exact quoted_none g S a d X h hS h34
  · rw [if_pos rfl]
    exact quoted_low g S hpl a _ d _ X h hS hg ht h34 rfl rfl
end Go.Proofs.YtkplbggefiemdaaGreatDoor
