/-
  The document's before: of each place the latest one ahead of it with the same four bytes. Conditions: as it says.
-/
import Derived.Test.YtchjmhgalbkjkaaRfb
namespace Go.Proofs.Ytchjmhgalbkjkaa
open Go.RowKit
open Go.Maps (Keyed IsMap)
set_option linter.unusedVariables false
theorem keyedI : Keyed Try.prog 3 := Go.Maps.int_keyed Try.underlying3
structure TellsI (bs : List Nat) (k : Nat) (D : DataW Unit) : Prop where
  map : IsMap D
  has : ∀ x : Nat, x < 4294967296 → Go.Maps.has D (.int .i64 (x : Int)) = (Lz.lastAt bs x k).isSome
  at_ : ∀ x : Nat, x < 4294967296 → ∀ q, Lz.lastAt bs x k = some q → ∀ z, D.atKey (.int .i64 (x : Int)) z = .lit (.int .i64 (q : Int))
theorem tellsI_empty (bs : List Nat) : TellsI bs 0 (.map []) := ⟨Go.Maps.isMap_empty, fun x _ => rfl, fun x _ q h => by simp [Lz.lastAt] at h⟩
theorem key_litI (x : Nat) (hx : x < 4294967296) : WideAt.IsKeyLit (.int .i64 (x : Int)) := by
  simp [WideAt.IsKeyLit]
theorem TellsI.step {bs : List Nat} {k : Nat} {D : DataW Unit} (h : TellsI bs k D) (hf : Lz.four bs k < 4294967296) : TellsI bs (k + 1) (D.put (.int .i64 (Lz.four bs k : Nat)) (.lit (.int .i64 (k : Int)))) := by
  have hkl := key_litI (Lz.four bs k) hf
  refine ⟨h.map.put _ _, fun x hx => ?_, fun x hx q hq z => ?_⟩
  · by_cases e : Lz.four bs k = x
    · subst e
      rw [Go.Maps.has_put_same h.map hkl, Lz.lastAt, if_pos rfl]
      rfl
    · rw [Go.Maps.has_put_other (by intro h; simp at h; omega), h.has x hx, Lz.lastAt, if_neg e]
  · by_cases e : Lz.four bs k = x
    · subst e
      rw [Go.Maps.atKey_put_same h.map hkl]
      rw [Lz.lastAt, if_pos rfl] at hq
      simp at hq
      rw [hq]
    · rw [Go.Maps.atKey_put_other (by intro h; simp at h; omega)]
      rw [Lz.lastAt, if_neg e] at hq
      exact h.at_ x hx q hq z
/-- the row so far -/
def nearL (bs : List Nat) (k : Nat) : List Value := (List.range k).map fun p => .int .i64 (Lz.nearOf bs p)
theorem nearL_snoc (bs : List Nat) (k : Nat) : nearL bs (k + 1) = nearL bs k ++ [.int .i64 (Lz.nearOf bs k)] := by
  simp [nearL, List.range_succ]
theorem nearL_at (bs : List Nat) (m q : Nat) (h : q < m) : (nearL bs m)[q]? = some (.int .i64 (Lz.nearOf bs q)) := by
  simp [nearL, h]
theorem i1_news (w : World) (c : Int) (t : TypeId) : ∀ (j : Nat) (u : Value), [Value.int .i64 c][j]? = some u → (w.alloc (.cells #[.int .i64 c] t)).cell? ((⟨w.heap.size, 0, none⟩ : Addr).add j) = some u := by
  intro j u hu
  have hj : j < 1 := (List.getElem?_eq_some_iff.1 hu).1
  obtain rfl : j = 0 := by omega
  rw [Addr.add_lit]
  simp at hu
  subst hu
  have := heap_alloc_new w (.cells #[.int .i64 c] t)
  simp only [World.cell?]
  rw [this]
  rfl
theorem i1_one (c : Int) : ∀ u ∈ [Value.int .i64 c], u.oneCell' = true := by
  intro u hu
  simp at hu
  rw [hu]
  rfl
theorem bfr_end {bs : List Nat} {w0 wr w2 w5 : World} {b : Option Addr} {k cap nd : Nat} {c : Int} {v2 : Value} {D : DataW Unit} (hb : Below w0.heap.size w0 wr) (hm : wr.ownsMap Try.prog 3 (plainElem Try.prog 3) w0.heap.size k D) (hr : wr.ownsRow (w0.heap.size + 1) 3 1 (.slice b k cap) k (nearL bs k))
    (ho : w2.ownsRow (w0.heap.size + 1) 3 1 v2 (k + 1) (nearL bs k ++ [.int .i64 c])) (hg : ((wr.drewN nd).alloc (.cells #[.int .i64 c] 3)).grownBy w2 (Value.slice b k cap).ownBlock) (hc : c = Lz.nearOf bs k) (h5 : w2.grownBy w5 (some w0.heap.size)) :
    w5.ownsRow (w0.heap.size + 1) 3 1 v2 (k + 1) (nearL bs (k + 1)) ∧ Below w0.heap.size w0 w5 := by
  have hlt : w0.heap.size < (wr.drewN nd).heap.size := hm.lt
  have hlt2 : w0.heap.size < wr.heap.size := hm.lt
  have hs2 := hg.size
  simp only [World.alloc, Array.size_push] at hs2
  refine ⟨?_, ?_⟩
  · rw [nearL_snoc, ← hc]
    exact row_kept ho fun j hj => h5.block j (ho.lt j hj).2 (by have := (ho.lt j hj).1; intro e; simp at e; omega)
  · exact (((hb.drewN' nd).alloc (by omega) _).grown hg (by simp [World.alloc]; omega) (fun j hj => by have := (hr.lt j hj).1; omega)).grown h5 (by omega) (by intro j hj; simp at hj; omega)
theorem bfr_map {bs : List Nat} {w0 wr w2 : World} {b : Option Addr} {k cap nd : Nat} {o : Obj} {D : DataW Unit} (hm : wr.ownsMap Try.prog 3 (plainElem Try.prog 3) w0.heap.size k D) (hr : wr.ownsRow (w0.heap.size + 1) 3 1 (.slice b k cap) k (nearL bs k)) (hg : ((wr.drewN nd).alloc o).grownBy w2 (Value.slice b k cap).ownBlock) :
    w2.ownsMap Try.prog 3 (plainElem Try.prog 3) w0.heap.size k D :=
  ((show (wr.drewN nd).ownsMap Try.prog 3 (plainElem Try.prog 3) w0.heap.size k D from hm).alloc o).kept hg (fun e => by have := (hr.lt _ e.symm).1; omega)
set_option maxRecDepth 100000 in
set_option maxHeartbeats 1000000 in
theorem refBefore_any (s : ByteArray) (w : World) (hs : s.size ≤ 4294967296) :
    Calls Try.prog 44 #[.string s] w fun e w' => ∃ v, e = .returned v ∧ w'.ownsRow (w.heap.size + 1) 3 1 v (s.size - 3) (nearL (Sums.bl s) (s.size - 3)) ∧ Below w.heap.size w w' := by
  obtain ⟨i0, hi, hz0, hz1, hz2⟩ := info_parts infoI
  obtain ⟨m, hm⟩ : ∃ m, s.size - 3 = m := ⟨_, rfl⟩
  rw [hm]
  have hmb : m ≤ 4294967296 := by omega
  have hmm := run_makeMap (P := Try.prog) 92 w
  have HM := Hid.mk' hm
  clear hm
  go_enter Try.func44, Try.ntmps44
  go_wp2
  go_loopw [3, 5] (fun ov kv wr => ∃ (k : Nat) (D : DataW Unit), kv = .int .i64 (k : Int) ∧ k ≤ m ∧ wr.ownsMap Try.prog 3 (plainElem Try.prog 3) w.heap.size k D ∧ TellsI (Sums.bl s) k D ∧ wr.ownsRow (w.heap.size + 1) 3 1 ov k (nearL (Sums.bl s) k) ∧ Below w.heap.size w wr) (fun _ kv _ => m - (intOf kv).toNat)
  case atStart => exact ⟨0, .map [], rfl, Nat.zero_le _, World.ownsMap_made w _ _ _, tellsI_empty _, World.ownsRow_nil _ _ _ _, (Below.refl _ _).alloc (Nat.le_refl _) _⟩
  case round =>
    obtain ⟨k, D, rfl, hk, hmap, htel, hrow, hbel⟩ := hrel
    clear hmm
    obtain ⟨b, cap, rfl⟩ := row_shape hrow
    by_cases hkm : k < m
    · have hm := HM.out
      have hkI : (k : Int) + 4 ≤ (s.size : Int) := by omega
      obtain ⟨x, hxe⟩ : ∃ x, Lz.four (Sums.bl s) k = x := ⟨_, rfl⟩
      have hx : x < 4294967296 := by rw [← hxe]; exact four_lt _ (Sums.bl_byt s) k
      have HFB := Hid.mk' (fun w => refFour_any s k w hs (by omega))
      rw [hxe] at HFB
      have hwf : (Lit.int .i64 (x : Int)).wf = true := by
        simp [Lit.wf, IntKind.min, IntKind.max, IntKind.signed, IntKind.bits]
        omega
      have hwk : (Lit.int .i64 (k : Int)).wf = true := by
        simp [Lit.wf, IntKind.min, IntKind.max, IntKind.signed, IntKind.bits]
        omega
      have hlt : w.heap.size < (wr.drewN 0).heap.size := hmap.lt
      have HMAP := Hid.mk' hmap
      have HTE := Hid.mk' htel
      have HROW := Hid.mk' hrow
      have HBE := Hid.mk' hbel
      have HX := Hid.mk' hxe
      have HHAS := Hid.mk' (htel.has x hx)
      have hnear : Lz.nearOf (Sums.bl s) k = Lz.orNone (Lz.lastAt (Sums.bl s) x k) := by rw [Lz.nearOf, hxe]
      have hat0 := htel.at_ x hx
      clear hmap htel hrow hbel hxe hm
      cases hla : Lz.lastAt (Sums.bl s) x k with
      | none =>
        rw [hla] at HHAS hnear
        have HN := Hid.mk' hnear
        clear hnear hat0 hla
        go_wp2_with (first | (go_at_call 54; refine (HFB.out _).mono ?_; rintro e w1 ⟨rfl, nd, rfl⟩) | (at_lookup; refine wpList_lookup_own_ok_int _ rfl _ _ 92 rfl 3 3 .i64 keyedI Try.underlying92 Try.underlying3 (zero_int _) w.heap.size k D rfl (by exact HMAP.out) (.int .i64 (x : Int)) (.int .i64 (x : Int)) rfl (Go.Maps.keyOf_int_mk Try.underlying3 hwf) ?_; intro c hat hwc; rw [HHAS.out]; skip) | (at_builtin; refine wpList_append_own _ rfl _ _ 29 rfl (w.heap.size + 1) 3 i0 (.int .i64 0) 1 8 Try.underlying29 hi hz0 hz1 hz2 rfl (by decide) (.slice b k cap) k (nearL (Sums.bl s) k) rfl (by exact (own_alloc HROW.out _)) ⟨_, 0, none⟩ 1 1 [.int .i64 (-1)] rfl rfl (i1_news _ _ _) (i1_one _) (by unfold maxLen; omega) (by omega) (by have : w.heap.size < wr.heap.size := hlt; simp; omega) ?_; intro v2 w2 hown2 hgrow2 _; have HO2 := Hid.mk' hown2; have HG2 := Hid.mk' hgrow2; have HM2 := Hid.mk' (bfr_map HMAP.out HROW.out hgrow2); obtain ⟨b2, cap2, rfl⟩ := row_shape hown2; clear hown2 hgrow2) | (at_mapUpdate; refine wpList_mapUpdate_own _ rfl _ _ _ 92 rfl 3 3 keyedI Try.underlying92 (plainElem Try.prog 3) w.heap.size k D rfl (by exact HM2.out) (by unfold maxLen; omega) (.int .i64 (x : Int)) (.int .i64 (k : Int)) (.int .i64 (x : Int)) rfl rfl (Go.Maps.keyOf_int_mk Try.underlying3 hwf) (.lit (.int .i64 (k : Int))) [] (plainElem_int Try.underlying3 hwk) ?_; intro w5 hown5 hgrow5; have HM5 := Hid.mk' hown5; have HG5 := Hid.mk' hgrow5; clear hown5 hgrow5) | fail)
        go_roundw
        case rel =>
          have he := bfr_end HBE.out HMAP.out HROW.out HO2.out HG2.out (by rw [HN.out]; rfl) HG5.out
          exact ⟨k + 1, _, by simp, by omega, HM5.out, by rw [← HX.out]; exact HTE.out.step (by rw [HX.out]; exact hx), he.1, he.2⟩
        case measure =>
          simp [intOf]
          omega
      | some q =>
        rw [hla] at HHAS hnear
        have HN := Hid.mk' hnear
        have HAT := Hid.mk' (hat0 q hla)
        clear hnear hat0 hla
        go_wp2_with (first | (go_at_call 54; refine (HFB.out _).mono ?_; rintro e w1 ⟨rfl, nd, rfl⟩) | (at_lookup; refine wpList_lookup_own_ok_int _ rfl _ _ 92 rfl 3 3 .i64 keyedI Try.underlying92 Try.underlying3 (zero_int _) w.heap.size k D rfl (by exact HMAP.out) (.int .i64 (x : Int)) (.int .i64 (x : Int)) rfl (Go.Maps.keyOf_int_mk Try.underlying3 hwf) ?_; intro c hat hwc; rw [HHAS.out]; rw [HAT.out] at hat; simp at hat; subst hat) | (at_builtin; refine wpList_append_own _ rfl _ _ 29 rfl (w.heap.size + 1) 3 i0 (.int .i64 0) 1 8 Try.underlying29 hi hz0 hz1 hz2 rfl (by decide) (.slice b k cap) k (nearL (Sums.bl s) k) rfl (by exact (own_alloc HROW.out _)) ⟨_, 0, none⟩ 1 1 [.int .i64 (q : Int)] rfl rfl (i1_news _ _ _) (i1_one _) (by unfold maxLen; omega) (by omega) (by have : w.heap.size < wr.heap.size := hlt; simp; omega) ?_; intro v2 w2 hown2 hgrow2 _; have HO2 := Hid.mk' hown2; have HG2 := Hid.mk' hgrow2; have HM2 := Hid.mk' (bfr_map HMAP.out HROW.out hgrow2); obtain ⟨b2, cap2, rfl⟩ := row_shape hown2; clear hown2 hgrow2) | (at_mapUpdate; refine wpList_mapUpdate_own _ rfl _ _ _ 92 rfl 3 3 keyedI Try.underlying92 (plainElem Try.prog 3) w.heap.size k D rfl (by exact HM2.out) (by unfold maxLen; omega) (.int .i64 (x : Int)) (.int .i64 (k : Int)) (.int .i64 (x : Int)) rfl rfl (Go.Maps.keyOf_int_mk Try.underlying3 hwf) (.lit (.int .i64 (k : Int))) [] (plainElem_int Try.underlying3 hwk) ?_; intro w5 hown5 hgrow5; have HM5 := Hid.mk' hown5; have HG5 := Hid.mk' hgrow5; clear hown5 hgrow5) | fail)
        go_roundw
        case rel =>
          have he := bfr_end HBE.out HMAP.out HROW.out HO2.out HG2.out (by rw [HN.out]; rfl) HG5.out
          exact ⟨k + 1, _, by simp, by omega, HM5.out, by rw [← HX.out]; exact HTE.out.step (by rw [HX.out]; exact hx), he.1, he.2⟩
        case measure =>
          simp [intOf]
          omega
    · obtain rfl : k = m := by omega
      have hm := HM.out
      have hkI : ¬ (k : Int) + 4 ≤ (s.size : Int) := by omega
      have HROW := Hid.mk' hrow
      have HBE := Hid.mk' hbel
      clear hrow hbel hmap htel hm
      go_wp2
      go_ret
      exact ⟨_, rfl, HROW.out, HBE.out⟩
end Go.Proofs.Ytchjmhgalbkjkaa
