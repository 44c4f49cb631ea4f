/-
  lz4.nearestSame: of each place the latest one below it with the same four bytes. Conditions: as it says.
-/
import Derived.Test.YtchjmhgalbkjkaaGrd
import Derived.Lib.MinMax
import Derived.Maps.OwnSet
namespace Go.Proofs.Ytchjmhgalbkjkaa
open Go.RowKit
open Go.Maps (Keyed IsMap)
set_option linter.unusedVariables false
theorem keyed32 : Keyed Try.prog 89 := Go.Maps.int_keyed Try.underlying89
theorem infoI : (Try.prog.info? 3).map (fun i => (i.zero, i.size, i.bytes)) = some (some (.int .i64 0), 1, 8) := by kernel_rfl
theorem zero_int (w : World) : (zeroValue 3).run Try.prog w = .ok (.int .i64 0) w := by
  obtain ⟨i0, hi, hz0, hz1, hz2⟩ := info_parts infoI
  simp [zeroValue, typeInfo, hi, hz0]
/-- what the map tells at a place -/
structure Tells (bs : List Nat) (k : Nat) (D : DataW Unit) : Prop where
  map : IsMap D
  has : ∀ x : Nat, x < 4294967296 → Go.Maps.has D (.int .u32 (x : Int)) = (Lz.lastAt bs x k).isSome
  at_ : ∀ x : Nat, x < 4294967296 → ∀ q, Lz.lastAt bs x k = some q → ∀ z, D.atKey (.int .u32 (x : Int)) z = .lit (.int .i64 (q : Int))
theorem tells_empty (bs : List Nat) : Tells bs 0 (.map []) := ⟨Go.Maps.isMap_empty, fun x _ => rfl, fun x _ q h => by simp [Lz.lastAt] at h⟩
theorem key_lit (x : Nat) (hx : x < 4294967296) : WideAt.IsKeyLit (.int .u32 (x : Int)) := by
  simp [WideAt.IsKeyLit]
theorem Tells.step {bs : List Nat} {k : Nat} {D : DataW Unit} (h : Tells bs k D) (hf : Lz.four bs k < 4294967296) : Tells bs (k + 1) (D.put (.int .u32 (Lz.four bs k : Nat)) (.lit (.int .i64 (k : Int)))) := by
  have hkl := key_lit (Lz.four bs k) hf
  refine ⟨h.map.put _ _, fun x hx => ?_, fun x hx q hq z => ?_⟩
  · by_cases e : Lz.four bs k = x
    · subst e
      rw [Go.Maps.has_put_same h.map hkl, Lz.lastAt, if_pos rfl]
      rfl
    · rw [Go.Maps.has_put_other (by intro h; simp at h; omega), h.has x hx, Lz.lastAt, if_neg e]
  · by_cases e : Lz.four bs k = x
    · subst e
      rw [Go.Maps.atKey_put_same h.map hkl]
      rw [Lz.lastAt, if_pos rfl] at hq
      simp at hq
      rw [hq]
    · rw [Go.Maps.atKey_put_other (by intro h; simp at h; omega)]
      rw [Lz.lastAt, if_neg e] at hq
      exact h.at_ x hx q hq z
theorem four_lt (bs : List Nat) (hb : ∀ z ∈ bs, z < 256) (p : Nat) : Lz.four bs p < 4294967296 := by
  have a0 := Lz.getD_byte bs hb p
  have a1 := Lz.getD_byte bs hb (p + 1)
  have a2 := Lz.getD_byte bs hb (p + 2)
  have a3 := Lz.getD_byte bs hb (p + 3)
  unfold Lz.four
  omega
/-- the row so far -/
def nearV (bs : List Nat) (m k : Nat) : List Value := (List.range m).map fun p => if p < k then .int .i64 (Lz.nearOf bs p) else .int .i64 0
theorem nearV_len (bs : List Nat) (m k : Nat) : (nearV bs m k).length = m := by simp [nearV]
theorem nearV_zero (bs : List Nat) (m : Nat) : madeCells (Value.int .i64 0).cells (m * 1) = (nearV bs m 0).toArray := by
  apply Array.ext'
  apply List.ext_getElem
  · simp [nearV, madeCells]
  · intro i h1 h2
    simp [nearV, madeCells, Value.cells, Nat.mod_one]
theorem nearV_set (bs : List Nat) (m k : Nat) (hk : k < m) : (nearV bs m k).set k (.int .i64 (Lz.nearOf bs k)) = nearV bs m (k + 1) := by
  apply List.ext_getElem
  · simp [nearV]
  · intro i h1 h2
    simp only [nearV, List.getElem_set, List.getElem_map, List.getElem_range]
    by_cases e : k = i
    · subst e
      simp
    · rw [if_neg e]
      by_cases h : i < k
      · rw [if_pos h, if_pos (by omega)]
      · rw [if_neg h, if_neg (by omega)]
theorem make_ints (m : Nat) (hm : m ≤ 4294967296) (bs : List Nat) (w : World) : (Instr.makeSlice 29 (.int .i64 (m : Int)) (.int .i64 (m : Int))).run Try.prog w = .ok (.slice (some ⟨w.heap.size, 0, none⟩) m m) (w.alloc (.cells (nearV bs m 0).toArray 3)) := by
  obtain ⟨i0, hi, hz0, hz1, hz2⟩ := info_parts infoI
  have := run_make (P := Try.prog) w 29 3 i0 (.int .i64 0) Try.underlying29 hi hz0 .i64 .i64 (m : Int) (m : Int) (by omega) (by omega) (by rw [hz2]; omega) (by omega)
  rw [this, hz1, Int.toNat_natCast, nearV_zero bs m]
theorem near_put {bs : List Nat} {m k b : Nat} {w : World} (h : w.heap[b]? = some (.cells (nearV bs m k).toArray 3 (0, 0))) (hk : k < m) : (w.setCell ⟨b, k, none⟩ (.int .i64 (Lz.nearOf bs k))).heap[b]? = some (.cells (nearV bs m (k + 1)).toArray 3 (0, 0)) := by
  rw [setCell_eq_setRow w b k _ 3 (0, 0) _ h, setRow_heap w b _ _ 3 (0, 0) h, ← nearV_set bs m k hk]
  simp
theorem below_setc {base b : Nat} {w0 w : World} (h : Below base w0 w) (hb : base ≤ b) (o : Nat) (u : Value) : Below base w0 (w.setCell ⟨b, o, none⟩ u) :=
  ⟨h.os, h.tape, h.output, by simpa [World.setCell] using h.size, fun k hk => by
    rw [← h.block k hk]
    simp only [World.setCell, Array.getElem?_modify]
    rw [if_neg (by omega)]⟩
set_option maxRecDepth 100000 in
set_option maxHeartbeats 1000000 in
theorem nearestSame_any (s : ByteArray) (w : World) (hs : s.size ≤ 4294967296) :
    Calls Try.prog 37 #[.string s] w fun e w' => ∃ g, e = .returned (.slice (some ⟨g, 0, none⟩) (s.size - 3) (s.size - 3)) ∧ w.heap.size ≤ g ∧ w'.heap[g]? = some (.cells (nearV (Sums.bl s) (s.size - 3) (s.size - 3)).toArray 3 (0, 0)) ∧ Below w.heap.size w w' := by
  obtain ⟨m, hm⟩ : ∃ m, s.size - 3 = m := ⟨_, rfl⟩
  have hmI : max 0 ((s.size : Int) - 4 + 1) = (m : Int) := by omega
  have hmI2 : max 0 ((s.size : Int) - 3) = (m : Int) := by omega
  rw [hm]
  have hmb : m ≤ 4294967296 := by omega
  have hmm := run_makeMap (P := Try.prog) 88 w
  have hms := make_ints m hmb (Sums.bl s)
  have HM := Hid.mk' hm
  clear hm
  go_enter Try.func37, Try.ntmps37
  go_wp2
  have hst : ((w.alloc (.map #[] 0)).alloc (.cells (nearV (Sums.bl s) m 0).toArray 3)).heap[w.heap.size + 1]? = some (.cells (nearV (Sums.bl s) m 0).toArray 3 (0, 0)) := by
    have := heap_alloc_new (w.alloc (.map #[] 0)) (.cells (nearV (Sums.bl s) m 0).toArray 3)
    simpa using this
  have HST := Hid.mk' hst
  clear hst
  go_loopw [18] (fun kv wr => ∃ (k : Nat) (D : DataW Unit), kv = .int .i64 (k : Int) ∧ k ≤ m ∧ wr.ownsMap Try.prog 89 (plainElem Try.prog 3) w.heap.size k D ∧ Tells (Sums.bl s) k D ∧ wr.heap[w.heap.size + 1]? = some (.cells (nearV (Sums.bl s) m k).toArray 3 (0, 0)) ∧ Below w.heap.size w wr) (fun kv _ => m - (intOf kv).toNat)
  case atStart => exact ⟨0, .map [], rfl, Nat.zero_le _, (World.ownsMap_made w _ _ _).alloc _, tells_empty _, HST.out, ((Below.refl _ _).alloc (Nat.le_refl _) _).alloc (by simp) _⟩
  case round =>
    obtain ⟨k, D, rfl, hk, hmap, htel, hsb, hbel⟩ := hrel
    clear HST hmm hms
    by_cases hkm : k < m
    · have hkI : (k : Int) < (m : Int) := by omega
      have hm := HM.out
      obtain ⟨T, hT⟩ : ∃ T, s.extract k s.size = T := ⟨_, rfl⟩
      have hTs : T.size = s.size - k := by rw [← hT, ByteArray.size_extract]; omega
      have hTb : Sums.bl T = (Sums.bl s).drop k := by rw [← hT]; exact Sums.bl_drop s k
      obtain ⟨x, hxe⟩ : ∃ x, Lz.four (Sums.bl s) k = x := ⟨_, rfl⟩
      have hx : x < 4294967296 := by rw [← hxe]; exact four_lt _ (Sums.bl_byt s) k
      have hfT : Lz.four (Sums.bl T) 0 = x := by
        rw [hTb, ← hxe]
        unfold Lz.four
        simp [List.getD]
      have HFB := Hid.mk' (fun w => fourBytes_any T w (by omega) (by omega))
      rw [hfT] at HFB
      have hwf : (Lit.int .u32 (x : Int)).wf = true := by
        simp [Lit.wf, IntKind.min, IntKind.max, IntKind.signed, IntKind.bits]
        omega
      have hwk : (Lit.int .i64 (k : Int)).wf = true := by
        simp [Lit.wf, IntKind.min, IntKind.max, IntKind.signed, IntKind.bits]
        omega
      have hks : k ≤ s.size := by omega
      have hcell : wr.cell? ⟨w.heap.size + 1, k, none⟩ = some (.int .i64 0) := by
        simp [World.cell?, hsb, nearV, hkm]
      have hfro : wr.frozen? ⟨w.heap.size + 1, k, none⟩ = false := by simp [World.frozen?, hsb]
      have HMS : Hid (∀ (n : Nat) (u : Value), ((wr.drewN n).setCell ⟨w.heap.size + 1, k, none⟩ u).ownsMap Try.prog 89 (plainElem Try.prog 3) w.heap.size k D) := fun n u => World.ownsMap.setCell (show (wr.drewN n).ownsMap Try.prog 89 (plainElem Try.prog 3) w.heap.size k D from hmap) (by simp) u
      have hsbl : w.heap.size + 1 < (wr.drewN 0).heap.size := (Array.getElem?_eq_some_iff.1 hsb).1
      have hsbm : w.heap.size ≤ (wr.drewN 0).heap.size := by omega
      have HMAP := Hid.mk' hmap
      have HTE := Hid.mk' htel
      have HSB := Hid.mk' hsb
      have HBE := Hid.mk' hbel
      have HX := Hid.mk' hxe
      have HHAS := Hid.mk' (htel.has x hx)
      have hnear : Lz.nearOf (Sums.bl s) k = Lz.orNone (Lz.lastAt (Sums.bl s) x k) := by rw [Lz.nearOf, hxe]
      have hat0 := htel.at_ x hx
      clear hmap htel hsb hbel hxe hfT hTb hm
      cases hla : Lz.lastAt (Sums.bl s) x k with
      | none =>
        rw [hla] at HHAS hnear
        have HN := Hid.mk' hnear
        clear hnear hat0 hla
        go_wp2_with (first | (go_at_call 50; refine (HFB.out _).mono ?_; rintro e w1 ⟨rfl, nd, rfl⟩) | (at_lookup; refine wpList_lookup_own_ok_int _ rfl _ _ 88 rfl 89 3 .i64 keyed32 Try.underlying88 Try.underlying3 (zero_int _) w.heap.size k D rfl (by exact HMAP.out) (.int .u32 (x : Int)) (.int .u32 (x : Int)) rfl (Go.Maps.keyOf_int_mk Try.underlying89 hwf) ?_; intro c hat hwc; rw [HHAS.out]; skip) | (at_mapUpdate; refine wpList_mapUpdate_own _ rfl _ _ _ 88 rfl 89 3 keyed32 Try.underlying88 (plainElem Try.prog 3) w.heap.size k D rfl (by exact HMS.out _ _) (by unfold maxLen; omega) (.int .u32 (x : Int)) (.int .i64 (k : Int)) (.int .u32 (x : Int)) rfl rfl (Go.Maps.keyOf_int_mk Try.underlying89 hwf) (.lit (.int .i64 (k : Int))) [] (plainElem_int Try.underlying3 hwk) ?_; intro w5 hown5 hgrow5; have HM5 := Hid.mk' hown5; have HG5 := Hid.mk' hgrow5; clear hown5 hgrow5) | fail)
        go_roundw
        case rel =>
          refine ⟨k + 1, _, by simp, by omega, HM5.out, by rw [← HX.out]; exact HTE.out.step (by rw [HX.out]; exact hx), ?_, ?_⟩
          · rw [HG5.out.block _ (by simp only [World.setCell, Array.size_modify]; exact hsbl) (by simp)]
            have hnp := near_put (w := wr.drewN nd) HSB.out hkm
            rw [HN.out] at hnp
            exact hnp
          · exact (below_setc (HBE.out.drewN' nd) (by omega) k _).grown HG5.out (by simp only [World.setCell, Array.size_modify]; exact hsbm) (by intro j hj; simp at hj; omega)
        case measure =>
          simp [intOf]
          omega
      | some q =>
        rw [hla] at HHAS hnear
        have HN := Hid.mk' hnear
        have HAT := Hid.mk' (hat0 q hla)
        clear hnear hat0 hla
        go_wp2_with (first | (go_at_call 50; refine (HFB.out _).mono ?_; rintro e w1 ⟨rfl, nd, rfl⟩) | (at_lookup; refine wpList_lookup_own_ok_int _ rfl _ _ 88 rfl 89 3 .i64 keyed32 Try.underlying88 Try.underlying3 (zero_int _) w.heap.size k D rfl (by exact HMAP.out) (.int .u32 (x : Int)) (.int .u32 (x : Int)) rfl (Go.Maps.keyOf_int_mk Try.underlying89 hwf) ?_; intro c hat hwc; rw [HHAS.out]; rw [HAT.out] at hat; simp at hat; subst hat) | (at_mapUpdate; refine wpList_mapUpdate_own _ rfl _ _ _ 88 rfl 89 3 keyed32 Try.underlying88 (plainElem Try.prog 3) w.heap.size k D rfl (by exact HMS.out _ _) (by unfold maxLen; omega) (.int .u32 (x : Int)) (.int .i64 (k : Int)) (.int .u32 (x : Int)) rfl rfl (Go.Maps.keyOf_int_mk Try.underlying89 hwf) (.lit (.int .i64 (k : Int))) [] (plainElem_int Try.underlying3 hwk) ?_; intro w5 hown5 hgrow5; have HM5 := Hid.mk' hown5; have HG5 := Hid.mk' hgrow5; clear hown5 hgrow5) | fail)
        go_roundw
        case rel =>
          refine ⟨k + 1, _, by simp, by omega, HM5.out, by rw [← HX.out]; exact HTE.out.step (by rw [HX.out]; exact hx), ?_, ?_⟩
          · rw [HG5.out.block _ (by simp only [World.setCell, Array.size_modify]; exact hsbl) (by simp)]
            have hnp := near_put (w := wr.drewN nd) HSB.out hkm
            rw [HN.out] at hnp
            exact hnp
          · exact (below_setc (HBE.out.drewN' nd) (by omega) k _).grown HG5.out (by simp only [World.setCell, Array.size_modify]; exact hsbm) (by intro j hj; simp at hj; omega)
        case measure =>
          simp [intOf]
          omega
    · obtain rfl : k = m := by omega
      have hkI : ¬ (k : Int) < (k : Int) := by omega
      have HSB := Hid.mk' hsb
      have HBE := Hid.mk' hbel
      clear hsb hbel hmap htel
      go_wp2
      go_ret
      exact ⟨_, rfl, by omega, HSB.out, HBE.out⟩
end Go.Proofs.Ytchjmhgalbkjkaa
