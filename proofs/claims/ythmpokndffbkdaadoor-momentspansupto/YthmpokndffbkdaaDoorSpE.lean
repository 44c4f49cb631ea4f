/-
  What a strings.Builder's WriteString and String do, and strconv.Itoa. Conditions: as each says.
-/
import Derived.Test.YthmpokndffbkdaaDoorSpD
import Derived.Lib.Builder
import Derived.Lib.AppendStr
import Derived.Laws.Externs
import Derived.RegionTactic
namespace Go.Proofs.YthmpokndffbkdaaDoor
open Go.RowKit
set_option linter.unusedVariables false
/-- block b, from B on, holds a Builder of the bytes l; p: what its first cell holds -/
abbrev Bld (B b : Nat) (p : Value) (l : List Nat) (w : World) : Prop := Lib.BuilderAt 64 5 B b p (byv l) w
abbrev own (b : Nat) : Value := .pointer (some ⟨b, 0, none⟩)
theorem infoBl : (Tryd.prog.info? 64).map (·.size) = some 2 := by kernel_rfl
theorem liesBl : liesAt Tryd.prog Tryd.prog.depth 64 (2 / Tryd.prog.cellsOf 64) 0 64 1 = true := by kernel_rfl
theorem noEsc (args : Array Value) (w : World) : (callFunc 84 args).run Tryd.prog w = ((Extern.AbiNoEscape.same args).run Tryd.prog w).andThen fun v w' => .ok (.value v) w' :=
  run_callFunc_extern Tryd.func84 (by kernel_rfl) (by kernel_rfl) (by kernel_rfl) (by kernel_rfl) args w
set_option maxHeartbeats 1000000 in
theorem check_used (b : Nat) (w : World) (h0 : w.cell? ⟨b, 0, none⟩ = some (own b)) :
    Calls Tryd.prog 65 #[own b] w fun e w' => e = .returned (.tuple #[]) ∧ w' = w := by
  obtain ⟨j, hj, _⟩ := Option.map_eq_some_iff.1 infoBl
  have hq := Lib.run_neq_ptr_same (P := Tryd.prog) w ⟨b, 0, none⟩ Tryd.underlying62 hj
  go_enter Tryd.func65, Tryd.ntmps65
  go_wp2
  go_end0
  exact ⟨rfl, rfl⟩
set_option maxRecDepth 100000 in
set_option maxHeartbeats 1000000 in
theorem check_fresh (b : Nat) (w : World) (h0 : w.cell? ⟨b, 0, none⟩ = some (.pointer none)) (hsh : w.shape? b = some (64, 2)) (hfz : w.frozen? ⟨b, 0, none⟩ = false) :
    Calls Tryd.prog 65 #[own b] w fun e w' => e = .returned (.tuple #[]) ∧ w' = w.setCell ⟨b, 0, none⟩ (own b) := by
  obtain ⟨j, hj, hjs⟩ := Option.map_eq_some_iff.1 infoBl
  have q1 := Lib.run_to_unsafe (P := Tryd.prog) w ⟨b, 0, none⟩ Tryd.underlying62 Tryd.underlying98 hj (by rw [hjs]; decide) hsh (Nat.zero_lt_succ 1)
  have q2 : (callFunc 84 #[.pointer (some ⟨b, 0, none⟩)]).run Tryd.prog w = .ok (.value (.pointer (some ⟨b, 0, none⟩))) w := by rw [noEsc, Lib.run_noEscape]; rfl
  have q3 := Lib.run_from_unsafe (P := Tryd.prog) w ⟨b, 0, none⟩ Tryd.underlying98 Tryd.underlying62 hj hsh liesBl
  go_enter Tryd.func65, Tryd.ntmps65
  go_wp2
  go_end0
  exact ⟨rfl, rfl⟩
/-- rows that are no bytes stay as they were, but for block b -/
def Rest (b : Nat) (w w' : World) : Prop := ∀ k cs T, k ≠ b → T ≠ 5 → w.heap[k]? = some (.cells cs T (0, 0)) → w'.heap[k]? = some (.cells cs T (0, 0))
theorem strCells_byv (s : ByteArray) : Lib.strCells s = byv (Sums.bl s) := by
  unfold Lib.strCells byv Sums.bl
  rw [List.map_map]; rfl
theorem check_any (B b : Nat) (p : Value) (l : List Nat) (w : World) (h : Bld B b p l w) (hp : p = .pointer none ∨ p = own b) :
    Calls Tryd.prog 65 #[own b] w fun e w' => e = .returned (.tuple #[]) ∧ Bld B b (own b) l w' ∧ Below B w w' ∧ Rest b w w' ∧ w'.heap.size = w.heap.size := by
  rcases hp with rfl | rfl
  · refine (check_fresh b w h.cell0 h.shape h.frozen0).mono ?_
    rintro e w' ⟨rfl, rfl⟩
    refine ⟨rfl, h.used _, (Below.refl B w).setCell (p := ⟨b, 0, none⟩) h.1 _, ?_, by simp [World.setCell]⟩
    intro k cs T hkb hT hk
    rw [Below.heap_setCell _ _ _ _ (by exact hkb)]
    exact hk
  · refine (check_used b w h.cell0).mono ?_
    rintro e w' ⟨rfl, rfl⟩
    exact ⟨rfl, h, Below.refl _ _, fun _ _ _ _ _ hk => hk, rfl⟩
theorem Rest.trans {b : Nat} {x y z : World} (h : Rest b x y) (k : Rest b y z) : Rest b x z := fun i cs T h1 h2 h3 => k i cs T h1 h2 (h i cs T h1 h2 h3)
set_option maxRecDepth 100000 in
set_option maxHeartbeats 2000000 in
theorem wstr_any (B b : Nat) (p : Value) (l : List Nat) (s : ByteArray) (w : World) (h : Bld B b p l w) (hp : p = .pointer none ∨ p = own b) (hlen : l.length + s.size ≤ 140737488355328) (hBw : B ≤ w.heap.size) :
    Calls Tryd.prog 43 #[own b, .string s] w fun e w' => e = .returned (.tuple #[.int .i64 s.size, .nilIface]) ∧ Bld B b (own b) (l ++ Sums.bl s) w' ∧ Below B w w' ∧ Rest b w w' := by
  obtain ⟨i0, hi, hz0, hz1, hz2⟩ := info_parts infoB
  have hsI : (s.size : Int) ≤ 140737488355328 := by omega
  have HC := Hid.mk' (check_any B b p l w h hp)
  clear h hp
  go_enter Tryd.func43, Tryd.ntmps43
  go_wp2_with fail
  refine HC.out.mono ?_
  rintro e w1 ⟨rfl, h1, hbel, hrest, hsz⟩
  rw [← hsz] at hBw
  have HX := Hid.mk' (And.intro hbel hrest)
  clear hbel hrest hsz HC
  obtain ⟨hB, v, hbk, hown, hne⟩ := h1
  rw [byv_len] at hown
  have c0 : w1.cell? ⟨b, 0, none⟩ = some (own b) := by rw [Lib.cell_of_heap hbk]; rfl
  have c1 : w1.cell? ⟨b, 1, none⟩ = some v := by rw [Lib.cell_of_heap hbk]; rfl
  have HBK := Hid.mk' hbk
  have HNE := Hid.mk' hne
  clear hbk hne
  go_wp2_with (at_builtin; refine Lib.wpList_append_own_string _ rfl _ _ 47 9 rfl B 5 i0 Tryd.underlying47 Tryd.underlying9 hi hz0 hz1 hz2 _ _ _ rfl hown s rfl (by unfold maxLen; omega) (by omega) (by omega) ?_)
  intro v' w2 hown' hgrow _
  have hlt : b < w1.heap.size := (Array.getElem?_eq_some_iff.1 HBK.out).1
  have hb2 : w2.heap[b]? = some (.cells #[own b, v] 64 (0, 0)) := by
    rw [hgrow.block b hlt (fun e => HNE.out e.symm)]
    exact HBK.out
  have d1 : w2.cell? ⟨b, 1, none⟩ = some v := by rw [Lib.cell_of_heap hb2]; rfl
  have f1 : w2.frozen? ⟨b, 1, none⟩ = false := Lib.frozen_of_heap hb2 1
  obtain ⟨ao, n', cap, rfl⟩ : ∃ ao n' cap, v' = .slice ao n' cap := by
    rcases hown'.2 with ⟨hv, _⟩ | ⟨g, cap, cur, hv, _⟩
    · exact ⟨_, _, _, hv⟩
    · exact ⟨_, _, _, hv⟩
  have HBL : Hid (Bld B b (own b) (l ++ Sums.bl s) (w2.setCell ⟨b, 1, none⟩ (.slice ao n' cap)) ∧ Below B w (w2.setCell ⟨b, 1, none⟩ (.slice ao n' cap)) ∧ Rest b w (w2.setCell ⟨b, 1, none⟩ (.slice ao n' cap))) := by
    refine ⟨Lib.BuilderAt.put hB hb2 ?_ (by decide), HX.out.1.trans (((Below.refl B w1).grown hgrow hBw (fun k hk => (hown.lt k hk).1)).setCell (p := ⟨b, 1, none⟩) hB _), HX.out.2.trans ?_⟩
    · rw [byv_len, byv_append, List.length_append, Sums.bl_length, ← strCells_byv]
      exact hown'
    · intro k cs T hkb hT hk
      have hkl : k < w1.heap.size := (Array.getElem?_eq_some_iff.1 hk).1
      rw [Below.heap_setCell _ _ _ _ (by exact hkb), hgrow.block k hkl (fun e => Lib.ownBlock_ne hown hk hT e.symm)]
      exact hk
  clear hown hown' hgrow c0 c1 hb2 hlt
  go_wp2_with fail
  go_ret2
  exact ⟨rfl, HBL.out⟩
theorem Bld.below {B b : Nat} {p : Value} {l : List Nat} {w w' : World} (h : Bld B b p l w) (hb : Below w.heap.size w w') : Bld B b p l w' := by
  obtain ⟨hB, v, hbk, hown, hne⟩ := h
  refine ⟨hB, v, (hb.block b (Array.getElem?_eq_some_iff.1 hbk).1).trans hbk, ?_, hne⟩
  exact ⟨hown.1, hown.2.imp id fun ⟨g, cap, cur, e1, e2, e3, r⟩ => ⟨g, cap, cur, e1, e2, (hb.block g (Array.getElem?_eq_some_iff.1 e3).1).trans e3, r⟩⟩
/-- a number's digits -/
def dec (n : Nat) : List Nat := (Lib.decDigits n).map UInt8.toNat
theorem below_grow (w : World) (k : Nat) (os : Array Obj) : Below w.heap.size w (Sort.grow (w.drewN k) os) := by
  refine ⟨rfl, rfl, rfl, ?_, fun i hi => ?_⟩
  · show w.heap.size ≤ (w.heap ++ os).size
    simp
  · show (w.heap ++ os)[i]? = w.heap[i]?
    exact Array.getElem?_append_left hi
def Pow (w : World) : Prop := Lib.TabIs Tryd.prog w "internal/strconv.uint64pow10" .u64 Lib.pow10Tab
theorem glPow : Tryd.prog.globalNamed "internal/strconv.uint64pow10" = some 3 := by kernel_rfl
theorem Pow.below {B : Nat} {w w' : World} (h : Pow w) (hb : Below B w w') (hB : 3 < B) : Pow w' := by
  unfold Pow Lib.TabIs World.var? at h ⊢
  rw [glPow] at h ⊢
  simp only [Option.bind_some] at h ⊢
  rw [hb.block 3 hB]
  exact h
theorem Pow.size {w : World} (h : Pow w) : 3 < w.heap.size := by
  unfold Pow Lib.TabIs World.var? at h
  rw [glPow] at h
  simp only [Option.bind_some] at h
  rcases Nat.lt_or_ge 3 w.heap.size with h' | h'
  · exact h'
  · rw [Array.getElem?_eq_none h'] at h; cases h
theorem itoa_any (n : Nat) (w : World) (hn : n ≤ 9223372036854775807) (ht : Pow w) : Calls Tryd.prog 44 #[.int .i64 (n : Int)] w fun e w' => (∃ t, Sums.bl t = dec n ∧ e = .returned (.string t)) ∧ Below w.heap.size w w' := by
  have := Any.strconv_Itoa YthmpokndffbkdaaDoor.lays171 (n : Int) (by omega) (by omega) w ht
  refine Calls.mono this ?_
  rintro e w' ⟨rfl, k, os, rfl⟩
  refine ⟨⟨_, ?_, rfl⟩, below_grow w k os⟩
  unfold dec Lib.itoa
  rw [if_neg (by omega), Int.toNat_natCast]
  rfl
theorem byv_cells (l : List Nat) (hl : ∀ z ∈ l, z < 256) : byv l = Lib.byteCells (l.map UInt8.ofNat) := by
  unfold byv Lib.byteCells
  rw [List.map_map]
  apply List.map_congr_left
  intro z hz
  show Value.int .u8 (z : Int) = Value.int .u8 (((UInt8.ofNat z).toNat : Nat) : Int)
  exact congrArg (fun n : Nat => Value.int .u8 (n : Int)) (UInt8.toNat_ofNat_of_lt (hl z hz)).symm
theorem nums_arr (l : List Nat) : (⟨(l.map UInt8.ofNat).toArray⟩ : ByteArray) = nums l := by
  show _ = (⟨((l.map fun z => ((z : Nat) : Int)).map fun n => UInt8.ofNat n.toNat).toArray⟩ : ByteArray)
  rw [List.map_map]
  rfl
set_option maxRecDepth 100000 in
set_option maxHeartbeats 2000000 in
theorem str_some (B b : Nat) (p : Value) (l : List Nat) (w : World) (h : Bld B b p l w) (h0 : l ≠ []) (hl : ∀ z ∈ l, z < 256) :
    Calls Tryd.prog 45 #[own b] w fun e w' => e = .returned (.string (nums l)) ∧ Below B w w' := by
  obtain ⟨hB, v, hbk, hown, hne⟩ := h
  have hl0 : l.length ≠ 0 := by simpa using h0
  rw [byv_len] at hown
  obtain ⟨g, cap, cur, rfl, hbg, hg, hnc, hcm, hcs, htake⟩ : ∃ g cap cur, v = .slice (some ⟨g, 0, none⟩) l.length cap ∧ B ≤ g ∧ w.heap[g]? = some (.cells cur 5 (0, 0)) ∧ l.length ≤ cap ∧ cap ≤ maxLen ∧ cur.size = cap * 1 ∧ cur.toList.take (l.length * 1) = byv l := by
    rcases hown.2 with ⟨_, hz⟩ | ⟨g, cap, cur, hv, r⟩
    · exact absurd hz hl0
    · exact ⟨g, cap, cur, hv, r⟩
  have c1 : w.drew.cell? ⟨b, 1, none⟩ = some (.slice (some ⟨g, 0, none⟩) l.length cap) := by
    have : w.drew.heap[b]? = some (.cells #[p, .slice (some ⟨g, 0, none⟩) l.length cap] 64 (0, 0)) := hbk
    rw [Lib.cell_of_heap this]; rfl
  have hSD : (Builtin.unsafeSliceData_ #[47] 88 #[.slice (some ⟨g, 0, none⟩) l.length cap]).run Tryd.prog w.drew = .ok (.pointer (some ⟨g, 0, none⟩)) w.drew :=
    Lib.run_unsafeSliceData_row _ _ _ _ _ _ (by omega)
  have hUS : (Builtin.unsafeString_ #[88, 3] 9 #[.pointer (some ⟨g, 0, none⟩), .int .i64 l.length]).run Tryd.prog w.drew = .ok (.string (nums l)) (w.drew.freeze ⟨g, 0, none⟩ l.length) := by
    have hm : (l.map UInt8.ofNat).length = l.length := List.length_map ..
    have := Lib.run_unsafeString_row (P := Tryd.prog) w.drew 88 3 9 5 Tryd.underlying88 cellsB g cur.size (by have hg' : w.drew.heap[g]? = some (.cells cur 5 (0, 0)) := hg; simp [World.shape?, hg']) (l.map UInt8.ofNat) (by simpa using h0) (by omega) (by unfold maxLen at hcm; omega) (fun j x hx => by
      have hjl : j < l.length := by have := (List.getElem?_eq_some_iff.1 hx).1; omega
      have hc := hown.cellAt j (by omega)
      rw [byv_cells l hl] at hc
      rw [show ((⟨g, 0, none⟩ : Addr).add j) = ⟨g, j, none⟩ by simp [Addr.add]; omega]
      show w.cell? ⟨g, j, none⟩ = _
      rw [hc]
      simp only [Lib.byteCells, List.getElem?_map, hx, Option.map_some])
    rw [hm, nums_arr] at this
    exact this
  have HBG := Hid.mk' hbg
  clear hown htake hcs hcm hnc hg hbg hl0 hne hbk h0 hl
  go_enter Tryd.func45, Tryd.ntmps45
  go_wp2
  go_region
  all_goals (go_wp2; go_ret; exact ⟨rfl, Lib.below_freeze (Below.drew (Below.refl B w)) (p := ⟨g, 0, none⟩) HBG.out _⟩)
end Go.Proofs.YthmpokndffbkdaaDoor
