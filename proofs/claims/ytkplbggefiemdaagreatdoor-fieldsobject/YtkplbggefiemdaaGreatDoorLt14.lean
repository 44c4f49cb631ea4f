/-
  From what the rows list of the tables to what the walks ask of memory. No conditions.
-/
import Derived.Test.YtkplbggefiemdaaGreatDoorItA
import Derived.Test.YtkplbggefiemdaaGreatDoorObW
import Derived.Test.YtkplbggefiemdaaGreatDoorRows
import Derived.Lib.LaidU8
import Derived.Lay
namespace Go.Proofs.YtkplbggefiemdaaGreatDoor
open Go.RowKit
set_option linter.unusedVariables false
theorem row_cells {W : World} {fuel : Nat} {cs : List Value} {a b c d : Int} {m : Int} {q : List MemPlace} (h : DataW.trod (fun _ => ()) Tryz.prog W 0 (fun _ => true) false fuel 179 cs = some (.agg [.lit (.int .u8 a), .lit (.int .u8 b), .lit (.int .u8 c), .lit (.int .u8 d), .lit (.int .i64 m)], q)) : cs[0]? = some (.int .u8 a) ∧ cs[1]? = some (.int .u8 b) ∧ cs[2]? = some (.int .u8 c) ∧ cs[3]? = some (.int .u8 d) ∧ cs[4]? = some (.int .i64 m) := by
  obtain ⟨fs, hfs⟩ : ∃ fs, Tryz.prog.underlying 179 = some (.struct fs) := ⟨_, Tryz.underlying179⟩
  have hfs2 := hfs
  rw [Tryz.underlying179] at hfs2
  obtain ⟨xs, n, rfl, hx, hl, hxl, hall⟩ := DataW.trod_struct hfs h
  have hfe := Option.some.inj hfs2
  injection hfe with hfe
  subst hfe
  have h0 := hall 0 _ rfl
  have h1 := hall 1 _ rfl
  have h2 := hall 2 _ rfl
  have h3 := hall 3 _ rfl
  have h4 := hall 4 _ rfl
  have hxs := congrArg Prod.fst hx
  simp only [DataW.agg.injEq] at hxs
  have hc5 : Tryz.prog.cellsOf 5 = 1 := by kernel_rfl
  have hc3 : Tryz.prog.cellsOf 3 = 1 := by kernel_rfl
  match xs, hxl, hxs, h0, h1, h2, h3, h4 with
  | [x0, x1, x2, x3, x4], _, hxs, h0, h1, h2, h3, h4 =>
    simp only [List.map_cons, List.map_nil, List.cons.injEq, and_true] at hxs
    obtain ⟨z0, hz0, ha0, _⟩ := DataW.trod_int Tryz.underlying5 h0
    obtain ⟨z1, hz1, ha1, _⟩ := DataW.trod_int Tryz.underlying5 h1
    obtain ⟨z2, hz2, ha2, _⟩ := DataW.trod_int Tryz.underlying5 h2
    obtain ⟨z3, hz3, ha3, _⟩ := DataW.trod_int Tryz.underlying5 h3
    obtain ⟨z4, hz4, ha4, _⟩ := DataW.trod_int Tryz.underlying3 h4
    rw [ha0, ha1, ha2, ha3, ha4] at hxs
    simp only [DataW.lit.injEq, Lit.int.injEq, true_and] at hxs
    obtain ⟨e0, e1, e2, e3, e4⟩ := hxs
    have g : ∀ (k : Nat) (v : Value) (T : TypeId), Tryz.prog.cellsOf T = 1 → (cs.drop k).take (Tryz.prog.cellsOf T) = [v] → cs[k]? = some v := fun k v T hT hh => by
      rw [hT] at hh
      have := congrArg (·[0]?) hh
      simpa using this
    exact ⟨by first | (rw [← e0]; exact g 0 _ 5 hc5 hz0) | (rw [e0]; exact g 0 _ 5 hc5 hz0), by first | (rw [← e1]; exact g 1 _ 5 hc5 hz1) | (rw [e1]; exact g 1 _ 5 hc5 hz1), by first | (rw [← e2]; exact g 2 _ 5 hc5 hz2) | (rw [e2]; exact g 2 _ 5 hc5 hz2), by first | (rw [← e3]; exact g 3 _ 5 hc5 hz3) | (rw [e3]; exact g 3 _ 5 hc5 hz3), by first | (rw [← e4]; exact g 4 _ 3 hc3 hz4) | (rw [e4]; exact g 4 _ 3 hc3 hz4)⟩
theorem glRw : Tryz.prog.globalNamed "dragnet/object.rows" = some 6 := by kernel_rfl
theorem glRwT : (Tryz.prog.globals[6]?).map (·.type) = some 180 := by kernel_rfl
theorem rwt_of {W : World} (h : Lib.VarReads Tryz.prog W "dragnet/object.rows" Rows.laid_dragnet_object_rows) : RwT W := by
  obtain ⟨g, t, cs, fuel, p, h1, h2, h3, h4⟩ := h
  rw [glRw] at h1
  obtain rfl := Option.some.inj h1
  rw [glRwT] at h2
  obtain rfl := Option.some.inj h2
  have hc : Tryz.prog.cellsOf 179 = 5 := by kernel_rfl
  have hct : Tryz.prog.cellsOf 180 = 40 := by kernel_rfl
  have hlen : cs.toList.length = 40 := by
    cases fuel with
    | zero => simp [DataW.trod] at h4
    | succ fuel =>
      simp only [DataW.trod, Tryz.underlying180, hct] at h4
      split at h4
      · rename_i hl
        omega
      · cases h4
  have el := fun i hi => Lib.array_elem Tryz.underlying180 h4 i hi
  have el2 : ∀ i a b c d m, i < 8 → (match Rows.laid_dragnet_object_rows (H := Unit) with | .agg l => l | _ => [])[i]? = some (.agg [.lit (.int .u8 a), .lit (.int .u8 b), .lit (.int .u8 c), .lit (.int .u8 d), .lit (.int .i64 m)]) → cs.toList[i * 5]? = some (.int .u8 a) ∧ cs.toList[i * 5 + 1]? = some (.int .u8 b) ∧ cs.toList[i * 5 + 2]? = some (.int .u8 c) ∧ cs.toList[i * 5 + 3]? = some (.int .u8 d) ∧ cs.toList[i * 5 + 4]? = some (.int .i64 m) := by
    intro i a b c d m hi hd
    obtain ⟨f, dd, q, e1, e2⟩ := el i hi
    have : some dd = some (.agg [.lit (.int .u8 a), .lit (.int .u8 b), .lit (.int .u8 c), .lit (.int .u8 d), .lit (.int .i64 m)]) := e1.symm.trans hd
    obtain rfl := Option.some.inj this
    obtain ⟨c0, c1, c2, c3, c4⟩ := row_cells e2
    rw [hc] at c0 c1 c2 c3 c4
    simp only [List.getElem?_take, List.getElem?_drop] at c0 c1 c2 c3 c4
    exact ⟨by simpa using c0, by simpa using c1, by simpa using c2, by simpa using c3, by simpa using c4⟩
  have a0 := el2 0 _ _ _ _ _ (by decide) rfl
  have a1 := el2 1 _ _ _ _ _ (by decide) rfl
  have a2 := el2 2 _ _ _ _ _ (by decide) rfl
  have a3 := el2 3 _ _ _ _ _ (by decide) rfl
  have a4 := el2 4 _ _ _ _ _ (by decide) rfl
  have a5 := el2 5 _ _ _ _ _ (by decide) rfl
  have a6 := el2 6 _ _ _ _ _ (by decide) rfl
  have a7 := el2 7 _ _ _ _ _ (by decide) rfl
  have hcs : cs = rowsC := by
    apply Array.toList_inj.1
    apply List.ext_getElem?
    intro i
    by_cases hi : i < 40
    · rcases (show i = 0 ∨ i = 1 ∨ i = 2 ∨ i = 3 ∨ i = 4 ∨ i = 5 ∨ i = 6 ∨ i = 7 ∨ i = 8 ∨ i = 9 ∨ i = 10 ∨ i = 11 ∨ i = 12 ∨ i = 13 ∨ i = 14 ∨ i = 15 ∨ i = 16 ∨ i = 17 ∨ i = 18 ∨ i = 19 ∨ i = 20 ∨ i = 21 ∨ i = 22 ∨ i = 23 ∨ i = 24 ∨ i = 25 ∨ i = 26 ∨ i = 27 ∨ i = 28 ∨ i = 29 ∨ i = 30 ∨ i = 31 ∨ i = 32 ∨ i = 33 ∨ i = 34 ∨ i = 35 ∨ i = 36 ∨ i = 37 ∨ i = 38 ∨ i = 39 by omega) with
        rfl | rfl | rfl | rfl | rfl | rfl | rfl | rfl | rfl | rfl | rfl | rfl | rfl | rfl | rfl | rfl | rfl | rfl | rfl | rfl | rfl | rfl | rfl | rfl | rfl | rfl | rfl | rfl | rfl | rfl | rfl | rfl | rfl | rfl | rfl | rfl | rfl | rfl | rfl | rfl
      · exact a0.1
      · exact a0.2.1
      · exact a0.2.2.1
      · exact a0.2.2.2.1
      · exact a0.2.2.2.2
      · exact a1.1
      · exact a1.2.1
      · exact a1.2.2.1
      · exact a1.2.2.2.1
      · exact a1.2.2.2.2
      · exact a2.1
      · exact a2.2.1
      · exact a2.2.2.1
      · exact a2.2.2.2.1
      · exact a2.2.2.2.2
      · exact a3.1
      · exact a3.2.1
      · exact a3.2.2.1
      · exact a3.2.2.2.1
      · exact a3.2.2.2.2
      · exact a4.1
      · exact a4.2.1
      · exact a4.2.2.1
      · exact a4.2.2.2.1
      · exact a4.2.2.2.2
      · exact a5.1
      · exact a5.2.1
      · exact a5.2.2.1
      · exact a5.2.2.2.1
      · exact a5.2.2.2.2
      · exact a6.1
      · exact a6.2.1
      · exact a6.2.2.1
      · exact a6.2.2.2.1
      · exact a6.2.2.2.2
      · exact a7.1
      · exact a7.2.1
      · exact a7.2.2.1
      · exact a7.2.2.2.1
      · exact a7.2.2.2.2
    · rw [List.getElem?_eq_none (by omega), List.getElem?_eq_none (by simp [rowsC]; omega)]
  unfold World.var? at h3
  rw [glRw] at h3
  simp only [Option.bind_some] at h3
  split at h3
  · rename_i c t f hh
    obtain rfl := Option.some.inj h3
    exact ⟨_, _, by rw [hh, hcs]⟩
  · cases h3
theorem pow_of {W : World} (h : Lib.VarReads Tryz.prog W "internal/strconv.uint64pow10" Rows.laid_internal_strconv_uint64pow10) : Pow W := by
  obtain ⟨g, t, cs, fuel, p, h1, h2, h3, h4⟩ := h
  rw [glPow] at h1
  obtain rfl := Option.some.inj h1
  have hty : (Tryz.prog.globals[5]?).map (·.type) = some 173 := by kernel_rfl
  rw [hty] at h2
  obtain rfl := Option.some.inj h2
  have := Lib.cells_of_tab (zs := Lib.pow10Tab) Tryz.underlying173 Tryz.underlying137 (by kernel_rfl) (by kernel_rfl) h4
  unfold Pow Lib.TabIs
  rw [h3, ← this]
end Go.Proofs.YtkplbggefiemdaaGreatDoor
