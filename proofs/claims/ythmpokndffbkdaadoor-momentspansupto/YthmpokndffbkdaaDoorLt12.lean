/-
  From what the row lists of the tables to what the walks ask of memory. No conditions.
-/
import Derived.Test.YthmpokndffbkdaaDoorKn12
import Derived.Test.YthmpokndffbkdaaDoorRows
import Derived.Lib.LaidU8
import Derived.Lay
namespace Go.Proofs.YthmpokndffbkdaaDoor
open Go.RowKit
set_option linter.unusedVariables false
theorem unit_cells {W : World} {fuel : Nat} {cs : List Value} {nm : List UInt8} {k : Int} {q : List MemPlace} (h : DataW.trod (fun _ => ()) Tryd.prog W 0 (fun _ => true) false fuel 56 cs = some (.agg [.lit (.string nm), .lit (.int .i64 k)], q)) : cs[0]? = some (.string ⟨nm.toArray⟩) ∧ cs[1]? = some (.int .i64 k) := by
  obtain ⟨fs, hfs⟩ : ∃ fs, Tryd.prog.underlying 56 = some (.struct fs) := ⟨_, Tryd.underlying56⟩
  have hfs2 := hfs
  rw [Tryd.underlying56] at hfs2
  obtain ⟨xs, n, rfl, hx, hl, hxl, hall⟩ := DataW.trod_struct hfs h
  have hfe := Option.some.inj hfs2
  injection hfe with hfe
  subst hfe
  have h0 := hall 0 _ rfl
  have h1 := hall 1 _ rfl
  have hxs := congrArg Prod.fst hx
  simp only [DataW.agg.injEq] at hxs
  have hc9 : Tryd.prog.cellsOf 9 = 1 := by kernel_rfl
  have hc3 : Tryd.prog.cellsOf 3 = 1 := by kernel_rfl
  match xs, hxl, hxs, h0, h1 with
  | [a, b], _, hxs, h0, h1 =>
    simp only [List.map_cons, List.map_nil, List.cons.injEq, and_true] at hxs
    obtain ⟨s, hs, ha, _⟩ := DataW.trod_string Tryd.underlying9 h0
    obtain ⟨z, hz, hb, _⟩ := DataW.trod_int Tryd.underlying3 h1
    rw [ha] at hxs
    rw [hb] at hxs
    simp only [DataW.lit.injEq, Lit.string.injEq, Lit.int.injEq, true_and] at hxs
    obtain ⟨e1, e2⟩ := hxs
    refine ⟨?_, ?_⟩
    · have hs' : (cs.drop 0).take (Tryd.prog.cellsOf 9) = [.string s] := hs
      rw [hc9] at hs'
      have := congrArg (·[0]?) hs'
      simp at this
      rw [this, e1]
    · have hz' : (cs.drop 1).take (Tryd.prog.cellsOf 3) = [.int .i64 z] := hz
      rw [hc3] at hz'
      have := congrArg (·[0]?) hz'
      simp at this
      rw [this, e2]
theorem glUn : Tryd.prog.globalNamed "dragnet/moment.units" = some 0 := by kernel_rfl
theorem glUnT : (Tryd.prog.globals[0]?).map (·.type) = some 57 := by kernel_rfl
theorem un_of {W : World} (h : Lib.VarReads Tryd.prog W "dragnet/moment.units" Rows.laid_dragnet_moment_units) : UnT W := by
  obtain ⟨g, t, cs, fuel, p, h1, h2, h3, h4⟩ := h
  rw [glUn] at h1
  obtain rfl := Option.some.inj h1
  rw [glUnT] at h2
  obtain rfl := Option.some.inj h2
  have hc : Tryd.prog.cellsOf 56 = 2 := by kernel_rfl
  have hcell : ∀ i v, cs.toList[i]? = some v → W.cell? ⟨0, i, none⟩ = some v := by
    intro i v hv
    unfold World.var? at h3
    rw [glUn] at h3
    simp only [Option.bind_some] at h3
    simp only [World.cell?]
    split at h3
    · rename_i c t f hh
      rw [hh]
      obtain rfl := Option.some.inj h3
      simpa using hv
    · cases h3
  have el := fun i hi => Lib.array_elem Tryd.underlying57 h4 i hi
  have el2 : ∀ i nm k, i < 5 → (match Rows.laid_dragnet_moment_units (H := Unit) with | .agg l => l | _ => [])[i]? = some (.agg [.lit (.string nm), .lit (.int .i64 k)]) → W.cell? ⟨0, 2 * i, none⟩ = some (.string ⟨nm.toArray⟩) ∧ W.cell? ⟨0, 2 * i + 1, none⟩ = some (.int .i64 k) := by
    intro i nm k hi hd
    obtain ⟨f, d, q, e1, e2⟩ := el i hi
    have : some d = some (.agg [.lit (.string nm), .lit (.int .i64 k)]) := e1.symm.trans hd
    obtain rfl := Option.some.inj this
    obtain ⟨c0, c1⟩ := unit_cells e2
    rw [hc] at c0 c1
    simp only [List.getElem?_take, List.getElem?_drop] at c0 c1
    refine ⟨hcell _ _ ?_, hcell _ _ ?_⟩
    · rw [← c0, Nat.mul_comm]; simp
    · rw [← c1, Nat.mul_comm]; simp
  have a0 := el2 0 _ _ (by decide) rfl
  have a1 := el2 1 _ _ (by decide) rfl
  have a2 := el2 2 _ _ (by decide) rfl
  have a3 := el2 3 _ _ (by decide) rfl
  have a4 := el2 4 _ _ (by decide) rfl
  exact ⟨a0.1, a0.2, a1.1, a1.2, a2.1, a2.2, a3.1, a3.2, a4.1, a4.2⟩
theorem pow_of {W : World} (h : Lib.VarReads Tryd.prog W "internal/strconv.uint64pow10" Rows.laid_internal_strconv_uint64pow10) : Pow W := by
  obtain ⟨g, t, cs, fuel, p, h1, h2, h3, h4⟩ := h
  rw [glPow] at h1
  obtain rfl := Option.some.inj h1
  have hty : (Tryd.prog.globals[3]?).map (·.type) = some 117 := by kernel_rfl
  rw [hty] at h2
  obtain rfl := Option.some.inj h2
  have := Lib.cells_of_tab (zs := Lib.pow10Tab) Tryd.underlying117 Tryd.underlying108 (by kernel_rfl) (by kernel_rfl) h4
  unfold Pow Lib.TabIs
  rw [h3, ← this]
end Go.Proofs.YthmpokndffbkdaaDoor
