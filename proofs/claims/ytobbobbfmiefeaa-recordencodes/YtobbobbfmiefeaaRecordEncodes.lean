/-
  The law RecordEncodes returns true for every input, and its arguments read afterwards as before. No condition but the form's own reach.
-/
import Derived.Test.YtobbobbfmiefeaaRows
import Derived.WalkKit
import Derived.ProofKit
import Derived.OpenShut
import Derived.ShutString
import Derived.SizedLaws
import Derived.Deep.DeepHandedRow
import Derived.Deep.Grids
import Derived.Test.YtobbobbfmiefeaaSll
import Derived.Test.YtobbobbfmiefeaaStl
import Derived.Test.YtobbobbfmiefeaaRecordEncodesW
namespace Go.Proofs.Ytobbobbfmiefeaa.recordEncodes
open Go.ChangeShapes Go.WideShapes Go.ChangeAt Go.RowKit
open Go.ChangeMaps (open_string shut_string)
set_option linter.unusedVariables false

theorem own : ownKnob Try.prog.godebug = none := by kernel_rfl
theorem laidOut : laidOutB Try.prog = true := by kernel_rfl
theorem wf_i64 {a : Int} (h : (Lit.int .i64 a).wf = true) : -9223372036854775808 ≤ a ∧ a ≤ 9223372036854775807 := by
  simpa [Lit.wf, IntKind.min, IntKind.max, IntKind.signed, IntKind.bits] using h
theorem wf_u64 {a : Int} (h : (Lit.int .u64 a).wf = true) : 0 ≤ a ∧ a ≤ 18446744073709551615 := by
  simpa [Lit.wf, IntKind.min, IntKind.max, IntKind.signed, IntKind.bits] using h
theorem wf_u8 {a : Int} (h : (Lit.int .u8 a).wf = true) : 0 ≤ a ∧ a ≤ 255 := by
  simpa [Lit.wf, IntKind.min, IntKind.max, IntKind.signed, IntKind.bits] using h
theorem wf_u32 {a : Int} (h : (Lit.int .u32 a).wf = true) : 0 ≤ a ∧ a ≤ 4294967295 := by
  simpa [Lit.wf, IntKind.min, IntKind.max, IntKind.signed, IntKind.bits] using h
theorem walk (W : World) (vv0 : Value) (l0 : List Rec.Ln) (s0 : LsAt vv0 l0 W ∧ l0.length ≤ 5864062014634 ∧ ∀ x ∈ l0, x.2.size ≤ 140737488351232 ∧ -9223372036854775808 ≤ x.1 ∧ x.1 ≤ 9223372036854775807) (a1 : Int) (w1 : (Lit.int .i64 a1).wf = true) (ax2 : Int) (at2 : ByteArray) (s2 : -9223372036854775808 ≤ ax2 ∧ ax2 ≤ 9223372036854775807 ∧ at2.size ≤ 140737488351232) :
    Calls Try.prog 3 #[vv0, .int .i64 a1, .agg #[.int .i64 ax2, .string at2]] W fun e w' => e = .returned (.bool true) ∧ Below W.heap.size W w' := by
  have w1b := wf_i64 w1
  exact recordEncodes_any vv0 l0 a1 ax2 at2 W s0.1 s0.2.1 (fun y hy => (s0.2.2 y hy).1) w1b.1 w1b.2 s2.1 s2.2.1 s2.2.2

set_option maxRecDepth 100000 in
theorem contract (H : Type) (enc : TypeId × Value → H) (W : World) (base : Nat) (args : Array Value) (ds gs : List (DataW H)) (before : List MemPlace)
    (hval : ∀ (j : Nat) t v, Try.f3.params[j]? = some t → args[j]? = some v → Value.okWide Try.prog W .any base t v)
    (hW : DataW.Whole enc Try.prog Try.f3.params.toList Rows.recordEncodesSpec.vars false W args.toList ds gs before)
    (hsz : (DataW.weightsEach Try.prog (Try.f3.params.toList ++ Rows.recordEncodesSpec.plain.varTypes Try.prog) (ds ++ gs)).all (· ≤ reachBytes) = true) :
    Calls Try.prog 3 args W fun e W' => ∃ v, e = .returned v ∧ Rows.recordEncodesSpec.post enc Try.prog Try.f3 false true false false W args v W' := by
  have hW' := hW
  obtain ⟨p, q, hA0, hV, rfl, hfz, hnd⟩ := hW
  have hA : DataW.TrodAll enc Try.prog W 0 (fun _ => true) true Try.f3.params.toList args.toList ds p := hA0
  rw [Try.params3] at hA hval hsz
  obtain ⟨v0, vs0, d0, ds0, p0, q0, hargs, rfl, rfl, h0, r0⟩ := trodAll_cons hA
  obtain ⟨v1, vs1, d1, ds1, p1, q1, rfl, rfl, rfl, h1, r1⟩ := trodAll_cons r0
  obtain ⟨v2, vs2, d2, ds2, p2, q2, rfl, rfl, rfl, h2, r2⟩ := trodAll_cons r1
  obtain ⟨rfl, rfl, rfl⟩ := trodAll_nil r2
  obtain rfl : args = #[v0, v1, v2] := by cases args; simp_all
  obtain ⟨rfl, rfl⟩ := trodVars_none hV
  obtain ⟨pp0, len0, cap0, rfl⟩ := okWide_slice Try.underlying22 (hval 0 22 v0 rfl rfl)
  have k0 := h0
  have lt0 : ∀ x ∈ p0, x.block < W.heap.size := by obtain ⟨m, hm⟩ := k0; exact DataW.trod_lt m _ _ _ hm
  obtain ⟨ls0, ss0⟩ : ∃ ls : List Rec.Ln, LsAt (.slice pp0 len0 cap0) ls W ∧ ls.length ≤ 5864062014634 ∧ ∀ x ∈ ls, x.2.size ≤ 140737488351232 ∧ -9223372036854775808 ≤ x.1 ∧ x.1 ≤ 9223372036854775807 := by
    obtain ⟨fuel, hf⟩ := h0
    rcases open_slice_lines Try.underlying22 Try.underlying24 (by kernel_rfl) rfl rfl (by kernel_rfl) (by kernel_rfl) Try.underlying3 Try.underlying9 hf with ⟨hcs, _⟩ | ⟨x, l, c, m, D, q, hcs, hlm, hlc, hx, hcell⟩
    · simp [Value.cells] at hcs
      obtain ⟨rfl, rfl, rfl⟩ := hcs
      exact ⟨[], ⟨none, 0, rfl, fun h => by simp at h⟩, by simp, by simp⟩
    · simp [Value.cells] at hcs
      obtain ⟨rfl, rfl, rfl⟩ := hcs
      dsimp only at hx
      subst hx
      have hsl := sized_slice hsz (j := 0) (t := 22) (e := 24) rfl rfl Try.underlying22
      rw [show Try.prog.bytesOf 24 = 24 by kernel_rfl] at hsl
      simp only [List.length_map, List.length_range] at hsl
      unfold reachBytes at hsl
      obtain ⟨g, off, spot⟩ := x
      by_cases hz : len0 = 0
      · subst hz
        exact ⟨[], ⟨_, _, rfl, fun h => by simp at h⟩, by simp, by simp⟩
      · have hc0 := (hcell 0 (by omega)).1.1
        have hspot : spot = none := by simpa [Addr.add] using World.cell?_spot hc0
        subst hspot
        have e2 : ∀ j, (⟨g, off, none⟩ : Addr).add j = ⟨g, off + j, none⟩ := by intro j; unfold Addr.add; split <;> simp_all
        refine ⟨(List.range len0).map q, ls_of g off len0 cap0 q W (fun i hi => ?_), by simp; omega, fun y hy => ?_⟩
        · obtain ⟨⟨b0, b1⟩, _⟩ := hcell i (by omega)
          rw [e2] at b0 b1
          exact ⟨b0, b1⟩
        · obtain ⟨i, hi, rfl⟩ := List.mem_map.1 hy
          have hi2 : i < len0 := by simpa using hi
          obtain ⟨_, a1, y0, hD⟩ := hcell i (by omega)
          have hs := sized_line hsz (j := 0) (t := 22) (e := 24) rfl rfl Try.underlying22 Try.underlying24 hi2 hD
          unfold reachBytes at hs
          exact ⟨by simpa using hs, wf_i64 a1⟩
  obtain ⟨a1, rfl, rfl, rfl, w1⟩ := open_int Try.underlying3 (hval 1 3 v1 rfl rfl) h1
  have k2 := h2
  have lt2 : ∀ x ∈ p2, x.block < W.heap.size := by obtain ⟨m, hm⟩ := k2; exact DataW.trod_lt m _ _ _ hm
  obtain ⟨cs2, rfl, _⟩ := okWide_struct Try.underlying24 (hval 2 24 v2 rfl rfl)
  obtain ⟨ax2, at2, hcs2, s2⟩ : ∃ (x : Int) (t : ByteArray), cs2 = #[.int .i64 x, .string t] ∧ -9223372036854775808 ≤ x ∧ x ≤ 9223372036854775807 ∧ t.size ≤ 140737488351232 := by
    obtain ⟨fuel, hf⟩ := h2
    obtain ⟨n, b, hcs, hwf, y0, hx⟩ := open_line Try.underlying24 (by kernel_rfl) rfl rfl (by kernel_rfl) (by kernel_rfl) Try.underlying3 Try.underlying9 hf
    dsimp only at hx
    subst hx
    have hs := sized_one hsz (j := 2) (t := 24) rfl rfl Try.underlying24
    unfold reachBytes at hs
    refine ⟨n, b, ?_, (wf_i64 hwf).1, (wf_i64 hwf).2, by simpa using hs⟩
    simp [Value.cells] at hcs
    exact Array.toList_inj.1 hcs
  subst hcs2
  clear hA0
  refine (walk W (.slice pp0 len0 cap0) ls0 ss0 a1 w1 ax2 at2 s2).mono fun e W' ⟨he, bel⟩ => ?_
  subst he
  exact ⟨_, rfl, _, _, _, [], _, [], hW', trodAll_mk1 (shut_bool Try.underlying4 _), (trodAll_cons_mk (Below.trod laidOut (by kernel_rfl) (of_decide_eq_true (by kernel_rfl)) k0 bel lt0) (trodAll_cons_mk (shut_int Try.underlying3 w1) (trodAll_cons_mk (Below.trod laidOut (by kernel_rfl) (of_decide_eq_true (by kernel_rfl)) k2 bel lt2) trodAll_mk0))), rfl, bel.frame _, fun h => by cases h⟩

set_option maxRecDepth 100000 in
theorem lifted (os : Os) (started : os.Started) (H : Type) (enc : TypeId × Value → H) :
    ReturnsInHanded {} Try.checked os 3 .any (Rows.recordEncodesSpec.pre6 enc Try.prog Try.f3 Rows.recordEncodesRow.domain false) (Rows.recordEncodesSpec.post enc Try.prog Try.f3 false true false false) := by
  refine returnsInHanded_of_change_sized (C := Try.checked) own started (by kernel_rfl) Try.func3
    (ChangeSpec.witness6 (enc := enc) (C := Try.checked) false ⟨#[], #[.slice none 0 0, .int .i64 0, .agg #[.int .i64 0, .string ByteArray.empty]], []⟩ 8 (by kernel_rfl) (by kernel_rfl) (by kernel_rfl) (by kernel_rfl)) ?_
  intro W base args ds gs before hval hW _ hsz _
  exact contract H enc W base args ds gs before hval hW hsz

theorem over : Rows.recordEncodesRow.holds Try.pinned (OpenSpec.ofChange Rows.recordEncodesSpec) :=
  OpenClaim.holds_of_wide 3 Try.f3 rfl rfl rfl rfl rfl rfl rfl ⟨rfl, rfl, rfl, rfl, rfl⟩ rfl rfl rfl rfl rfl (by kernel_rfl) Try.func3 (by kernel_rfl)
    (of_decide_eq_true (by kernel_rfl)) (by unfold Func.isWrapper; first | (rw [if_pos (by decide +kernel)]; kernel_rfl) | (rw [if_neg (by decide +kernel)]; exact ⟨rfl, rfl⟩))
    (fun os started H enc _ => lifted os started H enc)

theorem proved : Rows.RecordEncodesSaid :=
  over
#print axioms proved
end Go.Proofs.Ytobbobbfmiefeaa.recordEncodes
