/-
  The law CodeReads returns true for every input, and its arguments read afterwards as before. No condition but the form's own reach.
-/
import Derived.Test.YthmaaeibdcoemaaRows
import Derived.WalkKit
import Derived.ProofKit
import Derived.OpenShut
import Derived.ShutString
import Derived.SizedLaws
import Derived.Deep.DeepHandedRow
import Derived.Deep.Grids
import Derived.Test.YthmaaeibdcoemaaSlc
import Derived.Test.YthmaaeibdcoemaaCodeReadsW
namespace Go.Proofs.Ythmaaeibdcoemaa.codeReads
open Go.ChangeShapes Go.WideShapes Go.ChangeAt Go.RowKit
open Go.ChangeMaps (open_string shut_string)
set_option linter.unusedVariables false

theorem own : ownKnob Try.prog.godebug = none := by kernel_rfl
theorem laidOut : laidOutB Try.prog = true := by kernel_rfl
theorem wf_i64 {a : Int} (h : (Lit.int .i64 a).wf = true) : -9223372036854775808 ≤ a ∧ a ≤ 9223372036854775807 := by
  simpa [Lit.wf, IntKind.min, IntKind.max, IntKind.signed, IntKind.bits] using h
theorem wf_u64 {a : Int} (h : (Lit.int .u64 a).wf = true) : 0 ≤ a ∧ a ≤ 18446744073709551615 := by
  simpa [Lit.wf, IntKind.min, IntKind.max, IntKind.signed, IntKind.bits] using h
theorem wf_u8 {a : Int} (h : (Lit.int .u8 a).wf = true) : 0 ≤ a ∧ a ≤ 255 := by
  simpa [Lit.wf, IntKind.min, IntKind.max, IntKind.signed, IntKind.bits] using h
theorem wf_u32 {a : Int} (h : (Lit.int .u32 a).wf = true) : 0 ≤ a ∧ a ≤ 4294967295 := by
  simpa [Lit.wf, IntKind.min, IntKind.max, IntKind.signed, IntKind.bits] using h
theorem walk (W : World) (a0 : ByteArray) (w0 : a0.size ≤ reachBytes) (a1 : ByteArray) (w1 : a1.size ≤ reachBytes) (p2 : Option Addr) (len2 cap2 : Nat) (K2 O2 N2 : Nat → Int) (s2 : len2 ≤ reachBytes) (z2 : ∀ i, i < len2 → (-9223372036854775808 ≤ O2 i ∧ O2 i ≤ 9223372036854775807) ∧ N2 i ≤ 9223372036854775807) (c2 : ∀ i, i < len2 → ∃ g off, p2 = some ⟨g, off, none⟩ ∧ W.cell? ⟨g, off + i * 3, none⟩ = some (.int .i64 (K2 i)) ∧ W.cell? ⟨g, off + i * 3 + 1, none⟩ = some (.int .i64 (O2 i)) ∧ W.cell? ⟨g, off + i * 3 + 2, none⟩ = some (.int .i64 (N2 i))) :
    Calls Try.prog 5 #[.string a0, .string a1, .slice p2 len2 cap2] W fun e w' => e = .returned (.bool true) ∧ Below W.heap.size W w' := by
  have w0b : a0.size ≤ 140737488351232 := by unfold reachBytes at w0; omega
  have w1b : a1.size ≤ 140737488351232 := by unfold reachBytes at w1; omega
  have s2b : len2 ≤ 140737488351232 := by unfold reachBytes at s2; omega
  exact codeReads_any a0 a1 p2 len2 cap2 K2 O2 N2 W w0b w1b s2b z2 c2

theorem contract (H : Type) (enc : TypeId × Value → H) (W : World) (base : Nat) (args : Array Value) (ds gs : List (DataW H)) (before : List MemPlace)
    (hval : ∀ (j : Nat) t v, Try.f5.params[j]? = some t → args[j]? = some v → Value.okWide Try.prog W .any base t v)
    (hW : DataW.Whole enc Try.prog Try.f5.params.toList Rows.codeReadsSpec.vars false W args.toList ds gs before)
    (hsz : (DataW.weightsEach Try.prog (Try.f5.params.toList ++ Rows.codeReadsSpec.plain.varTypes Try.prog) (ds ++ gs)).all (· ≤ reachBytes) = true) :
    Calls Try.prog 5 args W fun e W' => ∃ v, e = .returned v ∧ Rows.codeReadsSpec.post enc Try.prog Try.f5 false true false false W args v W' := by
  have hW' := hW
  obtain ⟨p, q, hA0, hV, rfl, hfz, hnd⟩ := hW
  have hA : DataW.TrodAll enc Try.prog W 0 (fun _ => true) true Try.f5.params.toList args.toList ds p := hA0
  rw [Try.params5] at hA hval hsz
  obtain ⟨v0, vs0, d0, ds0, p0, q0, hargs, rfl, rfl, h0, r0⟩ := trodAll_cons hA
  obtain ⟨v1, vs1, d1, ds1, p1, q1, rfl, rfl, rfl, h1, r1⟩ := trodAll_cons r0
  obtain ⟨v2, vs2, d2, ds2, p2, q2, rfl, rfl, rfl, h2, r2⟩ := trodAll_cons r1
  obtain ⟨rfl, rfl, rfl⟩ := trodAll_nil r2
  obtain rfl : args = #[v0, v1, v2] := by cases args; simp_all
  obtain ⟨rfl, rfl⟩ := trodVars_none hV
  obtain ⟨a0, rfl, rfl, rfl, w0⟩ := open_string Try.underlying9 (hval 0 9 v0 rfl rfl) h0
  have hz0 := sized_string hsz (j := 0) (t := 9) rfl rfl
  obtain ⟨a1, rfl, rfl, rfl, w1⟩ := open_string Try.underlying9 (hval 1 9 v1 rfl rfl) h1
  have hz1 := sized_string hsz (j := 1) (t := 9) rfl rfl
  obtain ⟨pp2, len2, cap2, rfl⟩ := okWide_slice Try.underlying34 (hval 2 34 v2 rfl rfl)
  have k2 := h2
  have lt2 : ∀ x ∈ p2, x.block < W.heap.size := by obtain ⟨m, hm⟩ := k2; exact DataW.trod_lt m _ _ _ hm
  obtain ⟨s2, K2, O2, N2, z2, c2⟩ : len2 ≤ reachBytes ∧ ∃ K O N : Nat → Int, (∀ i, i < len2 → (-9223372036854775808 ≤ O i ∧ O i ≤ 9223372036854775807) ∧ N i ≤ 9223372036854775807) ∧ ∀ i, i < len2 → ∃ g off, pp2 = some ⟨g, off, none⟩ ∧ W.cell? ⟨g, off + i * 3, none⟩ = some (.int .i64 (K i)) ∧ W.cell? ⟨g, off + i * 3 + 1, none⟩ = some (.int .i64 (O i)) ∧ W.cell? ⟨g, off + i * 3 + 2, none⟩ = some (.int .i64 (N i)) := by
    obtain ⟨fuel, hf⟩ := h2
    rcases Go.Deep.open_slice_ints3 Try.underlying34 Try.underlying43 (by kernel_rfl) rfl rfl rfl (by kernel_rfl) (by kernel_rfl) (by kernel_rfl) Try.underlying3 Try.underlying3 Try.underlying3 hf with ⟨hcs, _⟩ | ⟨x, l, c, m, D, K, O, N, hcs, hlm, hx, hcell⟩
    · simp [Value.cells] at hcs
      obtain ⟨rfl, rfl, rfl⟩ := hcs
      exact ⟨by unfold reachBytes; simp, fun _ => 0, fun _ => 0, fun _ => 0, fun i hi => by omega, fun i hi => by omega⟩
    · simp [Value.cells] at hcs
      obtain ⟨rfl, rfl, rfl⟩ := hcs
      dsimp only at hx
      subst hx
      have hsl := sized_slice hsz (j := 2) (t := 34) (e := 43) rfl rfl Try.underlying34
      rw [show Try.prog.bytesOf 43 = 24 by kernel_rfl] at hsl
      simp only [List.length_map, List.length_range] at hsl
      refine ⟨by omega, K, O, N, fun i hi => ?_, fun i hi => ?_⟩
      · obtain ⟨_, a1, a2, _⟩ := hcell i (by omega)
        exact ⟨wf_i64 a1, (wf_i64 a2).2⟩
      · obtain ⟨_, _, _, b0, b1, b2⟩ := hcell i (by omega)
        have hc0 := (hcell 0 (by omega)).2.2.2.1
        obtain ⟨g, off, spot⟩ := x
        have hspot : spot = none := by simpa [Addr.add] using World.cell?_spot hc0
        subst hspot
        have e2 : ∀ j, (⟨g, off, none⟩ : Addr).add j = ⟨g, off + j, none⟩ := by intro j; unfold Addr.add; split <;> simp_all
        rw [e2] at b0 b1 b2
        exact ⟨g, off, rfl, b0, b1, b2⟩
  clear hA0
  refine (walk W a0 (by simpa using hz0) a1 (by simpa using hz1) pp2 len2 cap2 K2 O2 N2 s2 z2 c2).mono fun e W' ⟨he, bel⟩ => ?_
  subst he
  exact ⟨_, rfl, _, _, _, [], _, [], hW', trodAll_mk1 (shut_bool Try.underlying4 _), (trodAll_cons_mk (shut_string Try.underlying9 w0) (trodAll_cons_mk (shut_string Try.underlying9 w1) (trodAll_cons_mk (Below.trod laidOut (by kernel_rfl) (of_decide_eq_true (by kernel_rfl)) k2 bel lt2) trodAll_mk0))), rfl, bel.frame _, fun h => by cases h⟩

set_option maxRecDepth 100000 in
theorem lifted (os : Os) (started : os.Started) (H : Type) (enc : TypeId × Value → H) :
    ReturnsInHanded {} Try.checked os 5 .any (Rows.codeReadsSpec.pre6 enc Try.prog Try.f5 Rows.codeReadsRow.domain false) (Rows.codeReadsSpec.post enc Try.prog Try.f5 false true false false) := by
  refine returnsInHanded_of_change_sized (C := Try.checked) own started (by kernel_rfl) Try.func5
    (ChangeSpec.witness6 (enc := enc) (C := Try.checked) false ⟨#[], #[.string ByteArray.empty, .string ByteArray.empty, .slice none 0 0], []⟩ 8 (by kernel_rfl) (by kernel_rfl) (by kernel_rfl) (by kernel_rfl)) ?_
  intro W base args ds gs before hval hW _ hsz _
  exact contract H enc W base args ds gs before hval hW hsz

theorem over : Rows.codeReadsRow.holds Try.pinned (OpenSpec.ofChange Rows.codeReadsSpec) :=
  OpenClaim.holds_of_wide 5 Try.f5 rfl rfl rfl rfl rfl rfl rfl ⟨rfl, rfl, rfl, rfl, rfl⟩ rfl rfl rfl rfl rfl (by kernel_rfl) Try.func5 (by kernel_rfl)
    (of_decide_eq_true (by kernel_rfl)) (by unfold Func.isWrapper; first | (rw [if_pos (by decide +kernel)]; kernel_rfl) | (rw [if_neg (by decide +kernel)]; exact ⟨rfl, rfl⟩))
    (fun os started H enc _ => lifted os started H enc)

theorem proved : Rows.CodeReadsSaid :=
  over
#print axioms proved
end Go.Proofs.Ythmaaeibdcoemaa.codeReads
