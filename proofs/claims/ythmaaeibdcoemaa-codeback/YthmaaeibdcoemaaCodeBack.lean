/-
  The law CodeBack returns true for every input, and its arguments read afterwards as before. No condition but the form's own reach.
-/
import Derived.Test.YthmaaeibdcoemaaRows
import Derived.WalkKit
import Derived.ProofKit
import Derived.OpenShut
import Derived.ShutString
import Derived.SizedLaws
import Derived.Deep.DeepHandedRow
import Derived.Deep.Grids
import Derived.Test.YthmaaeibdcoemaaSlt
import Derived.Test.YthmaaeibdcoemaaCodeBackW
namespace Go.Proofs.Ythmaaeibdcoemaa.codeBack
open Go.ChangeShapes Go.WideShapes Go.ChangeAt Go.RowKit
open Go.ChangeMaps (open_string shut_string)
set_option linter.unusedVariables false

theorem own : ownKnob Try.prog.godebug = none := by kernel_rfl
theorem laidOut : laidOutB Try.prog = true := by kernel_rfl
theorem wf_i64 {a : Int} (h : (Lit.int .i64 a).wf = true) : -9223372036854775808 ≤ a ∧ a ≤ 9223372036854775807 := by
  simpa [Lit.wf, IntKind.min, IntKind.max, IntKind.signed, IntKind.bits] using h
theorem wf_u64 {a : Int} (h : (Lit.int .u64 a).wf = true) : 0 ≤ a ∧ a ≤ 18446744073709551615 := by
  simpa [Lit.wf, IntKind.min, IntKind.max, IntKind.signed, IntKind.bits] using h
theorem wf_u8 {a : Int} (h : (Lit.int .u8 a).wf = true) : 0 ≤ a ∧ a ≤ 255 := by
  simpa [Lit.wf, IntKind.min, IntKind.max, IntKind.signed, IntKind.bits] using h
theorem wf_u32 {a : Int} (h : (Lit.int .u32 a).wf = true) : 0 ≤ a ∧ a ≤ 4294967295 := by
  simpa [Lit.wf, IntKind.min, IntKind.max, IntKind.signed, IntKind.bits] using h
theorem walk (W : World) (p0 : Option Addr) (len0 cap0 : Nat) (T0 : Nat → Th) (s0 : len0 ≤ reachBytes) (z0 : ∀ i, i < len0 → (T0 i).Ok) (c0 : ∀ i, i < len0 → ∃ g off, p0 = some ⟨g, off, none⟩ ∧ W.cell? ⟨g, off + i * 5, none⟩ = some (.int .i64 (T0 i).k) ∧ W.cell? ⟨g, off + i * 5 + 1, none⟩ = some (.int .u64 ((T0 i).n : Int)) ∧ W.cell? ⟨g, off + i * 5 + 2, none⟩ = some (.int .i64 (T0 i).i) ∧ W.cell? ⟨g, off + i * 5 + 3, none⟩ = some (.string (T0 i).s) ∧ W.cell? ⟨g, off + i * 5 + 4, none⟩ = some (.int .i64 (T0 i).d)) (a1 : ByteArray) (w1 : a1.size ≤ reachBytes) :
    Calls Try.prog 6 #[.slice p0 len0 cap0, .string a1] W fun e w' => e = .returned (.bool true) ∧ Below W.heap.size W w' := by
  have s0b : len0 ≤ 140737488351232 := by unfold reachBytes at s0; omega
  have w1b : a1.size ≤ 140737488351232 := by unfold reachBytes at w1; omega
  exact codeBack_any p0 len0 cap0 T0 a1 W s0b z0 c0 w1b

theorem contract (H : Type) (enc : TypeId × Value → H) (W : World) (base : Nat) (args : Array Value) (ds gs : List (DataW H)) (before : List MemPlace)
    (hval : ∀ (j : Nat) t v, Try.f6.params[j]? = some t → args[j]? = some v → Value.okWide Try.prog W .any base t v)
    (hW : DataW.Whole enc Try.prog Try.f6.params.toList Rows.codeBackSpec.vars false W args.toList ds gs before)
    (hsz : (DataW.weightsEach Try.prog (Try.f6.params.toList ++ Rows.codeBackSpec.plain.varTypes Try.prog) (ds ++ gs)).all (· ≤ reachBytes) = true) :
    Calls Try.prog 6 args W fun e W' => ∃ v, e = .returned v ∧ Rows.codeBackSpec.post enc Try.prog Try.f6 false true false false W args v W' := by
  have hW' := hW
  obtain ⟨p, q, hA0, hV, rfl, hfz, hnd⟩ := hW
  have hA : DataW.TrodAll enc Try.prog W 0 (fun _ => true) true Try.f6.params.toList args.toList ds p := hA0
  rw [Try.params6] at hA hval hsz
  obtain ⟨v0, vs0, d0, ds0, p0, q0, hargs, rfl, rfl, h0, r0⟩ := trodAll_cons hA
  obtain ⟨v1, vs1, d1, ds1, p1, q1, rfl, rfl, rfl, h1, r1⟩ := trodAll_cons r0
  obtain ⟨rfl, rfl, rfl⟩ := trodAll_nil r1
  obtain rfl : args = #[v0, v1] := by cases args; simp_all
  obtain ⟨rfl, rfl⟩ := trodVars_none hV
  obtain ⟨pp0, len0, cap0, rfl⟩ := okWide_slice Try.underlying47 (hval 0 47 v0 rfl rfl)
  have k0 := h0
  have lt0 : ∀ x ∈ p0, x.block < W.heap.size := by obtain ⟨m, hm⟩ := k0; exact DataW.trod_lt m _ _ _ hm
  obtain ⟨s0, T0, z0, c0⟩ : len0 ≤ reachBytes ∧ ∃ T : Nat → Th, (∀ i, i < len0 → (T i).Ok) ∧ ∀ i, i < len0 → ∃ g off, pp0 = some ⟨g, off, none⟩ ∧ W.cell? ⟨g, off + i * 5, none⟩ = some (.int .i64 (T i).k) ∧ W.cell? ⟨g, off + i * 5 + 1, none⟩ = some (.int .u64 ((T i).n : Int)) ∧ W.cell? ⟨g, off + i * 5 + 2, none⟩ = some (.int .i64 (T i).i) ∧ W.cell? ⟨g, off + i * 5 + 3, none⟩ = some (.string (T i).s) ∧ W.cell? ⟨g, off + i * 5 + 4, none⟩ = some (.int .i64 (T i).d) := by
    obtain ⟨fuel, hf⟩ := h0
    rcases Go.Deep.open_slice_things Try.underlying47 Try.underlying52 (by kernel_rfl) rfl rfl rfl rfl rfl (by kernel_rfl) (by kernel_rfl) (by kernel_rfl) (by kernel_rfl) (by kernel_rfl) Try.underlying3 Try.underlying22 Try.underlying3 Try.underlying9 Try.underlying3 hf with ⟨hcs, _⟩ | ⟨x, l, c, m, D, q, hcs, hlm, hx, hcell⟩
    · simp [Value.cells] at hcs
      obtain ⟨rfl, rfl, rfl⟩ := hcs
      exact ⟨by unfold reachBytes; simp, fun _ => ⟨0, 0, 0, ByteArray.empty, 0⟩, fun i hi => by omega, fun i hi => by omega⟩
    · simp [Value.cells] at hcs
      obtain ⟨rfl, rfl, rfl⟩ := hcs
      dsimp only at hx
      subst hx
      have hsl := sized_slice hsz (j := 0) (t := 47) (e := 52) rfl rfl Try.underlying47
      rw [show Try.prog.bytesOf 52 = 48 by kernel_rfl] at hsl
      simp only [List.length_map, List.length_range] at hsl
      have hstr : ∀ i, i < len0 → (q i).2.2.2.1.size ≤ reachBytes := by
        intro i hi
        obtain ⟨_, _, y0, y1, y2, y4, hD⟩ := hcell i (by omega)
        have := Go.Deep.sized_thing hsz (j := 0) (t := 47) (e := 52) rfl rfl Try.underlying47 Try.underlying52 hi hD
        simpa using this
      refine ⟨by omega, fun i => ⟨(q i).1, (q i).2.1.toNat, (q i).2.2.1, (q i).2.2.2.1, (q i).2.2.2.2⟩, fun i hi => ?_, fun i hi => ?_⟩
      · obtain ⟨⟨a0, a1, a2, a4⟩, _⟩ := hcell i (by omega)
        have hs := hstr i hi
        unfold reachBytes at hs
        have b1 := wf_u64 a1
        exact ⟨(wf_i64 a0).1, (wf_i64 a0).2, by show (q i).2.1.toNat < _; omega, (wf_i64 a2).1, (wf_i64 a2).2, by show (q i).2.2.2.1.size ≤ _; omega, (wf_i64 a4).1, (wf_i64 a4).2⟩
      · obtain ⟨⟨_, a1, _, _⟩, ⟨b0, b1, b2, b3, b4⟩, _⟩ := hcell i (by omega)
        have hc0 := (hcell 0 (by omega)).2.1.1
        obtain ⟨g, off, spot⟩ := x
        have hspot : spot = none := by simpa [Addr.add] using World.cell?_spot hc0
        subst hspot
        have e2 : ∀ j, (⟨g, off, none⟩ : Addr).add j = ⟨g, off + j, none⟩ := by intro j; unfold Addr.add; split <;> simp_all
        rw [e2] at b0 b1 b2 b3 b4
        refine ⟨g, off, rfl, b0, ?_, b2, b3, b4⟩
        have h1 : (((q i).2.1.toNat : Nat) : Int) = (q i).2.1 := Int.toNat_of_nonneg (wf_u64 a1).1
        show _ = some (Value.int .u64 (((q i).2.1.toNat : Nat) : Int))
        rw [h1]
        exact b1
  obtain ⟨a1, rfl, rfl, rfl, w1⟩ := open_string Try.underlying9 (hval 1 9 v1 rfl rfl) h1
  have hz1 := sized_string hsz (j := 1) (t := 9) rfl rfl
  clear hA0
  refine (walk W pp0 len0 cap0 T0 s0 z0 c0 a1 (by simpa using hz1)).mono fun e W' ⟨he, bel⟩ => ?_
  subst he
  exact ⟨_, rfl, _, _, _, [], _, [], hW', trodAll_mk1 (shut_bool Try.underlying4 _), (trodAll_cons_mk (Below.trod laidOut (by kernel_rfl) (of_decide_eq_true (by kernel_rfl)) k0 bel lt0) (trodAll_cons_mk (shut_string Try.underlying9 w1) trodAll_mk0)), rfl, bel.frame _, fun h => by cases h⟩

set_option maxRecDepth 100000 in
theorem lifted (os : Os) (started : os.Started) (H : Type) (enc : TypeId × Value → H) :
    ReturnsInHanded {} Try.checked os 6 .any (Rows.codeBackSpec.pre6 enc Try.prog Try.f6 Rows.codeBackRow.domain false) (Rows.codeBackSpec.post enc Try.prog Try.f6 false true false false) := by
  refine returnsInHanded_of_change_sized (C := Try.checked) own started (by kernel_rfl) Try.func6
    (ChangeSpec.witness6 (enc := enc) (C := Try.checked) false ⟨#[], #[.slice none 0 0, .string ByteArray.empty], []⟩ 8 (by kernel_rfl) (by kernel_rfl) (by kernel_rfl) (by kernel_rfl)) ?_
  intro W base args ds gs before hval hW _ hsz _
  exact contract H enc W base args ds gs before hval hW hsz

theorem over : Rows.codeBackRow.holds Try.pinned (OpenSpec.ofChange Rows.codeBackSpec) :=
  OpenClaim.holds_of_wide 6 Try.f6 rfl rfl rfl rfl rfl rfl rfl ⟨rfl, rfl, rfl, rfl, rfl⟩ rfl rfl rfl rfl rfl (by kernel_rfl) Try.func6 (by kernel_rfl)
    (of_decide_eq_true (by kernel_rfl)) (by unfold Func.isWrapper; first | (rw [if_pos (by decide +kernel)]; kernel_rfl) | (rw [if_neg (by decide +kernel)]; exact ⟨rfl, rfl⟩))
    (fun os started H enc _ => lifted os started H enc)

theorem proved : Rows.CodeBackSaid :=
  over
#print axioms proved
end Go.Proofs.Ythmaaeibdcoemaa.codeBack
