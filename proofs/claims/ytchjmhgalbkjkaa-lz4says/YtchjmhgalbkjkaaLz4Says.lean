/-
  The law Lz4Says returns true for every input, and its arguments read afterwards as before. No condition but the form's own reach.
-/
import Derived.Test.YtchjmhgalbkjkaaRows
import Derived.WalkKit
import Derived.ProofKit
import Derived.OpenShut
import Derived.ShutString
import Derived.SizedLaws
import Derived.Deep.DeepHandedRow
import Derived.Deep.Grids
import Derived.Test.YtchjmhgalbkjkaaSls
import Derived.Test.YtchjmhgalbkjkaaLz4SaysW
namespace Go.Proofs.Ytchjmhgalbkjkaa.lz4Says
open Go.ChangeShapes Go.WideShapes Go.ChangeAt Go.RowKit
open Go.ChangeMaps (open_string shut_string)
set_option linter.unusedVariables false

theorem own : ownKnob Try.prog.godebug = none := by kernel_rfl
theorem laidOut : laidOutB Try.prog = true := by kernel_rfl
theorem wf_i64 {a : Int} (h : (Lit.int .i64 a).wf = true) : -9223372036854775808 ≤ a ∧ a ≤ 9223372036854775807 := by
  simpa [Lit.wf, IntKind.min, IntKind.max, IntKind.signed, IntKind.bits] using h
theorem wf_u64 {a : Int} (h : (Lit.int .u64 a).wf = true) : 0 ≤ a ∧ a ≤ 18446744073709551615 := by
  simpa [Lit.wf, IntKind.min, IntKind.max, IntKind.signed, IntKind.bits] using h
theorem wf_u8 {a : Int} (h : (Lit.int .u8 a).wf = true) : 0 ≤ a ∧ a ≤ 255 := by
  simpa [Lit.wf, IntKind.min, IntKind.max, IntKind.signed, IntKind.bits] using h
theorem wf_u32 {a : Int} (h : (Lit.int .u32 a).wf = true) : 0 ≤ a ∧ a ≤ 4294967295 := by
  simpa [Lit.wf, IntKind.min, IntKind.max, IntKind.signed, IntKind.bits] using h
theorem walk (W : World) (a0 : ByteArray) (w0 : a0.size ≤ reachBytes) (p1 : Option Addr) (len1 cap1 : Nat) (K1 : Nat → ByteArray) (B1 M1 : Nat → Int) (s1 : len1 ≤ reachBytes) (cc1 : len1 ≤ cap1) (z1 : ∀ i, i < len1 → (K1 i).size ≤ 140737488351232 ∧ (-9223372036854775808 ≤ B1 i ∧ B1 i ≤ 9223372036854775807) ∧ (-9223372036854775808 ≤ M1 i ∧ M1 i ≤ 9223372036854775807)) (c1 : ∀ i, i < len1 → ∃ g off, p1 = some ⟨g, off, none⟩ ∧ W.cell? ⟨g, off + i * 3, none⟩ = some (.string (K1 i)) ∧ W.cell? ⟨g, off + i * 3 + 1, none⟩ = some (.int .i64 (B1 i)) ∧ W.cell? ⟨g, off + i * 3 + 2, none⟩ = some (.int .i64 (M1 i))) (a2 : ByteArray) (w2 : a2.size ≤ reachBytes) (a3 : Int) (w3 : (Lit.int .i64 a3).wf = true) :
    Calls Try.prog 4 #[.string a0, .slice p1 len1 cap1, .string a2, .int .i64 a3] W fun e w' => e = .returned (.bool true) ∧ Below W.heap.size W w' := by
  have w0b : a0.size ≤ 140737488351232 := by unfold reachBytes at w0; omega
  have s1b : len1 ≤ 140737488351232 := by unfold reachBytes at s1; omega
  have w2b : a2.size ≤ 140737488351232 := by unfold reachBytes at w2; omega
  have w3b := wf_i64 w3
  exact lz4Says_any a0 p1 len1 cap1 K1 B1 M1 a2 a3 W w0b s1b cc1 z1 c1 w2b w3b.1 w3b.2

theorem contract (H : Type) (enc : TypeId × Value → H) (W : World) (base : Nat) (args : Array Value) (ds gs : List (DataW H)) (before : List MemPlace)
    (hval : ∀ (j : Nat) t v, Try.f4.params[j]? = some t → args[j]? = some v → Value.okWide Try.prog W .any base t v)
    (hW : DataW.Whole enc Try.prog Try.f4.params.toList Rows.lz4SaysSpec.vars false W args.toList ds gs before)
    (hsz : (DataW.weightsEach Try.prog (Try.f4.params.toList ++ Rows.lz4SaysSpec.plain.varTypes Try.prog) (ds ++ gs)).all (· ≤ reachBytes) = true) :
    Calls Try.prog 4 args W fun e W' => ∃ v, e = .returned v ∧ Rows.lz4SaysSpec.post enc Try.prog Try.f4 false true false false W args v W' := by
  have hW' := hW
  obtain ⟨p, q, hA0, hV, rfl, hfz, hnd⟩ := hW
  have hA : DataW.TrodAll enc Try.prog W 0 (fun _ => true) true Try.f4.params.toList args.toList ds p := hA0
  rw [Try.params4] at hA hval hsz
  obtain ⟨v0, vs0, d0, ds0, p0, q0, hargs, rfl, rfl, h0, r0⟩ := trodAll_cons hA
  obtain ⟨v1, vs1, d1, ds1, p1, q1, rfl, rfl, rfl, h1, r1⟩ := trodAll_cons r0
  obtain ⟨v2, vs2, d2, ds2, p2, q2, rfl, rfl, rfl, h2, r2⟩ := trodAll_cons r1
  obtain ⟨v3, vs3, d3, ds3, p3, q3, rfl, rfl, rfl, h3, r3⟩ := trodAll_cons r2
  obtain ⟨rfl, rfl, rfl⟩ := trodAll_nil r3
  obtain rfl : args = #[v0, v1, v2, v3] := by cases args; simp_all
  obtain ⟨rfl, rfl⟩ := trodVars_none hV
  obtain ⟨a0, rfl, rfl, rfl, w0⟩ := open_string Try.underlying9 (hval 0 9 v0 rfl rfl) h0
  have hz0 := sized_string hsz (j := 0) (t := 9) rfl rfl
  obtain ⟨pp1, len1, cap1, rfl⟩ := okWide_slice Try.underlying27 (hval 1 27 v1 rfl rfl)
  have k1 := h1
  have lt1 : ∀ x ∈ p1, x.block < W.heap.size := by obtain ⟨m, hm⟩ := k1; exact DataW.trod_lt m _ _ _ hm
  obtain ⟨s1, cc1, K1, B1, M1, z1, c1⟩ : len1 ≤ reachBytes ∧ len1 ≤ cap1 ∧ ∃ (K : Nat → ByteArray) (B M : Nat → Int), (∀ i, i < len1 → (K i).size ≤ 140737488351232 ∧ (-9223372036854775808 ≤ B i ∧ B i ≤ 9223372036854775807) ∧ (-9223372036854775808 ≤ M i ∧ M i ≤ 9223372036854775807)) ∧ ∀ i, i < len1 → ∃ g off, pp1 = some ⟨g, off, none⟩ ∧ W.cell? ⟨g, off + i * 3, none⟩ = some (.string (K i)) ∧ W.cell? ⟨g, off + i * 3 + 1, none⟩ = some (.int .i64 (B i)) ∧ W.cell? ⟨g, off + i * 3 + 2, none⟩ = some (.int .i64 (M i)) := by
    obtain ⟨fuel, hf⟩ := h1
    rcases open_slice_steps Try.underlying27 Try.underlying60 (by kernel_rfl) rfl rfl rfl (by kernel_rfl) (by kernel_rfl) (by kernel_rfl) Try.underlying9 Try.underlying3 Try.underlying3 hf with ⟨hcs, _⟩ | ⟨x, l, c, m, D, q, hcs, hlm, hlc, hx, hcell⟩
    · simp [Value.cells] at hcs
      obtain ⟨rfl, rfl, rfl⟩ := hcs
      exact ⟨by unfold reachBytes; simp, Nat.le_refl _, fun _ => ByteArray.empty, fun _ => 0, fun _ => 0, fun i hi => by omega, fun i hi => by omega⟩
    · simp [Value.cells] at hcs
      obtain ⟨rfl, rfl, rfl⟩ := hcs
      dsimp only at hx
      subst hx
      have hsl := sized_slice hsz (j := 1) (t := 27) (e := 60) rfl rfl Try.underlying27
      rw [show Try.prog.bytesOf 60 = 32 by kernel_rfl] at hsl
      simp only [List.length_map, List.length_range] at hsl
      refine ⟨by omega, hlc, fun i => (q i).1, fun i => (q i).2.1, fun i => (q i).2.2, fun i hi => ?_, fun i hi => ?_⟩
      · obtain ⟨_, ⟨a1, a2⟩, y1, y2, hD⟩ := hcell i (by omega)
        have hs := sized_step hsz (j := 1) (t := 27) (e := 60) rfl rfl Try.underlying27 Try.underlying60 hi hD
        unfold reachBytes at hs
        exact ⟨by simpa using hs, wf_i64 a1, wf_i64 a2⟩
      · obtain ⟨⟨b0, b1, b2⟩, _⟩ := hcell i (by omega)
        have hc0 := (hcell 0 (by omega)).1.1
        obtain ⟨g, off, spot⟩ := x
        have hspot : spot = none := by simpa [Addr.add] using World.cell?_spot hc0
        subst hspot
        have e2 : ∀ j, (⟨g, off, none⟩ : Addr).add j = ⟨g, off + j, none⟩ := by intro j; unfold Addr.add; split <;> simp_all
        rw [e2] at b0 b1 b2
        exact ⟨g, off, rfl, b0, b1, b2⟩
  obtain ⟨a2, rfl, rfl, rfl, w2⟩ := open_string Try.underlying9 (hval 2 9 v2 rfl rfl) h2
  have hz2 := sized_string hsz (j := 2) (t := 9) rfl rfl
  obtain ⟨a3, rfl, rfl, rfl, w3⟩ := open_int Try.underlying3 (hval 3 3 v3 rfl rfl) h3
  clear hA0
  refine (walk W a0 (by simpa using hz0) pp1 len1 cap1 K1 B1 M1 s1 cc1 z1 c1 a2 (by simpa using hz2) a3 w3).mono fun e W' ⟨he, bel⟩ => ?_
  subst he
  exact ⟨_, rfl, _, _, _, [], _, [], hW', trodAll_mk1 (shut_bool Try.underlying4 _), (trodAll_cons_mk (shut_string Try.underlying9 w0) (trodAll_cons_mk (Below.trod laidOut (by kernel_rfl) (of_decide_eq_true (by kernel_rfl)) k1 bel lt1) (trodAll_cons_mk (shut_string Try.underlying9 w2) (trodAll_cons_mk (shut_int Try.underlying3 w3) trodAll_mk0)))), rfl, bel.frame _, fun h => by cases h⟩

set_option maxRecDepth 100000 in
theorem lifted (os : Os) (started : os.Started) (H : Type) (enc : TypeId × Value → H) :
    ReturnsInHanded {} Try.checked os 4 .any (Rows.lz4SaysSpec.pre6 enc Try.prog Try.f4 Rows.lz4SaysRow.domain false) (Rows.lz4SaysSpec.post enc Try.prog Try.f4 false true false false) := by
  refine returnsInHanded_of_change_sized (C := Try.checked) own started (by kernel_rfl) Try.func4
    (ChangeSpec.witness6 (enc := enc) (C := Try.checked) false ⟨#[], #[.string ByteArray.empty, .slice none 0 0, .string ByteArray.empty, .int .i64 0], []⟩ 8 (by kernel_rfl) (by kernel_rfl) (by kernel_rfl) (by kernel_rfl)) ?_
  intro W base args ds gs before hval hW _ hsz _
  exact contract H enc W base args ds gs before hval hW hsz

theorem over : Rows.lz4SaysRow.holds Try.pinned (OpenSpec.ofChange Rows.lz4SaysSpec) :=
  OpenClaim.holds_of_wide 4 Try.f4 rfl rfl rfl rfl rfl rfl rfl ⟨rfl, rfl, rfl, rfl, rfl⟩ rfl rfl rfl rfl rfl (by kernel_rfl) Try.func4 (by kernel_rfl)
    (of_decide_eq_true (by kernel_rfl)) (by unfold Func.isWrapper; first | (rw [if_pos (by decide +kernel)]; kernel_rfl) | (rw [if_neg (by decide +kernel)]; exact ⟨rfl, rfl⟩))
    (fun os started H enc _ => lifted os started H enc)

theorem proved : Rows.Lz4SaysSaid :=
  over
#print axioms proved
end Go.Proofs.Ytchjmhgalbkjkaa.lz4Says
