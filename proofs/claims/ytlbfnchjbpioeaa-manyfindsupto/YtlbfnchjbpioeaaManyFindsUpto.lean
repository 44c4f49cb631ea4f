/-
  The law ManyFinds returns true for every input whose bulk is at most 1048576, and its arguments read afterwards as before. No condition but the form's own reach.
-/
import Derived.Test.YtlbfnchjbpioeaaRows
import Derived.WalkKit
import Derived.ProofKit
import Derived.OpenShut
import Derived.ShutString
import Derived.SizedLaws
import Derived.JoinedCond
import Derived.Deep.DeepHandedRow
import Derived.Deep.Grids
import Derived.SliceStrings
import Derived.ChangeSlices
import Derived.Test.YtlbfnchjbpioeaaSls
import Derived.Test.YtlbfnchjbpioeaaManyFindsW
namespace Go.Proofs.Ytlbfnchjbpioeaa.manyFindsUpto
open Go.ChangeShapes Go.WideShapes Go.ChangeAt Go.RowKit
open Go.ChangeMaps (open_string shut_string)
set_option linter.unusedVariables false

theorem own : ownKnob Try.prog.godebug = none := by kernel_rfl
theorem laidOut : laidOutB Try.prog = true := by kernel_rfl
theorem wf_i64 {a : Int} (h : (Lit.int .i64 a).wf = true) : -9223372036854775808 ≤ a ∧ a ≤ 9223372036854775807 := by
  simpa [Lit.wf, IntKind.min, IntKind.max, IntKind.signed, IntKind.bits] using h
theorem wf_u64 {a : Int} (h : (Lit.int .u64 a).wf = true) : 0 ≤ a ∧ a ≤ 18446744073709551615 := by
  simpa [Lit.wf, IntKind.min, IntKind.max, IntKind.signed, IntKind.bits] using h
theorem wf_u8 {a : Int} (h : (Lit.int .u8 a).wf = true) : 0 ≤ a ∧ a ≤ 255 := by
  simpa [Lit.wf, IntKind.min, IntKind.max, IntKind.signed, IntKind.bits] using h
theorem wf_u32 {a : Int} (h : (Lit.int .u32 a).wf = true) : 0 ≤ a ∧ a ≤ 4294967295 := by
  simpa [Lit.wf, IntKind.min, IntKind.max, IntKind.signed, IntKind.bits] using h
theorem bulk_mem {H : Type} : ∀ (l : List (DataW H)) (d : DataW H), d ∈ l → Rows.uptoBulk d ≤ Rows.uptoBulkAll l
  | [], _, h => by cases h
  | a :: l, d, h => by
      rw [Rows.uptoBulkAll]
      rcases List.mem_cons.1 h with rfl | h
      · omega
      · have := bulk_mem l d h
        omega
theorem bulk_string {H : Type} {l : List (DataW H)} (hk : Rows.uptoSmall H l = true) (s : List UInt8) (h : DataW.lit (.string s) ∈ l) : s.length ≤ 1048576 := by
  have h1 : Rows.uptoBulkAll l ≤ 1048576 := of_decide_eq_true hk
  have h2 := bulk_mem l _ h
  rw [Rows.uptoBulk] at h2
  omega
theorem bulk_pos {H : Type} (d : DataW H) : 1 ≤ Rows.uptoBulk d := by
  cases d with
  | lit l => cases l <;> simp [Rows.uptoBulk]
  | _ => simp [Rows.uptoBulk]
theorem bulk_len {H : Type} : ∀ l : List (DataW H), l.length ≤ Rows.uptoBulkAll l
  | [] => by simp [Rows.uptoBulkAll]
  | a :: l => by
      rw [Rows.uptoBulkAll, List.length_cons]
      have := bulk_len l
      have := bulk_pos a
      omega
theorem bulk_row {H : Type} {l : List (DataW H)} (hk : Rows.uptoSmall H l = true) {j : Nat} {e s : List (DataW H)} (hd : l[j]? = some (.slice e s)) : Rows.uptoBulkAll e + Rows.uptoBulkAll s + 1 ≤ 1048576 := by
  have h1 : Rows.uptoBulkAll l ≤ 1048576 := of_decide_eq_true hk
  have h2 := bulk_mem l _ (List.mem_of_getElem? hd)
  rw [Rows.uptoBulk] at h2
  omega
theorem bulk_text {H : Type} {l : List (DataW H)} (hk : Rows.uptoSmall H l = true) {j : Nat} {ss sp : List ByteArray} (hd : l[j]? = some (.slice (Go.ChangeShapes.strs ss) (Go.ChangeShapes.strs sp))) : ∀ s ∈ ss, s.size ≤ reachBytes := by
  intro s hs
  have h1 := bulk_row hk hd
  have h2 := bulk_mem (Go.ChangeShapes.strs (H := H) ss) (.lit (.string s.data.toList)) (List.mem_map.2 ⟨s, hs, rfl⟩)
  rw [Rows.uptoBulk] at h2
  have h3 : s.size = s.data.toList.length := by simp
  unfold reachBytes
  omega
theorem bulk_step {H : Type} {l : List (DataW H)} (hk : Rows.uptoSmall H l = true) {j len i : Nat} {D : Nat → DataW H} {sp : List (DataW H)} (hd : l[j]? = some (.slice ((List.range len).map D) sp)) (hi : i < len) {y1 y2 : DataW H} {b : List UInt8} (hD : D i = .agg [.lit (.string b), y1, y2]) : b.length ≤ 1048576 := by
  have h1 := bulk_row hk hd
  have h2 := bulk_mem ((List.range len).map D) (D i) (List.mem_map.2 ⟨i, List.mem_range.2 hi, rfl⟩)
  rw [hD, Rows.uptoBulk, Rows.uptoBulkAll, Rows.uptoBulk] at h2
  omega
theorem walk (W : World) (p0 : Option Addr) (cap0 : Nat) (L0 : List ByteArray) (s0 : L0.length ≤ 1048576) (z0 : ∀ x ∈ L0, x.size ≤ reachBytes) (c0 : StrAt W p0 L0) (p1 : Option Addr) (cap1 : Nat) (L1 : List ByteArray) (s1 : L1.length ≤ 1048576) (z1 : ∀ x ∈ L1, x.size ≤ reachBytes) (c1 : StrAt W p1 L1) (a2 : Bool) (p3 : Option Addr) (len3 cap3 : Nat) (K3 : Nat → ByteArray) (B3 M3 : Nat → Int) (s3 : len3 ≤ reachBytes) (z3 : ∀ i, i < len3 → (K3 i).size ≤ 16777216 ∧ (-9223372036854775808 ≤ B3 i ∧ B3 i ≤ 9223372036854775807) ∧ (-9223372036854775808 ≤ M3 i ∧ M3 i ≤ 9223372036854775807)) (c3 : ∀ i, i < len3 → ∃ g off, p3 = some ⟨g, off, none⟩ ∧ W.cell? ⟨g, off + i * 3, none⟩ = some (.string (K3 i)) ∧ W.cell? ⟨g, off + i * 3 + 1, none⟩ = some (.int .i64 (B3 i)) ∧ W.cell? ⟨g, off + i * 3 + 2, none⟩ = some (.int .i64 (M3 i))) (a4 : Int) (w4 : (Lit.int .i64 a4).wf = true) :
    Calls Try.prog 4 #[.slice p0 L0.length cap0, .slice p1 L1.length cap1, .bool a2, .slice p3 len3 cap3, .int .i64 a4] W fun e w' => e = .returned (.bool true) ∧ Below W.heap.size W w' := by
  have s0b : L0.length ≤ 8796093022208 := by omega
  have z0b : ∀ x ∈ L0, x.size ≤ 140737488351232 := fun x hx => by have := z0 x hx; unfold reachBytes at this; omega
  have s1b : L1.length ≤ 8796093022208 := by omega
  have z1b : ∀ x ∈ L1, x.size ≤ 140737488351232 := fun x hx => by have := z1 x hx; unfold reachBytes at this; omega
  have s3b : len3 ≤ 140737488351232 := by unfold reachBytes at s3; omega
  have w4b := wf_i64 w4
  exact manyFinds_any p0 cap0 L0 p1 cap1 L1 a2 p3 len3 cap3 K3 B3 M3 a4 W c0 s0b z0b c1 s1b z1b s3b z3 c3 w4b.1 w4b.2

set_option maxRecDepth 100000 in
theorem contract (H : Type) (enc : TypeId × Value → H) (W : World) (base : Nat) (args : Array Value) (ds gs : List (DataW H)) (before : List MemPlace)
    (hval : ∀ (j : Nat) t v, Try.f4.params[j]? = some t → args[j]? = some v → Value.okWide Try.prog W .any base t v)
    (hW : DataW.Whole enc Try.prog Try.f4.params.toList Rows.manyFindsSpec.vars false W args.toList ds gs before) (hk : Rows.uptoSmall H (ds ++ gs) = true) :
    Calls Try.prog 4 args W fun e W' => ∃ v, e = .returned v ∧ Rows.manyFindsSpec.post enc Try.prog Try.f4 false true false false W args v W' := by
  have hW' := hW
  obtain ⟨p, q, hA0, hV, rfl, hfz, hnd⟩ := hW
  have hA : DataW.TrodAll enc Try.prog W 0 (fun _ => true) true Try.f4.params.toList args.toList ds p := hA0
  rw [Try.params4] at hA hval
  obtain ⟨v0, vs0, d0, ds0, p0, q0, hargs, rfl, rfl, h0, r0⟩ := trodAll_cons hA
  obtain ⟨v1, vs1, d1, ds1, p1, q1, rfl, rfl, rfl, h1, r1⟩ := trodAll_cons r0
  obtain ⟨v2, vs2, d2, ds2, p2, q2, rfl, rfl, rfl, h2, r2⟩ := trodAll_cons r1
  obtain ⟨v3, vs3, d3, ds3, p3, q3, rfl, rfl, rfl, h3, r3⟩ := trodAll_cons r2
  obtain ⟨v4, vs4, d4, ds4, p4, q4, rfl, rfl, rfl, h4, r4⟩ := trodAll_cons r3
  obtain ⟨rfl, rfl, rfl⟩ := trodAll_nil r4
  obtain rfl : args = #[v0, v1, v2, v3, v4] := by cases args; simp_all
  obtain ⟨rfl, rfl⟩ := trodVars_none hV
  obtain ⟨pp0, len0, cap0, rfl⟩ := okWide_slice Try.underlying22 (hval 0 22 v0 rfl rfl)
  have k0 := h0
  have lt0 : ∀ x ∈ p0, x.block < W.heap.size := by obtain ⟨m, hm⟩ := k0; exact DataW.trod_lt m _ _ _ hm
  obtain ⟨L0, hl0, s0, z0, c0⟩ : ∃ L : List ByteArray, len0 = L.length ∧ L.length ≤ 1048576 ∧ (∀ x ∈ L, x.size ≤ reachBytes) ∧ StrAt W pp0 L := by
    obtain ⟨fuel, hf⟩ := h0
    rcases open_strings Try.underlying22 Try.underlying9 (by kernel_rfl) hf with ⟨hcs, _⟩ | ⟨x, l, c, ss, hcs, _, hl, hm, hz, hx, hcell, _⟩
    · simp [Value.cells] at hcs
      obtain ⟨rfl, rfl, rfl⟩ := hcs
      exact ⟨[], rfl, by simp, fun z hz => by simp at hz, fun i hi => by simp at hi⟩
    · simp [Value.cells] at hcs
      obtain ⟨rfl, rfl, rfl⟩ := hcs
      have hd := congrArg Prod.fst hx
      dsimp only at hd
      subst hd
      have hsl := bulk_row hk (j := 0) rfl
      have hst := bulk_text hk (j := 0) rfl
      have hs1 := bulk_len (Go.ChangeShapes.strs (H := H) (ss.take len0))
      have hle : len0 ≤ ss.length := by rw [hz]; split <;> omega
      have htl : (ss.take len0).length = len0 := by rw [List.length_take]; omega
      have hs2 : (Go.ChangeShapes.strs (H := H) (ss.take len0)).length = len0 := by simp only [strs, List.length_map]; exact htl
      refine ⟨ss.take len0, htl.symm, by omega, hst, ?_⟩
      intro i hi
      rw [htl] at hi
      have hci := hcell i (by omega)
      have hc0 := hcell 0 (by omega)
      obtain ⟨g, off, spot⟩ := x
      have hspot : spot = none := by simpa [Addr.add] using World.cell?_spot hc0
      subst hspot
      have e2 : (⟨g, off, none⟩ : Addr).add i = ⟨g, off + i, none⟩ := by unfold Addr.add; split <;> simp_all
      rw [e2] at hci
      refine ⟨g, off, rfl, ?_⟩
      rw [hci, List.getD_eq_getElem?_getD, List.getD_eq_getElem?_getD, List.getElem?_take, if_pos hi]
  subst hl0
  obtain ⟨pp1, len1, cap1, rfl⟩ := okWide_slice Try.underlying22 (hval 1 22 v1 rfl rfl)
  have k1 := h1
  have lt1 : ∀ x ∈ p1, x.block < W.heap.size := by obtain ⟨m, hm⟩ := k1; exact DataW.trod_lt m _ _ _ hm
  obtain ⟨L1, hl1, s1, z1, c1⟩ : ∃ L : List ByteArray, len1 = L.length ∧ L.length ≤ 1048576 ∧ (∀ x ∈ L, x.size ≤ reachBytes) ∧ StrAt W pp1 L := by
    obtain ⟨fuel, hf⟩ := h1
    rcases open_strings Try.underlying22 Try.underlying9 (by kernel_rfl) hf with ⟨hcs, _⟩ | ⟨x, l, c, ss, hcs, _, hl, hm, hz, hx, hcell, _⟩
    · simp [Value.cells] at hcs
      obtain ⟨rfl, rfl, rfl⟩ := hcs
      exact ⟨[], rfl, by simp, fun z hz => by simp at hz, fun i hi => by simp at hi⟩
    · simp [Value.cells] at hcs
      obtain ⟨rfl, rfl, rfl⟩ := hcs
      have hd := congrArg Prod.fst hx
      dsimp only at hd
      subst hd
      have hsl := bulk_row hk (j := 1) rfl
      have hst := bulk_text hk (j := 1) rfl
      have hs1 := bulk_len (Go.ChangeShapes.strs (H := H) (ss.take len1))
      have hle : len1 ≤ ss.length := by rw [hz]; split <;> omega
      have htl : (ss.take len1).length = len1 := by rw [List.length_take]; omega
      have hs2 : (Go.ChangeShapes.strs (H := H) (ss.take len1)).length = len1 := by simp only [strs, List.length_map]; exact htl
      refine ⟨ss.take len1, htl.symm, by omega, hst, ?_⟩
      intro i hi
      rw [htl] at hi
      have hci := hcell i (by omega)
      have hc0 := hcell 0 (by omega)
      obtain ⟨g, off, spot⟩ := x
      have hspot : spot = none := by simpa [Addr.add] using World.cell?_spot hc0
      subst hspot
      have e2 : (⟨g, off, none⟩ : Addr).add i = ⟨g, off + i, none⟩ := by unfold Addr.add; split <;> simp_all
      rw [e2] at hci
      refine ⟨g, off, rfl, ?_⟩
      rw [hci, List.getD_eq_getElem?_getD, List.getD_eq_getElem?_getD, List.getElem?_take, if_pos hi]
  subst hl1
  obtain ⟨a2, rfl, rfl, rfl⟩ := open_bool Try.underlying4 (hval 2 4 v2 rfl rfl) h2
  obtain ⟨pp3, len3, cap3, rfl⟩ := okWide_slice Try.underlying36 (hval 3 36 v3 rfl rfl)
  have k3 := h3
  have lt3 : ∀ x ∈ p3, x.block < W.heap.size := by obtain ⟨m, hm⟩ := k3; exact DataW.trod_lt m _ _ _ hm
  obtain ⟨s3, K3, B3, M3, z3, c3⟩ : len3 ≤ reachBytes ∧ ∃ (K : Nat → ByteArray) (B M : Nat → Int), (∀ i, i < len3 → (K i).size ≤ 16777216 ∧ (-9223372036854775808 ≤ B i ∧ B i ≤ 9223372036854775807) ∧ (-9223372036854775808 ≤ M i ∧ M i ≤ 9223372036854775807)) ∧ ∀ i, i < len3 → ∃ g off, pp3 = some ⟨g, off, none⟩ ∧ W.cell? ⟨g, off + i * 3, none⟩ = some (.string (K i)) ∧ W.cell? ⟨g, off + i * 3 + 1, none⟩ = some (.int .i64 (B i)) ∧ W.cell? ⟨g, off + i * 3 + 2, none⟩ = some (.int .i64 (M i)) := by
    obtain ⟨fuel, hf⟩ := h3
    rcases open_slice_steps Try.underlying36 Try.underlying43 (by kernel_rfl) rfl rfl rfl (by kernel_rfl) (by kernel_rfl) (by kernel_rfl) Try.underlying9 Try.underlying3 Try.underlying3 hf with ⟨hcs, _⟩ | ⟨x, l, c, m, D, q, hcs, hlm, hlc, hx, hcell⟩
    · simp [Value.cells] at hcs
      obtain ⟨rfl, rfl, rfl⟩ := hcs
      exact ⟨by unfold reachBytes; simp, fun _ => ByteArray.empty, fun _ => 0, fun _ => 0, fun i hi => by omega, fun i hi => by omega⟩
    · simp [Value.cells] at hcs
      obtain ⟨rfl, rfl, rfl⟩ := hcs
      dsimp only at hx
      subst hx
      have hsl := bulk_row hk (j := 3) rfl
      have hs1 := bulk_len ((List.range len3).map D)
      simp only [List.length_map, List.length_range] at hs1
      refine ⟨by unfold reachBytes; omega, fun i => (q i).1, fun i => (q i).2.1, fun i => (q i).2.2, fun i hi => ?_, fun i hi => ?_⟩
      · obtain ⟨_, ⟨a1, a2⟩, y1, y2, hD⟩ := hcell i (by omega)
        have hs := bulk_step hk (j := 3) rfl hi hD
        exact ⟨by show (q i).1.size ≤ 16777216; have h9 : (q i).1.size = (q i).1.data.toList.length := (by simp); omega, wf_i64 a1, wf_i64 a2⟩
      · obtain ⟨⟨b0, b1, b2⟩, _⟩ := hcell i (by omega)
        have hc0 := (hcell 0 (by omega)).1.1
        obtain ⟨g, off, spot⟩ := x
        have hspot : spot = none := by simpa [Addr.add] using World.cell?_spot hc0
        subst hspot
        have e2 : ∀ j, (⟨g, off, none⟩ : Addr).add j = ⟨g, off + j, none⟩ := by intro j; unfold Addr.add; split <;> simp_all
        rw [e2] at b0 b1 b2
        exact ⟨g, off, rfl, b0, b1, b2⟩
  obtain ⟨a4, rfl, rfl, rfl, w4⟩ := open_int Try.underlying3 (hval 4 3 v4 rfl rfl) h4
  clear hA0
  refine (walk W pp0 cap0 L0 s0 z0 c0 pp1 cap1 L1 s1 z1 c1 a2 pp3 len3 cap3 K3 B3 M3 s3 z3 c3 a4 w4).mono fun e W' ⟨he, bel⟩ => ?_
  subst he
  exact ⟨_, rfl, _, _, _, [], _, [], hW', trodAll_mk1 (shut_bool Try.underlying4 _), (trodAll_cons_mk (Below.trod laidOut (by kernel_rfl) (of_decide_eq_true (by kernel_rfl)) k0 bel lt0) (trodAll_cons_mk (Below.trod laidOut (by kernel_rfl) (of_decide_eq_true (by kernel_rfl)) k1 bel lt1) (trodAll_cons_mk (shut_bool Try.underlying4 _) (trodAll_cons_mk (Below.trod laidOut (by kernel_rfl) (of_decide_eq_true (by kernel_rfl)) k3 bel lt3) (trodAll_cons_mk (shut_int Try.underlying3 w4) trodAll_mk0))))), rfl, bel.frame _, fun h => by cases h⟩

set_option maxRecDepth 100000 in
theorem lifted (os : Os) (started : os.Started) (H : Type) (enc : TypeId × Value → H) (F : Stop.Interp) :
    ReturnsInHanded {} Try.checked os 4 .any ((Rows.OpenSpec.upto Rows.manyFindsSpec).pre6 enc Try.prog Try.f4 Rows.manyFindsUptoRow.domain false) (((Rows.OpenSpec.upto Rows.manyFindsSpec).at F).post enc Try.prog Try.f4 false true false false) := by
  refine returnsInHanded_of_cond (C := Try.checked) (s := (Rows.OpenSpec.upto Rows.manyFindsSpec)) (k := Rows.uptoSmall) rfl own started (by kernel_rfl) Try.func4
    (OpenSpec.witness (enc := enc) (C := Try.checked) (s := (Rows.OpenSpec.upto Rows.manyFindsSpec)) (k := Rows.uptoSmall) rfl false ⟨#[], #[.slice none 0 0, .slice none 0 0, .bool false, .slice none 0 0, .int .i64 0], []⟩ 8 (by kernel_rfl) (by kernel_rfl) (by kernel_rfl)
      (x := ([.nil, .nil, .lit (.bool false), .nil, .lit (.int .i64 0)], [], [])) (by kernel_rfl) rfl (by kernel_rfl)) ?_
  intro W base args ds gs before hval hW _ hk _
  exact contract H enc W base args ds gs before hval hW hk

theorem over : Rows.manyFindsUptoRow.holds Try.pinned (Rows.OpenSpec.upto Rows.manyFindsSpec) :=
  OpenClaim.holds_of_cond 4 Try.f4 rfl rfl rfl rfl rfl rfl rfl ⟨rfl, rfl, rfl, rfl, rfl⟩ rfl rfl rfl rfl rfl (by kernel_rfl) Try.func4 (by kernel_rfl)
    (of_decide_eq_true (by kernel_rfl)) (by unfold Func.isWrapper; first | (rw [if_pos (by decide +kernel)]; kernel_rfl) | (rw [if_neg (by decide +kernel)]; exact ⟨rfl, rfl⟩))
    (fun os started H enc _ F => lifted os started H enc F)

theorem proved : Rows.ManyFindsUptoSaid :=
  over
#print axioms proved
end Go.Proofs.Ytlbfnchjbpioeaa.manyFindsUpto
