/-
  The law ManyTurned returns true for every input whose bulk is at most 1048576, and its arguments read afterwards as before. No condition but the form's own reach.
-/
import Derived.Test.YtlejfeapnnioeaaRows
import Derived.WalkKit
import Derived.ProofKit
import Derived.OpenShut
import Derived.ShutString
import Derived.SizedLaws
import Derived.JoinedCond
import Derived.Deep.DeepHandedRow
import Derived.Deep.Grids
import Derived.SliceStrings
import Derived.ChangeSlices
import Derived.Test.YtlejfeapnnioeaaManyTurnedW
namespace Go.Proofs.Ytlejfeapnnioeaa.manyTurnedUpto
open Go.ChangeShapes Go.WideShapes Go.ChangeAt Go.RowKit
open Go.ChangeMaps (open_string shut_string)
set_option linter.unusedVariables false

theorem own : ownKnob Try.prog.godebug = none := by kernel_rfl
theorem laidOut : laidOutB Try.prog = true := by kernel_rfl
theorem wf_i64 {a : Int} (h : (Lit.int .i64 a).wf = true) : -9223372036854775808 ≤ a ∧ a ≤ 9223372036854775807 := by
  simpa [Lit.wf, IntKind.min, IntKind.max, IntKind.signed, IntKind.bits] using h
theorem wf_u64 {a : Int} (h : (Lit.int .u64 a).wf = true) : 0 ≤ a ∧ a ≤ 18446744073709551615 := by
  simpa [Lit.wf, IntKind.min, IntKind.max, IntKind.signed, IntKind.bits] using h
theorem wf_u8 {a : Int} (h : (Lit.int .u8 a).wf = true) : 0 ≤ a ∧ a ≤ 255 := by
  simpa [Lit.wf, IntKind.min, IntKind.max, IntKind.signed, IntKind.bits] using h
theorem wf_u32 {a : Int} (h : (Lit.int .u32 a).wf = true) : 0 ≤ a ∧ a ≤ 4294967295 := by
  simpa [Lit.wf, IntKind.min, IntKind.max, IntKind.signed, IntKind.bits] using h
theorem bulk_mem {H : Type} : ∀ (l : List (DataW H)) (d : DataW H), d ∈ l → Rows.uptoBulk d ≤ Rows.uptoBulkAll l
  | [], _, h => by cases h
  | a :: l, d, h => by
      rw [Rows.uptoBulkAll]
      rcases List.mem_cons.1 h with rfl | h
      · omega
      · have := bulk_mem l d h
        omega
theorem bulk_string {H : Type} {l : List (DataW H)} (hk : Rows.uptoSmall H l = true) (s : List UInt8) (h : DataW.lit (.string s) ∈ l) : s.length ≤ 1048576 := by
  have h1 : Rows.uptoBulkAll l ≤ 1048576 := of_decide_eq_true hk
  have h2 := bulk_mem l _ h
  rw [Rows.uptoBulk] at h2
  omega
theorem bulk_pos {H : Type} (d : DataW H) : 1 ≤ Rows.uptoBulk d := by
  cases d with
  | lit l => cases l <;> simp [Rows.uptoBulk]
  | _ => simp [Rows.uptoBulk]
theorem bulk_len {H : Type} : ∀ l : List (DataW H), l.length ≤ Rows.uptoBulkAll l
  | [] => by simp [Rows.uptoBulkAll]
  | a :: l => by
      rw [Rows.uptoBulkAll, List.length_cons]
      have := bulk_len l
      have := bulk_pos a
      omega
theorem bulk_row {H : Type} {l : List (DataW H)} (hk : Rows.uptoSmall H l = true) {j : Nat} {e s : List (DataW H)} (hd : l[j]? = some (.slice e s)) : Rows.uptoBulkAll e + Rows.uptoBulkAll s + 1 ≤ 1048576 := by
  have h1 : Rows.uptoBulkAll l ≤ 1048576 := of_decide_eq_true hk
  have h2 := bulk_mem l _ (List.mem_of_getElem? hd)
  rw [Rows.uptoBulk] at h2
  omega
theorem bulk_text {H : Type} {l : List (DataW H)} (hk : Rows.uptoSmall H l = true) {j : Nat} {ss sp : List ByteArray} (hd : l[j]? = some (.slice (Go.ChangeShapes.strs ss) (Go.ChangeShapes.strs sp))) : ∀ s ∈ ss, s.size ≤ reachBytes := by
  intro s hs
  have h1 := bulk_row hk hd
  have h2 := bulk_mem (Go.ChangeShapes.strs (H := H) ss) (.lit (.string s.data.toList)) (List.mem_map.2 ⟨s, hs, rfl⟩)
  rw [Rows.uptoBulk] at h2
  have h3 : s.size = s.data.toList.length := by simp
  unfold reachBytes
  omega
theorem walk (W : World) (p0 : Option Addr) (cap0 : Nat) (L0 : List ByteArray) (s0 : L0.length ≤ reachBytes) (z0 : ∀ x ∈ L0, x.size ≤ reachBytes) (c0 : StrAt W p0 L0) (a1 : ByteArray) (u1 : a1.size ≤ 1048576) (p2 : Option Addr) (cap2 : Nat) (L2 : List Int) (s2 : L2.length ≤ reachBytes) (z2 : ∀ z ∈ L2, -9223372036854775808 ≤ z ∧ z ≤ 9223372036854775807) (c2 : ∀ i, i < L2.length → ∃ g off, p2 = some ⟨g, off, none⟩ ∧ W.cell? ⟨g, off + i, none⟩ = some (.int .i64 (L2.getD i 0))) (a3 : Int) (w3 : (Lit.int .i64 a3).wf = true) :
    Calls Try.prog 6 #[.slice p0 L0.length cap0, .string a1, .slice p2 L2.length cap2, .int .i64 a3] W fun e w' => e = .returned (.bool true) ∧ Below W.heap.size W w' := by
  have s0b : L0.length ≤ 140737488351232 := by unfold reachBytes at s0; omega
  have z0b : ∀ x ∈ L0, x.size ≤ 140737488351232 := fun x hx => by have := z0 x hx; unfold reachBytes at this; omega
  have s2b : L2.length ≤ 140737488351232 := by unfold reachBytes at s2; omega
  have w3b := wf_i64 w3
  exact manyTurned_any p0 cap0 L0 a1 p2 cap2 L2 a3 W c0 s0b z0b u1 z2 c2 s2b w3b.1 w3b.2

set_option maxRecDepth 100000 in
theorem contract (H : Type) (enc : TypeId × Value → H) (W : World) (base : Nat) (args : Array Value) (ds gs : List (DataW H)) (before : List MemPlace)
    (hval : ∀ (j : Nat) t v, Try.f6.params[j]? = some t → args[j]? = some v → Value.okWide Try.prog W .any base t v)
    (hW : DataW.Whole enc Try.prog Try.f6.params.toList Rows.manyTurnedSpec.vars false W args.toList ds gs before) (hk : Rows.uptoSmall H (ds ++ gs) = true) :
    Calls Try.prog 6 args W fun e W' => ∃ v, e = .returned v ∧ Rows.manyTurnedSpec.post enc Try.prog Try.f6 false true false false W args v W' := by
  have hW' := hW
  obtain ⟨p, q, hA0, hV, rfl, hfz, hnd⟩ := hW
  have hA : DataW.TrodAll enc Try.prog W 0 (fun _ => true) true Try.f6.params.toList args.toList ds p := hA0
  rw [Try.params6] at hA hval
  obtain ⟨v0, vs0, d0, ds0, p0, q0, hargs, rfl, rfl, h0, r0⟩ := trodAll_cons hA
  obtain ⟨v1, vs1, d1, ds1, p1, q1, rfl, rfl, rfl, h1, r1⟩ := trodAll_cons r0
  obtain ⟨v2, vs2, d2, ds2, p2, q2, rfl, rfl, rfl, h2, r2⟩ := trodAll_cons r1
  obtain ⟨v3, vs3, d3, ds3, p3, q3, rfl, rfl, rfl, h3, r3⟩ := trodAll_cons r2
  obtain ⟨rfl, rfl, rfl⟩ := trodAll_nil r3
  obtain rfl : args = #[v0, v1, v2, v3] := by cases args; simp_all
  obtain ⟨rfl, rfl⟩ := trodVars_none hV
  obtain ⟨pp0, len0, cap0, rfl⟩ := okWide_slice Try.underlying22 (hval 0 22 v0 rfl rfl)
  have k0 := h0
  have lt0 : ∀ x ∈ p0, x.block < W.heap.size := by obtain ⟨m, hm⟩ := k0; exact DataW.trod_lt m _ _ _ hm
  obtain ⟨L0, hl0, s0, z0, c0⟩ : ∃ L : List ByteArray, len0 = L.length ∧ L.length ≤ reachBytes ∧ (∀ x ∈ L, x.size ≤ reachBytes) ∧ StrAt W pp0 L := by
    obtain ⟨fuel, hf⟩ := h0
    rcases open_strings Try.underlying22 Try.underlying9 (by kernel_rfl) hf with ⟨hcs, _⟩ | ⟨x, l, c, ss, hcs, _, hl, hm, hz, hx, hcell, _⟩
    · simp [Value.cells] at hcs
      obtain ⟨rfl, rfl, rfl⟩ := hcs
      exact ⟨[], rfl, by unfold reachBytes; simp, fun z hz => by simp at hz, fun i hi => by simp at hi⟩
    · simp [Value.cells] at hcs
      obtain ⟨rfl, rfl, rfl⟩ := hcs
      have hd := congrArg Prod.fst hx
      dsimp only at hd
      subst hd
      have hsl := bulk_row hk (j := 0) rfl
      have hst := bulk_text hk (j := 0) rfl
      have hs1 := bulk_len (Go.ChangeShapes.strs (H := H) (ss.take len0))
      have hle : len0 ≤ ss.length := by rw [hz]; split <;> omega
      have htl : (ss.take len0).length = len0 := by rw [List.length_take]; omega
      have hs2 : (Go.ChangeShapes.strs (H := H) (ss.take len0)).length = len0 := by simp only [strs, List.length_map]; exact htl
      refine ⟨ss.take len0, htl.symm, by unfold reachBytes; omega, hst, ?_⟩
      intro i hi
      rw [htl] at hi
      have hci := hcell i (by omega)
      have hc0 := hcell 0 (by omega)
      obtain ⟨g, off, spot⟩ := x
      have hspot : spot = none := by simpa [Addr.add] using World.cell?_spot hc0
      subst hspot
      have e2 : (⟨g, off, none⟩ : Addr).add i = ⟨g, off + i, none⟩ := by unfold Addr.add; split <;> simp_all
      rw [e2] at hci
      refine ⟨g, off, rfl, ?_⟩
      rw [hci, List.getD_eq_getElem?_getD, List.getD_eq_getElem?_getD, List.getElem?_take, if_pos hi]
  subst hl0
  obtain ⟨a1, rfl, rfl, rfl, w1⟩ := open_string Try.underlying9 (hval 1 9 v1 rfl rfl) h1
  obtain ⟨pp2, len2, cap2, rfl⟩ := okWide_slice Try.underlying53 (hval 2 53 v2 rfl rfl)
  have k2 := h2
  have lt2 : ∀ x ∈ p2, x.block < W.heap.size := by obtain ⟨m, hm⟩ := k2; exact DataW.trod_lt m _ _ _ hm
  obtain ⟨L2, hl2, s2, z2, c2⟩ : ∃ L : List Int, len2 = L.length ∧ L.length ≤ reachBytes ∧ (∀ z ∈ L, -9223372036854775808 ≤ z ∧ z ≤ 9223372036854775807) ∧ ∀ i, i < L.length → ∃ g off, pp2 = some ⟨g, off, none⟩ ∧ W.cell? ⟨g, off + i, none⟩ = some (.int .i64 (L.getD i 0)) := by
    obtain ⟨fuel, hf⟩ := h2
    rcases open_ints Try.underlying53 Try.underlying3 (by kernel_rfl) hf with ⟨hcs, _⟩ | ⟨x, l, c, zs, hcs, _, hl, hm, hz, hx, hcell, hwz⟩
    · simp [Value.cells] at hcs
      obtain ⟨rfl, rfl, rfl⟩ := hcs
      exact ⟨[], rfl, by unfold reachBytes; simp, fun z hz => by simp at hz, fun i hi => by simp at hi⟩
    · simp [Value.cells] at hcs
      obtain ⟨rfl, rfl, rfl⟩ := hcs
      have hd := congrArg Prod.fst hx
      dsimp only at hd
      subst hd
      have hsl := bulk_row hk (j := 2) rfl
      have hzl : zs.length = cap2 := by simpa using hz
      have hll : (zs.take len2).length = len2 := by simp; omega
      have hs1 := bulk_len (lits (H := H) .i64 (zs.take len2))
      have hs2 : (lits (H := H) .i64 (zs.take len2)).length = len2 := by simp only [lits, List.length_map]; exact hll
      refine ⟨zs.take len2, hll.symm, by unfold reachBytes; omega, fun y hy => wf_i64 (hwz y (List.mem_of_mem_take hy)), ?_⟩
      · intro i hi
        rw [hll] at hi
        have hci := hcell i (by omega)
        have hc0 := hcell 0 (by omega)
        obtain ⟨g, off, spot⟩ := x
        have hspot : spot = none := by simpa [Addr.add] using World.cell?_spot hc0
        subst hspot
        have e2 : (⟨g, off, none⟩ : Addr).add i = ⟨g, off + i, none⟩ := by unfold Addr.add; split <;> simp_all
        rw [e2] at hci
        refine ⟨g, off, rfl, ?_⟩
        have hlt : i < zs.length := by omega
        have e : (zs.take len2).getD i 0 = zs.getD i 0 := by
          rw [List.getD_eq_getElem?_getD, List.getElem?_take, if_pos hi, List.getD_eq_getElem?_getD]
        rw [e]
        exact hci
  subst hl2
  obtain ⟨a3, rfl, rfl, rfl, w3⟩ := open_int Try.underlying3 (hval 3 3 v3 rfl rfl) h3
  clear hA0
  refine (walk W pp0 cap0 L0 s0 z0 c0 a1 (by have := bulk_string hk a1.data.toList (by simp); simpa using this) pp2 cap2 L2 s2 z2 c2 a3 w3).mono fun e W' ⟨he, bel⟩ => ?_
  subst he
  exact ⟨_, rfl, _, _, _, [], _, [], hW', trodAll_mk1 (shut_bool Try.underlying4 _), (trodAll_cons_mk (Below.trod laidOut (by kernel_rfl) (of_decide_eq_true (by kernel_rfl)) k0 bel lt0) (trodAll_cons_mk (shut_string Try.underlying9 w1) (trodAll_cons_mk (Below.trod laidOut (by kernel_rfl) (of_decide_eq_true (by kernel_rfl)) k2 bel lt2) (trodAll_cons_mk (shut_int Try.underlying3 w3) trodAll_mk0)))), rfl, bel.frame _, fun h => by cases h⟩

set_option maxRecDepth 100000 in
theorem lifted (os : Os) (started : os.Started) (H : Type) (enc : TypeId × Value → H) (F : Stop.Interp) :
    ReturnsInHanded {} Try.checked os 6 .any ((Rows.OpenSpec.upto Rows.manyTurnedSpec).pre6 enc Try.prog Try.f6 Rows.manyTurnedUptoRow.domain false) (((Rows.OpenSpec.upto Rows.manyTurnedSpec).at F).post enc Try.prog Try.f6 false true false false) := by
  refine returnsInHanded_of_cond (C := Try.checked) (s := (Rows.OpenSpec.upto Rows.manyTurnedSpec)) (k := Rows.uptoSmall) rfl own started (by kernel_rfl) Try.func6
    (OpenSpec.witness (enc := enc) (C := Try.checked) (s := (Rows.OpenSpec.upto Rows.manyTurnedSpec)) (k := Rows.uptoSmall) rfl false ⟨#[], #[.slice none 0 0, .string ByteArray.empty, .slice none 0 0, .int .i64 0], []⟩ 8 (by kernel_rfl) (by kernel_rfl) (by kernel_rfl)
      (x := ([.nil, .lit (.string []), .nil, .lit (.int .i64 0)], [], [])) (by kernel_rfl) rfl (by kernel_rfl)) ?_
  intro W base args ds gs before hval hW _ hk _
  exact contract H enc W base args ds gs before hval hW hk

theorem over : Rows.manyTurnedUptoRow.holds Try.pinned (Rows.OpenSpec.upto Rows.manyTurnedSpec) :=
  OpenClaim.holds_of_cond 6 Try.f6 rfl rfl rfl rfl rfl rfl rfl ⟨rfl, rfl, rfl, rfl, rfl⟩ rfl rfl rfl rfl rfl (by kernel_rfl) Try.func6 (by kernel_rfl)
    (of_decide_eq_true (by kernel_rfl)) (by unfold Func.isWrapper; first | (rw [if_pos (by decide +kernel)]; kernel_rfl) | (rw [if_neg (by decide +kernel)]; exact ⟨rfl, rfl⟩))
    (fun os started H enc _ F => lifted os started H enc F)

theorem proved : Rows.ManyTurnedUptoSaid :=
  over
#print axioms proved
end Go.Proofs.Ytlejfeapnnioeaa.manyTurnedUpto
