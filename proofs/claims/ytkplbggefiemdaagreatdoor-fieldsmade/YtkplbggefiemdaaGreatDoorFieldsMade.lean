/-
  The law FieldsMade returns true for every input, and its arguments read afterwards as before. Conditions: the form's own reach; the listed tables lie as the programs' texts lay them (the card ties that).
-/
import Derived.Test.YtkplbggefiemdaaGreatDoorCards
import Derived.Test.YtkplbggefiemdaaGreatDoorTie
import Derived.WalkKit
import Derived.ProofKit
import Derived.OpenShut
import Derived.ShutString
import Derived.SizedLaws
import Derived.Deep.DeepHandedRow
import Derived.Lib.LaidTab
import Derived.Deep.Grids
import Derived.Test.YtkplbggefiemdaaGreatDoorSlp
import Derived.Test.YtkplbggefiemdaaGreatDoorFieldsMadeW
import Derived.Test.YtkplbggefiemdaaGreatDoorLt14
namespace Go.Proofs.YtkplbggefiemdaaGreatDoor.fieldsMade
open Go.ChangeShapes Go.WideShapes Go.ChangeAt Go.RowKit
open Go.ChangeMaps (open_string shut_string)
set_option linter.unusedVariables false

theorem own : ownKnob Tryz.prog.godebug = none := by kernel_rfl
theorem laidOut : laidOutB Tryz.prog = true := by kernel_rfl
theorem wf_i64 {a : Int} (h : (Lit.int .i64 a).wf = true) : -9223372036854775808 ≤ a ∧ a ≤ 9223372036854775807 := by
  simpa [Lit.wf, IntKind.min, IntKind.max, IntKind.signed, IntKind.bits] using h
theorem wf_u64 {a : Int} (h : (Lit.int .u64 a).wf = true) : 0 ≤ a ∧ a ≤ 18446744073709551615 := by
  simpa [Lit.wf, IntKind.min, IntKind.max, IntKind.signed, IntKind.bits] using h
theorem wf_u8 {a : Int} (h : (Lit.int .u8 a).wf = true) : 0 ≤ a ∧ a ≤ 255 := by
  simpa [Lit.wf, IntKind.min, IntKind.max, IntKind.signed, IntKind.bits] using h
theorem wf_u32 {a : Int} (h : (Lit.int .u32 a).wf = true) : 0 ≤ a ∧ a ≤ 4294967295 := by
  simpa [Lit.wf, IntKind.min, IntKind.max, IntKind.signed, IntKind.bits] using h
theorem tab_of {W : World} (h : laidMetH Tryz.prog Rows.fieldsMadeRow.laid W) : RwT W ∧ Pow W := by
  have h2 : laidMet Tryz.prog Rows.fieldsMadeRow.laid W := h
  exact ⟨rwt_of (Lib.laidMet.reads h2 (by simp [Rows.fieldsMadeRow])), pow_of (Lib.laidMet.reads h2 (by simp [Rows.fieldsMadeRow]))⟩

theorem walk (W : World) (p0 : Option Addr) (len0 cap0 : Nat) (K0 U0 : Nat → ByteArray) (s0 : len0 ≤ reachBytes) (z0 : ∀ i, i < len0 → (K0 i).size ≤ 140737488351232 ∧ (U0 i).size ≤ 140737488351232) (c0 : ∀ i, i < len0 → ∃ g off, p0 = some ⟨g, off, none⟩ ∧ W.cell? ⟨g, off + i * 2, none⟩ = some (.string (K0 i)) ∧ W.cell? ⟨g, off + i * 2 + 1, none⟩ = some (.string (U0 i))) (p1 : Option Addr) (cap1 : Nat) (L1 : List Int) (s1 : L1.length ≤ reachBytes) (z1 : ∀ z ∈ L1, -9223372036854775808 ≤ z ∧ z ≤ 9223372036854775807) (c1 : ∀ i, i < L1.length → ∃ g off, p1 = some ⟨g, off, none⟩ ∧ W.cell? ⟨g, off + i, none⟩ = some (.int .i64 (L1.getD i 0))) (ht : RwT W ∧ Pow W) :
    Calls Tryz.prog 4 #[.slice p0 len0 cap0, .slice p1 L1.length cap1] W fun e w' => e = .returned (.bool true) ∧ Below W.heap.size W w' := by
  have s0b : len0 ≤ 140737488351232 := by unfold reachBytes at s0; omega
  have s1b : L1.length ≤ 140737488351232 := by unfold reachBytes at s1; omega
  exact fieldsMade_any p0 len0 cap0 K0 U0 p1 cap1 L1 W s0b z0 c0 s1b z1 c1 ht.1 ht.2

set_option maxRecDepth 100000 in
theorem contract (H : Type) (enc : TypeId × Value → H) (W : World) (base : Nat) (args : Array Value) (ds gs : List (DataW H)) (before : List MemPlace)
    (hval : ∀ (j : Nat) t v, Tryz.f4.params[j]? = some t → args[j]? = some v → Value.okWide Tryz.prog W .any base t v)
    (hW : DataW.Whole enc Tryz.prog Tryz.f4.params.toList Rows.fieldsMadeSpec.vars false W args.toList ds gs before)
    (hsz : (DataW.weightsEach Tryz.prog (Tryz.f4.params.toList ++ (OpenSpec.ofChange Rows.fieldsMadeSpec).bare.plain.varTypes Tryz.prog) (ds ++ gs)).all (· ≤ reachBytes) = true) (hL : laidMetH Tryz.prog Rows.fieldsMadeRow.laid W) :
    Calls Tryz.prog 4 args W fun e W' => ∃ v, e = .returned v ∧ Rows.fieldsMadeSpec.post enc Tryz.prog Tryz.f4 false true false false W args v W' := by
  have hW' := hW
  obtain ⟨p, q, hA0, hV, rfl, hfz, hnd⟩ := hW
  have hA : DataW.TrodAll enc Tryz.prog W 0 (fun _ => true) true Tryz.f4.params.toList args.toList ds p := hA0
  rw [Tryz.params4] at hA hval hsz
  obtain ⟨v0, vs0, d0, ds0, p0, q0, hargs, rfl, rfl, h0, r0⟩ := trodAll_cons hA
  obtain ⟨v1, vs1, d1, ds1, p1, q1, rfl, rfl, rfl, h1, r1⟩ := trodAll_cons r0
  obtain ⟨rfl, rfl, rfl⟩ := trodAll_nil r1
  obtain rfl : args = #[v0, v1] := by cases args; simp_all
  obtain ⟨rfl, rfl⟩ := trodVars_none hV
  obtain ⟨pp0, len0, cap0, rfl⟩ := okWide_slice Tryz.underlying23 (hval 0 23 v0 rfl rfl)
  have k0 := h0
  have lt0 : ∀ x ∈ p0, x.block < W.heap.size := by obtain ⟨m, hm⟩ := k0; exact DataW.trod_lt m _ _ _ hm
  obtain ⟨s0, K0, U0, z0, c0⟩ : len0 ≤ reachBytes ∧ ∃ (K U : Nat → ByteArray), (∀ i, i < len0 → (K i).size ≤ 140737488351232 ∧ (U i).size ≤ 140737488351232) ∧ ∀ i, i < len0 → ∃ g off, pp0 = some ⟨g, off, none⟩ ∧ W.cell? ⟨g, off + i * 2, none⟩ = some (.string (K i)) ∧ W.cell? ⟨g, off + i * 2 + 1, none⟩ = some (.string (U i)) := by
    obtain ⟨fuel, hf⟩ := h0
    rcases open_slice_two Tryz.underlying23 Tryz.underlying29 (by kernel_rfl) rfl rfl (by kernel_rfl) (by kernel_rfl) Tryz.underlying9 Tryz.underlying9 hf with ⟨hcs, _⟩ | ⟨x, l, c, m, D, q, hcs, hlm, hlc, hx, hcell⟩
    · simp [Value.cells] at hcs
      obtain ⟨rfl, rfl, rfl⟩ := hcs
      exact ⟨by unfold reachBytes; simp, fun _ => ByteArray.empty, fun _ => ByteArray.empty, fun i hi => by omega, fun i hi => by omega⟩
    · simp [Value.cells] at hcs
      obtain ⟨rfl, rfl, rfl⟩ := hcs
      dsimp only at hx
      subst hx
      have hsl := sized_slice hsz (j := 0) (t := 23) (e := 29) rfl rfl Tryz.underlying23
      rw [show Tryz.prog.bytesOf 29 = 32 by kernel_rfl] at hsl
      simp only [List.length_map, List.length_range] at hsl
      refine ⟨by omega, fun i => (q i).1, fun i => (q i).2, fun i hi => ?_, fun i hi => ?_⟩
      · obtain ⟨_, hD⟩ := hcell i (by omega)
        have hs := sized_two hsz (j := 0) (t := 23) (e := 29) rfl rfl Tryz.underlying23 Tryz.underlying29 hi hD
        unfold reachBytes at hs
        exact ⟨by simpa using hs.1, by simpa using hs.2⟩
      · obtain ⟨⟨b0, b1⟩, _⟩ := hcell i (by omega)
        have hc0 := (hcell 0 (by omega)).1.1
        obtain ⟨g, off, spot⟩ := x
        have hspot : spot = none := by simpa [Addr.add] using World.cell?_spot hc0
        subst hspot
        have e2 : ∀ j, (⟨g, off, none⟩ : Addr).add j = ⟨g, off + j, none⟩ := by intro j; unfold Addr.add; split <;> simp_all
        rw [e2] at b0 b1
        exact ⟨g, off, rfl, b0, b1⟩
  obtain ⟨pp1, len1, cap1, rfl⟩ := okWide_slice Tryz.underlying34 (hval 1 34 v1 rfl rfl)
  have k1 := h1
  have lt1 : ∀ x ∈ p1, x.block < W.heap.size := by obtain ⟨m, hm⟩ := k1; exact DataW.trod_lt m _ _ _ hm
  obtain ⟨L1, hl1, s1, z1, c1⟩ : ∃ L : List Int, len1 = L.length ∧ L.length ≤ reachBytes ∧ (∀ z ∈ L, -9223372036854775808 ≤ z ∧ z ≤ 9223372036854775807) ∧ ∀ i, i < L.length → ∃ g off, pp1 = some ⟨g, off, none⟩ ∧ W.cell? ⟨g, off + i, none⟩ = some (.int .i64 (L.getD i 0)) := by
    obtain ⟨fuel, hf⟩ := h1
    rcases open_ints Tryz.underlying34 Tryz.underlying3 (by kernel_rfl) hf with ⟨hcs, _⟩ | ⟨x, l, c, zs, hcs, _, hl, hm, hz, hx, hcell, hwz⟩
    · simp [Value.cells] at hcs
      obtain ⟨rfl, rfl, rfl⟩ := hcs
      exact ⟨[], rfl, by unfold reachBytes; simp, fun z hz => by simp at hz, fun i hi => by simp at hi⟩
    · simp [Value.cells] at hcs
      obtain ⟨rfl, rfl, rfl⟩ := hcs
      have hd := congrArg Prod.fst hx
      dsimp only at hd
      subst hd
      have hsl := sized_slice hsz (j := 1) (t := 34) (e := 3) rfl rfl Tryz.underlying34
      rw [show Tryz.prog.bytesOf 3 = 8 by kernel_rfl] at hsl
      have hzl : zs.length = cap1 := by simpa using hz
      simp only [lits, List.length_map, List.length_take, List.length_drop] at hsl
      have hll : (zs.take len1).length = len1 := by simp; omega
      refine ⟨zs.take len1, hll.symm, by omega, fun y hy => wf_i64 (hwz y (List.mem_of_mem_take hy)), ?_⟩
      · intro i hi
        rw [hll] at hi
        have hci := hcell i (by omega)
        have hc0 := hcell 0 (by omega)
        obtain ⟨g, off, spot⟩ := x
        have hspot : spot = none := by simpa [Addr.add] using World.cell?_spot hc0
        subst hspot
        have e2 : (⟨g, off, none⟩ : Addr).add i = ⟨g, off + i, none⟩ := by unfold Addr.add; split <;> simp_all
        rw [e2] at hci
        refine ⟨g, off, rfl, ?_⟩
        have hlt : i < zs.length := by omega
        have e : (zs.take len1).getD i 0 = zs.getD i 0 := by
          rw [List.getD_eq_getElem?_getD, List.getElem?_take, if_pos hi, List.getD_eq_getElem?_getD]
        rw [e]
        exact hci
  subst hl1
  clear hA0
  refine (walk W pp0 len0 cap0 K0 U0 s0 z0 c0 pp1 cap1 L1 s1 z1 c1 (tab_of hL)).mono fun e W' ⟨he, bel⟩ => ?_
  subst he
  exact ⟨_, rfl, _, _, _, [], _, [], hW', trodAll_mk1 (shut_bool Tryz.underlying4 _), (trodAll_cons_mk (Below.trod laidOut (by kernel_rfl) (of_decide_eq_true (by kernel_rfl)) k0 bel lt0) (trodAll_cons_mk (Below.trod laidOut (by kernel_rfl) (of_decide_eq_true (by kernel_rfl)) k1 bel lt1) trodAll_mk0)), rfl, bel.frame _, fun h => by cases h⟩

theorem laid_met (os : Os) : laidMet Tryz.prog Rows.fieldsMadeRow.laid ((World.laidAll Tryz.prog os Rows.fieldsMadeRow.laid).forCall (fun _ _ => 0) ⟨#[], #[.slice none 0 0, .slice none 0 0], []⟩).memory :=
  laidMet_laidAll #[.slice none 0 0, .slice none 0 0] (by kernel_rfl) (by kernel_rfl)
theorem reads (os : Os) {H : Type} (enc : TypeId × Value → H) : ∃ places, DataW.whole enc Tryz.prog ((World.laidAll Tryz.prog os Rows.fieldsMadeRow.laid).forCall (fun _ _ => 0) ⟨#[], #[.slice none 0 0, .slice none 0 0], []⟩).memory Tryz.f4.params.toList Rows.fieldsMadeSpec.vars false (#[.slice none 0 0, .slice none 0 0] : Array Value).toList 8 = some ([.nil, .nil], [], places) :=
  ⟨[], by kernel_rfl⟩

set_option maxRecDepth 100000 in
theorem lifted (os : Os) (started : os.Started) (H : Type) (enc : TypeId × Value → H) (F : Stop.Interp) :
    ReturnsInHanded {} Tryz.checked os 4 .any ((OpenSpec.ofChange Rows.fieldsMadeSpec).preRow enc Tryz.prog Tryz.f4 Rows.fieldsMadeRow.domain false Rows.fieldsMadeRow.laid) (((OpenSpec.ofChange Rows.fieldsMadeSpec).at F).post enc Tryz.prog Tryz.f4 false true false false) := by
  obtain ⟨places, hx⟩ := reads os enc
  refine returnsInHanded_of_row (C := Tryz.checked) (s := (OpenSpec.ofChange Rows.fieldsMadeSpec)) own started (by kernel_rfl) Tryz.func4
    (witness_row_at (enc := enc) (C := Tryz.checked) false (World.laidAll Tryz.prog os Rows.fieldsMadeRow.laid) #[.slice none 0 0, .slice none 0 0] (World.laidAll_os _ _ _) (by kernel_rfl) (by kernel_rfl) (by kernel_rfl)
      (OpenSpec.preRow_of_cond 8 hx (by kernel_rfl) (fun k hk => by cases hk) (by kernel_rfl) (laid_met os))) ?_
  intro W base args ds gs before hval hW _ hcond hsz hL _ _
  exact contract H enc W base args ds gs before hval hW hsz hL

theorem said : Rows.FieldsMadeSaid :=
  OpenClaim.holds_of_cond 4 Tryz.f4 rfl rfl rfl rfl rfl rfl rfl ⟨rfl, rfl, rfl, rfl, rfl⟩ rfl rfl rfl rfl rfl (by kernel_rfl) Tryz.func4 (by kernel_rfl)
    (of_decide_eq_true (by kernel_rfl)) (by unfold Func.isWrapper; first | (rw [if_pos (by decide +kernel)]; kernel_rfl) | (rw [if_neg (by decide +kernel)]; exact ⟨rfl, rfl⟩))
    (fun os started H enc _ F => by rw [OpenClaim.pre_eq_preRow]; exact lifted os started H enc F)

theorem plain (f : FuncId) (fn : Func) (hf : Tryz.pinned.checked.prog.funcNamed "dragnet/dragnetlaw14.FieldsMade" = some f) (hfn : Tryz.pinned.checked.prog.funcs[f]? = some fn) :
    true = Tryz.pinned.checked.prog.looks [] ∧ ∀ (j : Nat) t, fn.params[j]? = some t → Tryz.pinned.checked.prog.wantsStandIn t = false := by
  obtain rfl : f = 4 := Option.some.inj ((show Tryz.prog.funcNamed "dragnet/dragnetlaw14.FieldsMade" = some 4 by kernel_rfl).symm.trans hf) |>.symm
  obtain rfl : fn = Tryz.f4 := (Option.some.inj (Tryz.func4.symm.trans hfn)).symm
  refine ⟨by kernel_rfl, fun j t ht => ?_⟩
  rw [Tryz.params4] at ht
  have hm := Array.mem_of_getElem? ht
  simp at hm
  rcases hm with rfl | rfl
  · exact (show Tryz.prog.wantsStandIn 23 = false by kernel_rfl)
  · exact (show Tryz.prog.wantsStandIn 34 = false by kernel_rfl)

/-- the card -/
theorem card : Rows.FieldsMadeCardSaid :=
  Claim7.holds_tied_plain_at .later [] _ _ _ _ said (fun _ h => by cases h) (by kernel_rfl) (fun _ h => by cases h) fieldsMade_row_tie rfl ⟨rfl, rfl⟩ (by kernel_rfl) rfl plain (by kernel_rfl)
#print axioms card
end Go.Proofs.YtkplbggefiemdaaGreatDoor.fieldsMade
