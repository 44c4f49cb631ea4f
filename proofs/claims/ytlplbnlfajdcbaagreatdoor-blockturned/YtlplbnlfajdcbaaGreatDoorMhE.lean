/-
  errors.As at a *block.Fault; block.Open where it refuses. Conditions: as each says.
-/
import Derived.Test.YtlplbnlfajdcbaaGreatDoorMhU
import Derived.LaidEql
import Derived.Stop.Asserts
import Derived.RowKitTokens
namespace Go.Proofs.YtlplbnlfajdcbaaGreatDoor
open Go.RowKit Go.Extern.Stop Go.Stop Go.Extern
set_option linter.unusedVariables false
set_option linter.unusedSimpArgs false
/-- a type's handle, and package reflectlite's view of it -/
abbrev th (t : Nat) : Value := .pointer (some ⟨3, t, none⟩)
abbrev rv (t : Nat) (a : Addr) (f : Int) : Value := .agg #[th t, .pointer (some a), .int .u64 f]
abbrev rt (t : Nat) : Value := .iface 153 (.agg #[th t])
theorem fa_unpack2 (t : Addr) (w : World) : (ReflectliteValue.unpack (.iface 68 (.pointer (some t)))).run Tryz.prog w = .ok (rv 68 ⟨w.heap.size, 0, none⟩ 150) (w.alloc (.cells #[.pointer (some t)] 68)) := by kernel_rfl
theorem fa_unpack1 (e : Addr) (w : World) : (ReflectliteValue.unpack (.iface 61 (.pointer (some e)))).run Tryz.prog w = .ok (rv 61 ⟨w.heap.size, 0, none⟩ 150) (w.alloc (.cells #[.pointer (some e)] 61)) := by kernel_rfl
theorem fa_type (a : Addr) (w : World) : (ReflectliteValue.methodAny (ReflectliteValue.valueError "reflectlite.Value.Type" 0) (fun t _ _ _ => ReflectliteType.toType t) #[rv 68 a 150]).run Tryz.prog w = .ok (rt 68) w := by kernel_rfl
theorem fa_mKind (h : Value) (w : World) : (Go.method 342 153 (.agg #[h]) "Kind").run Tryz.prog w = .ok (165, h) w := by kernel_rfl
theorem fa_mElem (h : Value) (w : World) : (Go.method 342 153 (.agg #[h]) "Elem").run Tryz.prog w = .ok (178, .agg #[h]) w := by kernel_rfl
theorem fa_mImp (h : Value) (w : World) : (Go.method 342 153 (.agg #[h]) "Implements").run Tryz.prog w = .ok (179, .agg #[h]) w := by kernel_rfl
theorem fa_mAss (h : Value) (w : World) : (Go.method 342 153 (.agg #[h]) "AssignableTo").run Tryz.prog w = .ok (176, .agg #[h]) w := by kernel_rfl
theorem fa_kind2 (w : World) : ((ReflectliteType.abiMethod fun t => (fun a : Nat => Value.int IntKind.u8 (a : Int)) <$> Rtype.kind t) #[th 68]).run Tryz.prog w = .ok (.int .u8 22) w := by kernel_rfl
theorem fa_kind1 (w : World) : ((ReflectliteType.abiMethod fun t => (fun a : Nat => Value.int IntKind.u8 (a : Int)) <$> Rtype.kind t) #[th 61]).run Tryz.prog w = .ok (.int .u8 22) w := by kernel_rfl
theorem fa_elem2 (w : World) : (ReflectliteType.method ReflectliteType.elem #[.agg #[th 68]]).run Tryz.prog w = .ok (rt 61) w := by kernel_rfl
theorem fa_imp (w : World) : (ReflectliteType.relation "Implements" ReflectliteType.implements_ #[.agg #[th 61], rt 33]).run Tryz.prog w = .ok (.bool true) w := by kernel_rfl
theorem fa_typeOf (v : Value) (w : World) : (ReflectliteType.typeOf #[.iface 61 v]).run Tryz.prog w = .ok (rt 61) w := by kernel_rfl
theorem fa_ass (w : World) : (ReflectliteType.relation "AssignableTo" ReflectliteType.assignableTo #[.agg #[th 61], rt 61]).run Tryz.prog w = .ok (.bool true) w := by kernel_rfl
theorem fa_parts2 (a : Addr) (w : World) : (ReflectliteValue.parts (rv 68 a 150)).run Tryz.prog w = .ok (some (68, a, 150)) w := by kernel_rfl
theorem fa_parts1 (a : Addr) (w : World) : (ReflectliteValue.parts (rv 61 a 150)).run Tryz.prog w = .ok (some (61, a, 150)) w := by kernel_rfl
theorem fa_parts1a (a : Addr) (w : World) : (ReflectliteValue.parts (rv 61 a 406)).run Tryz.prog w = .ok (some (61, a, 406)) w := by kernel_rfl
theorem fa_elemT (w : World) : (Rtype.elem? 68).run Tryz.prog w = .ok (some 61) w := by kernel_rfl
theorem fa_mk (p : Addr) (w : World) : (ReflectliteValue.mk 61 p ReflectliteValue.flagAddr).run Tryz.prog w = .ok (rv 61 p 406) w := by kernel_rfl
theorem fa_direct (w : World) : (Rtype.directlyAssignable 61 61).run Tryz.prog w = .ok true w := by kernel_rfl
theorem rl_method (z : Sem Value) (f : TypeId → Addr → Nat → Nat → Sem Value) (v : Value) : ReflectliteValue.method z f #[v] = (do match ← ReflectliteValue.parts v with | none => z | some (t, a, fl) => f t a fl (fl % 32)) := rfl
theorem fa_isNil (a p : Addr) (W : World) (ha : W.cell? a = some (.pointer (some p))) :
    (ReflectliteValue.method (ReflectliteValue.valueError "reflectlite.Value.IsNil" 0) ReflectliteValue.isNil #[rv 68 a 150]).run Tryz.prog W = .ok (.bool false) W := by
  rw [rl_method]
  simp only [Sem.run_bind, fa_parts2, Result.andThen]
  simp [ReflectliteValue.isNil, loadVar, isAgg, underlying, Tryz.underlying68, ha, Result.andThen]
theorem fa_elemV (a p : Addr) (W : World) (ha : W.cell? a = some (.pointer (some p))) :
    (ReflectliteValue.method (ReflectliteValue.valueError "reflectlite.Value.Elem" 0) ReflectliteValue.elem #[rv 68 a 150]).run Tryz.prog W = .ok (rv 61 p 406) W := by
  rw [rl_method]
  simp only [Sem.run_bind, fa_parts2, Result.andThen]
  simp [ReflectliteValue.elem, loadVar, isAgg, underlying, Tryz.underlying68, ha, Result.andThen, fa_elemT, fa_mk]
end Go.Proofs.YtlplbnlfajdcbaaGreatDoor

namespace Go.Proofs.YtlplbnlfajdcbaaGreatDoor
open Go.RowKit Go.Extern.Stop Go.Stop Go.Extern
set_option linter.unusedVariables false
set_option linter.unusedSimpArgs false
theorem fa_size1 (w : World) : (sizeOf 61).run Tryz.prog w = .ok 1 w := by kernel_rfl
theorem put_other' (W : World) (t : Addr) (j : Nat) (u : Value) (h : j ≠ t.block) : (W.setCell t u).heap[j]? = W.heap[j]? := by
  simp only [World.setCell]
  rw [Array.getElem?_modify, if_neg (fun e => h e.symm)]
theorem set_two (v x : Value) (h1 : Value → Value → Sem Value) (h2 : Array Value → Sem Value) : @ReflectliteValue.set.match_3 (fun _ => Sem Value) #[v, x] h1 h2 = h1 v x := rfl
theorem meth_one (v : Value) (h1 : Value → Sem Value) (h2 : Array Value → Sem Value) : @ReflectliteValue.method.match_2 (fun _ => Sem Value) #[v] h1 h2 = h1 v := rfl
theorem fa_set (ta b e : Addr) (old : Value) (W : World) (hb : W.cell? b = some (.pointer (some e))) (ht : W.cell? ta = some old) (hf : W.frozen? ta = false) :
    (ReflectliteValue.set #[rv 61 ta 406, rv 61 b 150]).run Tryz.prog W = .ok (.tuple #[]) (W.setCell ta (.pointer (some e))) := by
  delta ReflectliteValue.set
  rw [set_two]
  simp only [Sem.run_bind, fa_parts1a, fa_parts1, Result.andThen]
  simp [ReflectliteValue.flagAddr, loadVar, isAgg, underlying, Tryz.underlying61, hb, Result.andThen, fa_direct, storeVar, Value.cells, storeCells, Addr.add]
  rw [run_store Tryz.prog W ta _ _ (by rfl)]
  simp [ht, hf]
set_option maxHeartbeats 4000000 in
set_option maxRecDepth 100000 in
theorem as_in (e t : Addr) (v : Value) (old : Value) (w : World) (ht0 : w.cell? t = some old) (hf0 : w.frozen? t = false) (a : Addr) (ha : w.cell? a = some (.pointer (some t))) :
    Calls Tryz.prog 59 #[.iface 61 (.pointer (some e)), v, rv 68 a 150, rt 61] w fun r w' => r = .returned (.bool true) ∧ w'.cell? t = some (.pointer (some e)) ∧ (∀ k, k ≠ t.block → k < w.heap.size → w'.heap[k]? = w.heap[k]?) ∧ Below t.block w w' := by
  have c60 := @run_callFunc_extern Tryz.prog 60 _ ReflectliteType.typeOf Tryz.func60 (by kernel_rfl) (by kernel_rfl) (by kernel_rfl) (by kernel_rfl)
  have cAs := @run_callFunc_extern Tryz.prog 176 _ (ReflectliteType.relation "AssignableTo" ReflectliteType.assignableTo) Tryz.func176 (by kernel_rfl) (by kernel_rfl) (by kernel_rfl) (by kernel_rfl)
  have cEl := @run_callFunc_extern Tryz.prog 97 _ (ReflectliteValue.method (ReflectliteValue.valueError "reflectlite.Value.Elem" 0) ReflectliteValue.elem) Tryz.func97 (by kernel_rfl) (by kernel_rfl) (by kernel_rfl) (by kernel_rfl)
  have cSt := @run_callFunc_extern Tryz.prog 98 _ ReflectliteValue.set Tryz.func98 (by kernel_rfl) (by kernel_rfl) (by kernel_rfl) (by kernel_rfl)
  have cVo := @run_callFunc_extern Tryz.prog 56 _ (fun args => ReflectliteValue.unpack (args.getD 0 (.tuple #[]))) Tryz.func56 (by kernel_rfl) (by kernel_rfl) (by kernel_rfl) (by kernel_rfl)
  have tO := fa_typeOf
  have mA := fa_mAss
  have a1 := fa_ass
  have v1 := fa_unpack1
  have hal := World.block_lt_of_cell? w a ha
  have htl := World.block_lt_of_cell? w t ht0
  obtain ⟨W1, hW1⟩ : ∃ W1, W1 = w.alloc (.cells #[th 68, .pointer (some a), .int .u64 150] 102) := ⟨_, rfl⟩
  have z1 : W1.heap.size = w.heap.size + 1 := by rw [hW1, World.size_alloc]
  have el := fa_elemV a t W1 (by rw [hW1, World.cell?_alloc_lt _ _ a hal]; exact ha)
  obtain ⟨W2, hW2⟩ : ∃ W2, W2 = W1.alloc (.cells #[.pointer (some e)] 61) := ⟨_, rfl⟩
  have st := fa_set t ⟨W1.heap.size, 0, none⟩ e old W2 (by rw [hW2, World.cell?_alloc_at _ _ _ _ (by simp)]; rfl)
    (by rw [hW2, World.cell?_alloc_lt _ _ t (by omega), hW1, World.cell?_alloc_lt _ _ t htl]; exact ht0)
    (by rw [hW2, World.frozen?_alloc_old _ _ t (by omega), hW1, World.frozen?_alloc_old _ _ t (by omega)]; exact hf0)
  have ht2 : W2.cell? t = some old := by rw [hW2, World.cell?_alloc_lt _ _ t (by omega), hW1, World.cell?_alloc_lt _ _ t htl]; exact ht0
  rw [hW2] at st
  rw [hW1] at el st
  rw [World.size_alloc] at st
  have HT2 := Hid.mk' ht2
  clear ht2
  go_enter Tryz.func59, Tryz.ntmps59
  go_wp2
  refine wp_loop_rounds 1 ?_
  rw [rounds_succ]
  go_wp2
  go_ret
  have y1 : ∀ k, k < w.heap.size → W2.heap[k]? = w.heap[k]? := fun k hk => by
    rw [hW2, Below.heap_alloc _ _ _ (by omega), hW1]
    exact Below.heap_alloc _ _ _ hk
  have y2 : Below w.heap.size w W2 := by
    rw [hW2, hW1]
    exact ((Below.refl _ _).alloc (Nat.le_refl _) _).alloc (by simp) _
  rw [← hW1, ← hW2]
  refine ⟨rfl, World.cell?_setCell_same' _ _ _ (by rw [HT2.out]; rfl), fun k hk hkl => (put_other' W2 t k _ hk).trans (y1 k hkl), (y2.mono (Nat.le_of_lt htl)).setCell (Nat.le_refl _) _⟩
end Go.Proofs.YtlplbnlfajdcbaaGreatDoor

namespace Go.Proofs.YtlplbnlfajdcbaaGreatDoor
open Go.RowKit Go.Extern.Stop Go.Stop Go.Extern
set_option linter.unusedVariables false
set_option linter.unusedSimpArgs false
/-- what the rows list of package errors' own variable, as a walk asks it -/
def ErT (w : World) : Prop := w.cell? ⟨0, 0, none⟩ = some (rt 33)
theorem ErT.below {w w' : World} (h : ErT w) (hb : Below w.heap.size w w') : ErT w' := (hb.cell (p := ⟨0, 0, none⟩) (World.block_lt_of_cell? w _ h)).trans h
set_option maxHeartbeats 4000000 in
set_option maxRecDepth 100000 in
theorem as_fault (e t : Addr) (old : Value) (w : World) (hg : ErT w) (ht0 : w.cell? t = some old) (hf0 : w.frozen? t = false) :
    Calls Tryz.prog 33 #[.iface 61 (.pointer (some e)), .iface 68 (.pointer (some t))] w fun r w' => r = .returned (.bool true) ∧ w'.cell? t = some (.pointer (some e)) ∧ (∀ k, k ≠ t.block → k < w.heap.size → w'.heap[k]? = w.heap[k]?) ∧ Below t.block w w' := by
  have cVo := @run_callFunc_extern Tryz.prog 56 _ (fun args => ReflectliteValue.unpack (args.getD 0 (.tuple #[]))) Tryz.func56 (by kernel_rfl) (by kernel_rfl) (by kernel_rfl) (by kernel_rfl)
  have cTy := @run_callFunc_extern Tryz.prog 57 _ (ReflectliteValue.methodAny (ReflectliteValue.valueError "reflectlite.Value.Type" 0) (fun t _ _ _ => ReflectliteType.toType t)) Tryz.func57 (by kernel_rfl) (by kernel_rfl) (by kernel_rfl) (by kernel_rfl)
  have cNi := @run_callFunc_extern Tryz.prog 58 _ (ReflectliteValue.method (ReflectliteValue.valueError "reflectlite.Value.IsNil" 0) ReflectliteValue.isNil) Tryz.func58 (by kernel_rfl) (by kernel_rfl) (by kernel_rfl) (by kernel_rfl)
  have cKi := @run_callFunc_extern Tryz.prog 165 _ (ReflectliteType.abiMethod fun t => do pure (.int .u8 (← Rtype.kind t))) Tryz.func165 (by kernel_rfl) (by kernel_rfl) (by kernel_rfl) (by kernel_rfl)
  have cEl := @run_callFunc_extern Tryz.prog 178 _ (ReflectliteType.method ReflectliteType.elem) Tryz.func178 (by kernel_rfl) (by kernel_rfl) (by kernel_rfl) (by kernel_rfl)
  have cIm := @run_callFunc_extern Tryz.prog 179 _ (ReflectliteType.relation "Implements" ReflectliteType.implements_) Tryz.func179 (by kernel_rfl) (by kernel_rfl) (by kernel_rfl) (by kernel_rfl)
  have v2 := fa_unpack2
  have tt := fa_type
  have mK := fa_mKind
  have mE := fa_mElem
  have mI := fa_mImp
  have k2 := fa_kind2
  have k1 := fa_kind1
  have e2 := fa_elem2
  have im := fa_imp
  have htl := World.block_lt_of_cell? w t ht0
  have hgl := World.block_lt_of_cell? w _ hg
  obtain ⟨W1, hW1⟩ : ∃ W1, W1 = (w.alloc (.cells #[.pointer (some t)] 68)).alloc (.cells #[th 68, .pointer (some ⟨w.heap.size, 0, none⟩), .int .u64 150] 102) := ⟨_, rfl⟩
  have y1 : Below w.heap.size w W1 := by rw [hW1]; exact ((Below.refl _ _).alloc (Nat.le_refl _) _).alloc (by simp) _
  have hc : W1.cell? ⟨w.heap.size, 0, none⟩ = some (.pointer (some t)) := by
    rw [hW1, World.cell?_alloc_lt _ _ ⟨w.heap.size, 0, none⟩ (by simp), World.cell?_alloc_at _ _ _ _ (by simp)]
    rfl
  have ni := fa_isNil ⟨w.heap.size, 0, none⟩ t W1 hc
  have hg1 : W1.cell? ⟨0, 0, none⟩ = some (rt 33) := (y1.cell (p := ⟨0, 0, none⟩) hgl).trans hg
  have HIN := Hid.mk' (as_in e t (.iface 68 (.pointer (some t))) old W1 ((y1.cell htl).trans ht0) (by rw [hW1, World.frozen?_alloc_old _ _ t (by simp; omega), World.frozen?_alloc_old _ _ t (by omega)]; exact hf0) ⟨w.heap.size, 0, none⟩ hc)
  have HY := Hid.mk' y1
  have HW := Hid.mk' hW1
  have HTL := Hid.mk' htl
  rw [hW1] at ni hg1
  clear hW1 y1 hc ht0 hf0 hg
  go_enter Tryz.func33, Tryz.ntmps33
  go_wp2_with (go_at_call 59; rw [← HW.out]; refine HIN.out.mono ?_; rintro r w' ⟨rfl, h1, h2, h3⟩; have HR := Hid.mk' (And.intro h1 (And.intro h2 h3)); clear h1 h2 h3)
  go_ret
  refine ⟨rfl, HR.out.1, fun k hk hkl => (HR.out.2.1 k hk (Nat.lt_of_lt_of_le hkl HY.out.size)).trans (HY.out.block k hkl), (HY.out.mono (Nat.le_of_lt HTL.out)).trans HR.out.2.2⟩
end Go.Proofs.YtlplbnlfajdcbaaGreatDoor

namespace Go.Proofs.YtlplbnlfajdcbaaGreatDoor
open Go.RowKit
set_option linter.unusedVariables false
set_option linter.unusedSimpArgs false
set_option maxHeartbeats 4000000 in
set_option maxRecDepth 100000 in
theorem within_fault (n k c : Int) (P : Nat) (w : World) (hg : ErT w) (hP : w.heap[P]? = some (.cells #[.int .i64 k, .int .i64 c] 63 (0, 0))) (hn : 0 ≤ n ∧ n ≤ 1048576) (hk : 0 ≤ k ∧ k ≤ 1048576) :
    Calls Tryz.prog 68 #[.int .i64 n, .iface 61 (.pointer (some ⟨P, 0, none⟩))] w fun r w' => ∃ p, r = .returned (.iface 61 (.pointer (some ⟨p, 0, none⟩))) ∧ w'.heap[p]? = some (.cells #[.int .i64 (n + k), .int .i64 c] 63 (0, 0)) ∧ w.heap.size ≤ p ∧ Below w.heap.size w w' := by
  obtain ⟨B, hB⟩ : ∃ B, w.heap.size = B := ⟨_, rfl⟩
  obtain ⟨w0, hw0⟩ : ∃ w0, w.alloc (.cells #[.pointer none] 61) = w0 := ⟨_, rfl⟩
  have hPl : P < B := by rw [← hB]; exact (Array.getElem?_eq_some_iff.1 hP).1
  have y0 : Below w.heap.size w w0 := by rw [← hw0]; exact (Below.refl _ _).alloc (Nat.le_refl _) _
  have hb0 : w0.heap[B]? = some (.cells #[.pointer none] 61 (0, 0)) := by rw [← hw0, ← hB]; exact heap_alloc_new _ _
  have HAS := Hid.mk' (as_fault ⟨P, 0, none⟩ ⟨B, 0, none⟩ (.pointer none) w0 (hg.below y0) (cell_at (k := 0) hb0 rfl) (frozen_at (k := 0) hb0))
  have HY := Hid.mk' (And.intro y0 (And.intro ((y0.block P (by omega)).trans hP) (show w0.heap.size = B + 1 by rw [← hw0, World.size_alloc, hB])))
  have hsum : IntKind.i64.wrap (n + k) = n + k := by rw [IntKind.wrap_i64]; omega
  clear hg hP y0 hb0
  go_enter Tryz.func68, Tryz.ntmps68
  go_upto_region 3 with (go_at_call 33; refine HAS.out.mono ?_; rintro r w1 ⟨rfl, h1, h2, h3⟩; have HR := Hid.mk' (And.intro h1 (And.intro h2 h3)); clear h1 h2 h3)
  clear hw0
  have hP1 : w1.heap[P]? = some (.cells #[.int .i64 k, .int .i64 c] 63 (0, 0)) := (HR.out.2.1 P (by show P ≠ B; omega) (by have := HY.out.2.2; omega)).trans HY.out.2.1
  have p0 := cell_at (k := 0) hP1 rfl
  have p1 := cell_at (k := 1) hP1 rfl
  have b0 := HR.out.1
  have HB1 : Hid (Below w.heap.size w w1) := by
    have h1 := HY.out.1
    have h3 := HR.out.2.2
    have h3' : Below B w0 w1 := h3
    rw [← hB] at h3'
    exact h1.trans h3'
  clear hP1
  go_region
  all_goals (go_wp2_with fail; try go_ret)
  all_goals exact ⟨w1.heap.size, rfl, heap_alloc_new _ _, HB1.out.size, (HB1.out.alloc HB1.out.size _).drewN' 1⟩
set_option maxHeartbeats 4000000 in
set_option maxRecDepth 100000 in
theorem linesOf_bad (s : ByteArray) (n : Nat) (a b c d e f g h i : Int) (w : World) (hs : s.size = n + 4) (hl : n ≤ 1048576) (hne : s.extract n (n + 4) ≠ nums (smL (Sums.bl (s.extract 0 n)))) (ht : Tab w) (hg : ErT w) :
    Calls Tryz.prog 43 #[.string s, hdV a b c d e f g h i] w fun r w' => ∃ p, r = .returned (.tuple #[.slice none 0 0, .iface 61 (.pointer (some ⟨p, 0, none⟩))]) ∧ w'.heap[p]? = some (.cells #[.int .i64 (73 + (n : Int)), .int .i64 54] 63 (0, 0)) ∧ w.heap.size ≤ p ∧ Below w.heap.size w w' := by
  obtain ⟨B, hB⟩ : ∃ B, w.heap.size = B := ⟨_, rfl⟩
  obtain ⟨w0, hw0⟩ : ∃ w0, w.alloc (.cells #[.int .i64 a, .int .i64 b, .int .i64 c, .int .i64 d, .int .i64 e, .int .i64 f, .int .i64 g, .int .i64 h, .int .i64 i] 23) = w0 := ⟨_, rfl⟩
  have y0 : Below w.heap.size w w0 := by rw [← hw0]; exact (Below.refl _ _).alloc (Nat.le_refl _) _
  have HUN := Hid.mk' (unsummed_bad s n w0 hs hl hne (ht.below y0))
  have HY := Hid.mk' (And.intro y0 (hg.below y0))
  have HW := Hid.mk' (fun W p hgW hp => within_fault 73 n 54 p W hgW hp (by omega) (by omega))
  unfold hdV
  clear hs hne ht hg y0 hl
  go_enter Tryz.func43, Tryz.ntmps43
  go_wp2_with (first
    | (go_at_call 36; refine HUN.out.mono ?_; rintro r w1 ⟨p, rfl, h1, h2, h3⟩; have HR := Hid.mk' (And.intro h1 (And.intro h2 h3)); clear h1 h2 h3)
    | (go_at_call 68; refine (HW.out w1 p (HY.out.2.below HR.out.2.2) HR.out.1).mono ?_; rintro r w2 ⟨q, rfl, h1, h2, h3⟩; have HQ := Hid.mk' (And.intro h1 (And.intro h2 h3)); clear h1 h2 h3))
  go_ret2
  have z1 := HY.out.1
  have z2 := z1.trans (HR.out.2.2.mono z1.size)
  have z3 := z2.trans (HQ.out.2.2.mono z2.size)
  exact ⟨q, rfl, HQ.out.1, Nat.le_trans z2.size HQ.out.2.1, z3⟩
end Go.Proofs.YtlplbnlfajdcbaaGreatDoor

namespace Go.Proofs.YtlplbnlfajdcbaaGreatDoor
open Go.RowKit
set_option linter.unusedVariables false
set_option linter.unusedSimpArgs false
set_option maxHeartbeats 2000000 in
set_option maxRecDepth 100000 in
theorem open_lookbad (s : ByteArray) (at_ code : Int) (w : World) (ht : Tab w)
    (hlo : ∀ W, Tab W → Calls Tryz.prog 16 #[.string s] W fun r w' => ∃ p, r = .returned (.tuple #[hdV 0 0 0 0 0 0 0 0 0, .iface 61 (.pointer (some ⟨p, 0, none⟩))]) ∧ w'.heap[p]? = some (.cells #[.int .i64 at_, .int .i64 code] 63 (0, 0)) ∧ W.heap.size ≤ p ∧ Below W.heap.size W w') :
    Calls Tryz.prog 18 #[.string s] w fun r w' => ∃ p, r = .returned (.tuple #[hdV 0 0 0 0 0 0 0 0 0, .slice none 0 0, .iface 61 (.pointer (some ⟨p, 0, none⟩))]) ∧ w'.heap[p]? = some (.cells #[.int .i64 at_, .int .i64 code] 63 (0, 0)) ∧ w.heap.size ≤ p ∧ Below w.heap.size w w' := by
  obtain ⟨B, hB⟩ : ∃ B, w.heap.size = B := ⟨_, rfl⟩
  obtain ⟨w0, hw0⟩ : ∃ w0, w.alloc (.cells #[.int .i64 0, .int .i64 0, .int .i64 0, .int .i64 0, .int .i64 0, .int .i64 0, .int .i64 0, .int .i64 0, .int .i64 0] 23) = w0 := ⟨_, rfl⟩
  have HK0 : Hid (w0.heap[B]? = some (.cells #[.int .i64 0, .int .i64 0, .int .i64 0, .int .i64 0, .int .i64 0, .int .i64 0, .int .i64 0, .int .i64 0, .int .i64 0] 23 (0, 0)) ∧ Below B w w0 ∧ w0.heap.size = B + 1) := by
    unfold Hid
    rw [← hw0, ← hB]
    exact ⟨heap_alloc_new _ _, (Below.refl _ _).alloc (Nat.le_refl _) _, World.size_alloc ..⟩
  have HLO := Hid.mk' hlo
  have HT := Hid.mk' ht
  unfold hdV at HLO
  clear hlo ht
  go_enter Tryz.func18, Tryz.ntmps18
  go_upto_region 1 with fail
  clear hw0
  go_upto_region 2 with (go_at_call 16; refine (HLO.out w0 (HT.out.below (by rw [hB]; exact HK0.out.2.1))).mono ?_; rintro r w1 ⟨p, rfl, h1, h2, h3⟩; have HR := Hid.mk' (And.intro h1 (And.intro h2 h3)); clear h1 h2 h3)
  obtain ⟨w2, hw2⟩ : ∃ w2, w1.alloc (.cells #[.int .i64 0, .int .i64 0, .int .i64 0, .int .i64 0, .int .i64 0, .int .i64 0, .int .i64 0, .int .i64 0, .int .i64 0] 23) = w2 := ⟨_, rfl⟩
  have HK2 : Hid (w2.heap[B]? = some (.cells #[.int .i64 0, .int .i64 0, .int .i64 0, .int .i64 0, .int .i64 0, .int .i64 0, .int .i64 0, .int .i64 0, .int .i64 0] 23 (0, 0)) ∧ Below B w w2 ∧ w2.heap[p]? = some (.cells #[.int .i64 at_, .int .i64 code] 63 (0, 0)) ∧ B + 1 ≤ p) := by
    obtain ⟨k1, k2, k3⟩ := HK0.out
    obtain ⟨h1, h2, h3⟩ := HR.out
    have h4 := h3.size
    have h5 := (Array.getElem?_eq_some_iff.1 h1).1
    unfold Hid
    rw [← hw2]
    exact ⟨(Below.heap_alloc _ _ _ (by omega)).trans ((h3.block B (by omega)).trans k1), (k2.trans (h3.mono (by omega))).alloc (by omega) _, (Below.heap_alloc _ _ _ h5).trans h1, by omega⟩
  try rw [hw2]
  clear hw2
  have r0 := cell_at (k := 0) HK2.out.1 rfl
  have g0 := frozen_at (k := 0) HK2.out.1
  have r1 := cell_at (k := 1) HK2.out.1 rfl
  have g1 := frozen_at (k := 1) HK2.out.1
  have r2 := cell_at (k := 2) HK2.out.1 rfl
  have g2 := frozen_at (k := 2) HK2.out.1
  have r3 := cell_at (k := 3) HK2.out.1 rfl
  have g3 := frozen_at (k := 3) HK2.out.1
  have r4 := cell_at (k := 4) HK2.out.1 rfl
  have g4 := frozen_at (k := 4) HK2.out.1
  have r5 := cell_at (k := 5) HK2.out.1 rfl
  have g5 := frozen_at (k := 5) HK2.out.1
  have r6 := cell_at (k := 6) HK2.out.1 rfl
  have g6 := frozen_at (k := 6) HK2.out.1
  have r7 := cell_at (k := 7) HK2.out.1 rfl
  have g7 := frozen_at (k := 7) HK2.out.1
  have r8 := cell_at (k := 8) HK2.out.1 rfl
  have g8 := frozen_at (k := 8) HK2.out.1
  go_wp2_with fail
  have hpb := HK2.out.2.2.2
  have hp := HK2.out.2.2.1
  obtain ⟨Y, hY⟩ : ∃ Y, (((((((((w2.setCell ⟨B, 0, none⟩ (.int .i64 0)).setCell ⟨B, 1, none⟩ (.int .i64 0)).setCell ⟨B, 2, none⟩ (.int .i64 0)).setCell ⟨B, 3, none⟩ (.int .i64 0)).setCell ⟨B, 4, none⟩ (.int .i64 0)).setCell ⟨B, 5, none⟩ (.int .i64 0)).setCell ⟨B, 6, none⟩ (.int .i64 0)).setCell ⟨B, 7, none⟩ (.int .i64 0)).setCell ⟨B, 8, none⟩ (.int .i64 0)) = Y := ⟨_, rfl⟩
  have hb9 : Below B w Y := by rw [← hY]; exact nine_below _ _ _ _ _ _ _ _ _ (HK2.out.2.1) (Nat.le_refl _)
  have hc9 : Y.heap[B]? = some (.cells #[.int .i64 0, .int .i64 0, .int .i64 0, .int .i64 0, .int .i64 0, .int .i64 0, .int .i64 0, .int .i64 0, .int .i64 0] 23 (0, 0)) := by rw [← hY]; exact nine_put _ _ _ _ _ _ _ _ _ (HK2.out.1)
  have hp9 : Y.heap[p]? = some (.cells #[.int .i64 at_, .int .i64 code] 63 (0, 0)) := by rw [← hY]; exact (nine_other _ _ _ _ _ _ _ _ _ (by omega)).trans hp
  rw [hY]
  have y0 := cell_at (k := 0) hc9 rfl
  have y1 := cell_at (k := 1) hc9 rfl
  have y2 := cell_at (k := 2) hc9 rfl
  have y3 := cell_at (k := 3) hc9 rfl
  have y4 := cell_at (k := 4) hc9 rfl
  have y5 := cell_at (k := 5) hc9 rfl
  have y6 := cell_at (k := 6) hc9 rfl
  have y7 := cell_at (k := 7) hc9 rfl
  have y8 := cell_at (k := 8) hc9 rfl
  exact bodyPost_ret (v := .tuple #[.agg #[.int .i64 0, .int .i64 0, .int .i64 0, .int .i64 0, .int .i64 0, .int .i64 0, .int .i64 0, .int .i64 0, .int .i64 0], .slice none 0 0, .iface 61 (.pointer (some ⟨p, 0, none⟩))]) (by simp [results, Tryz.results18, go_sem, y0, y1, y2, y3, y4, y5, y6, y7, y8]) rfl ⟨p, rfl, hp9, by omega, by first | exact hb9 | (rw [hB]; exact hb9)⟩
end Go.Proofs.YtlplbnlfajdcbaaGreatDoor

namespace Go.Proofs.YtlplbnlfajdcbaaGreatDoor
open Go.RowKit
set_option linter.unusedVariables false
set_option linter.unusedSimpArgs false
set_option maxHeartbeats 2000000 in
set_option maxRecDepth 100000 in
theorem open_linesbad (s : ByteArray) (a b c d e f g h : Int) (i : Nat) (at_ code : Int) (w : World) (ht : Tab w) (hg : ErT w) (hi : i ≤ 131602) (hs : s.size = 77 + i)
    (hlo : ∀ W, Tab W → Calls Tryz.prog 16 #[.string s] W fun r w' => r = .returned (.tuple #[hdV a b c d e f g h i, .nilIface]) ∧ Below W.heap.size W w')
    (hli : ∀ W, Tab W → ErT W → Calls Tryz.prog 43 #[.string (s.extract 73 s.size), hdV a b c d e f g h i] W fun r w' => ∃ p, r = .returned (.tuple #[.slice none 0 0, .iface 61 (.pointer (some ⟨p, 0, none⟩))]) ∧ w'.heap[p]? = some (.cells #[.int .i64 at_, .int .i64 code] 63 (0, 0)) ∧ W.heap.size ≤ p ∧ Below W.heap.size W w') :
    Calls Tryz.prog 18 #[.string s] w fun r w' => ∃ p, r = .returned (.tuple #[hdV 0 0 0 0 0 0 0 0 0, .slice none 0 0, .iface 61 (.pointer (some ⟨p, 0, none⟩))]) ∧ w'.heap[p]? = some (.cells #[.int .i64 at_, .int .i64 code] 63 (0, 0)) ∧ w.heap.size ≤ p ∧ Below w.heap.size w w' := by
  obtain ⟨B, hB⟩ : ∃ B, w.heap.size = B := ⟨_, rfl⟩
  obtain ⟨w0, hw0⟩ : ∃ w0, w.alloc (.cells #[.int .i64 0, .int .i64 0, .int .i64 0, .int .i64 0, .int .i64 0, .int .i64 0, .int .i64 0, .int .i64 0, .int .i64 0] 23) = w0 := ⟨_, rfl⟩
  have HK0 : Hid (w0.heap[B]? = some (.cells #[.int .i64 0, .int .i64 0, .int .i64 0, .int .i64 0, .int .i64 0, .int .i64 0, .int .i64 0, .int .i64 0, .int .i64 0] 23 (0, 0)) ∧ Below B w w0 ∧ w0.heap.size = B + 1) := by
    unfold Hid
    rw [← hw0, ← hB]
    exact ⟨heap_alloc_new _ _, (Below.refl _ _).alloc (Nat.le_refl _) _, World.size_alloc ..⟩
  have HLO := Hid.mk' hlo
  have HLI := Hid.mk' hli
  have HBO := Hid.mk' (fun W => bodyOf_ok s a b c d e f g h i W hi hs)
  have HT := Hid.mk' (And.intro ht hg)
  unfold hdV at HLO HLI HBO
  clear hlo hli ht hg hs
  go_enter Tryz.func18, Tryz.ntmps18
  go_upto_region 1 with fail
  clear hw0
  go_upto_region 2 with (go_at_call 16; refine (HLO.out w0 (HT.out.1.below (by rw [hB]; exact HK0.out.2.1))).mono ?_; rintro r w1 ⟨rfl, h3⟩; have HR := Hid.mk' h3; clear h3)
  obtain ⟨C, hC⟩ : ∃ C, w1.heap.size = C := ⟨_, rfl⟩
  obtain ⟨w2, hw2⟩ : ∃ w2, w1.alloc (.cells #[.int .i64 a, .int .i64 b, .int .i64 c, .int .i64 d, .int .i64 e, .int .i64 f, .int .i64 g, .int .i64 h, .int .i64 (i : Int)] 23) = w2 := ⟨_, rfl⟩
  have HX : Hid (∀ X, Below w2.heap.size w2 X → X.heap[B]? = some (.cells #[.int .i64 0, .int .i64 0, .int .i64 0, .int .i64 0, .int .i64 0, .int .i64 0, .int .i64 0, .int .i64 0, .int .i64 0] 23 (0, 0)) ∧ X.heap[C]? = some (.cells #[.int .i64 a, .int .i64 b, .int .i64 c, .int .i64 d, .int .i64 e, .int .i64 f, .int .i64 g, .int .i64 h, .int .i64 (i : Int)] 23 (0, 0)) ∧ Below B w X ∧ B + 1 ≤ X.heap.size) := by
    obtain ⟨k1, k2, k3⟩ := HK0.out
    have h3 := HR.out
    have h4 := h3.size
    have z1 : w2.heap[C]? = some (.cells #[.int .i64 a, .int .i64 b, .int .i64 c, .int .i64 d, .int .i64 e, .int .i64 f, .int .i64 g, .int .i64 h, .int .i64 (i : Int)] 23 (0, 0)) := by
      rw [← hw2, ← hC]
      exact heap_alloc_new _ _
    have z2 : Below w1.heap.size w1 w2 := by
      rw [← hw2]
      exact (Below.refl _ _).alloc (Nat.le_refl _) _
    intro X hX
    have z3 : Below w1.heap.size w1 X := z2.trans (hX.mono z2.size)
    have z4 : Below w0.heap.size w0 X := h3.trans (z3.mono h4)
    have z5 := z4.size
    exact ⟨(z4.block B (by omega)).trans k1, (hX.block C (Array.getElem?_eq_some_iff.1 z1).1).trans z1, k2.trans (z4.mono (by omega)), by omega⟩
  try rw [hw2]
  try rw [hC]
  clear hw2 hC
  have p0 := cell_at (k := 0) (HX.out w2 (Below.refl _ _)).2.1 rfl
  have p1 := cell_at (k := 1) (HX.out w2 (Below.refl _ _)).2.1 rfl
  have p2 := cell_at (k := 2) (HX.out w2 (Below.refl _ _)).2.1 rfl
  have p3 := cell_at (k := 3) (HX.out w2 (Below.refl _ _)).2.1 rfl
  have p4 := cell_at (k := 4) (HX.out w2 (Below.refl _ _)).2.1 rfl
  have p5 := cell_at (k := 5) (HX.out w2 (Below.refl _ _)).2.1 rfl
  have p6 := cell_at (k := 6) (HX.out w2 (Below.refl _ _)).2.1 rfl
  have p7 := cell_at (k := 7) (HX.out w2 (Below.refl _ _)).2.1 rfl
  have p8 := cell_at (k := 8) (HX.out w2 (Below.refl _ _)).2.1 rfl
  go_upto_region 5 with (go_at_call 42; refine (HBO.out w2).mono ?_; rintro r w3 ⟨rfl, h3⟩; have HR3 := Hid.mk' h3; clear h3)
  clear p0 p1 p2 p3 p4 p5 p6 p7 p8
  have p0 := cell_at (k := 0) (HX.out w3 HR3.out).2.1 rfl
  have p1 := cell_at (k := 1) (HX.out w3 HR3.out).2.1 rfl
  have p2 := cell_at (k := 2) (HX.out w3 HR3.out).2.1 rfl
  have p3 := cell_at (k := 3) (HX.out w3 HR3.out).2.1 rfl
  have p4 := cell_at (k := 4) (HX.out w3 HR3.out).2.1 rfl
  have p5 := cell_at (k := 5) (HX.out w3 HR3.out).2.1 rfl
  have p6 := cell_at (k := 6) (HX.out w3 HR3.out).2.1 rfl
  have p7 := cell_at (k := 7) (HX.out w3 HR3.out).2.1 rfl
  have p8 := cell_at (k := 8) (HX.out w3 HR3.out).2.1 rfl
  go_upto_region 8 with (go_at_call 43; refine (HLI.out w3 (HT.out.1.below (by rw [hB]; exact (HX.out w3 HR3.out).2.2.1)) (HT.out.2.below (by rw [hB]; exact (HX.out w3 HR3.out).2.2.1))).mono ?_; rintro r w4 ⟨p, rfl, h1, h2, h3⟩; have HR4 := Hid.mk' (And.intro h1 (And.intro h2 (HR3.out.trans (h3.mono HR3.out.size)))); clear h1 h2 h3)
  clear p0 p1 p2 p3 p4 p5 p6 p7 p8
  have q0 := (HX.out w4 HR4.out.2.2).1
  have r0 := cell_at (k := 0) q0 rfl
  have g0 := frozen_at (k := 0) q0
  have r1 := cell_at (k := 1) q0 rfl
  have g1 := frozen_at (k := 1) q0
  have r2 := cell_at (k := 2) q0 rfl
  have g2 := frozen_at (k := 2) q0
  have r3 := cell_at (k := 3) q0 rfl
  have g3 := frozen_at (k := 3) q0
  have r4 := cell_at (k := 4) q0 rfl
  have g4 := frozen_at (k := 4) q0
  have r5 := cell_at (k := 5) q0 rfl
  have g5 := frozen_at (k := 5) q0
  have r6 := cell_at (k := 6) q0 rfl
  have g6 := frozen_at (k := 6) q0
  have r7 := cell_at (k := 7) q0 rfl
  have g7 := frozen_at (k := 7) q0
  have r8 := cell_at (k := 8) q0 rfl
  have g8 := frozen_at (k := 8) q0
  clear q0
  go_wp2_with fail
  have hp := HR4.out.1
  have hpb : B + 1 ≤ p := Nat.le_trans (HX.out w3 HR3.out).2.2.2 HR4.out.2.1
  obtain ⟨Y, hY⟩ : ∃ Y, (((((((((w4.setCell ⟨B, 0, none⟩ (.int .i64 0)).setCell ⟨B, 1, none⟩ (.int .i64 0)).setCell ⟨B, 2, none⟩ (.int .i64 0)).setCell ⟨B, 3, none⟩ (.int .i64 0)).setCell ⟨B, 4, none⟩ (.int .i64 0)).setCell ⟨B, 5, none⟩ (.int .i64 0)).setCell ⟨B, 6, none⟩ (.int .i64 0)).setCell ⟨B, 7, none⟩ (.int .i64 0)).setCell ⟨B, 8, none⟩ (.int .i64 0)) = Y := ⟨_, rfl⟩
  have hb9 : Below B w Y := by rw [← hY]; exact nine_below _ _ _ _ _ _ _ _ _ ((HX.out w4 HR4.out.2.2).2.2.1) (Nat.le_refl _)
  have hc9 : Y.heap[B]? = some (.cells #[.int .i64 0, .int .i64 0, .int .i64 0, .int .i64 0, .int .i64 0, .int .i64 0, .int .i64 0, .int .i64 0, .int .i64 0] 23 (0, 0)) := by rw [← hY]; exact nine_put _ _ _ _ _ _ _ _ _ ((HX.out w4 HR4.out.2.2).1)
  have hp9 : Y.heap[p]? = some (.cells #[.int .i64 at_, .int .i64 code] 63 (0, 0)) := by rw [← hY]; exact (nine_other _ _ _ _ _ _ _ _ _ (by omega)).trans hp
  rw [hY]
  have y0 := cell_at (k := 0) hc9 rfl
  have y1 := cell_at (k := 1) hc9 rfl
  have y2 := cell_at (k := 2) hc9 rfl
  have y3 := cell_at (k := 3) hc9 rfl
  have y4 := cell_at (k := 4) hc9 rfl
  have y5 := cell_at (k := 5) hc9 rfl
  have y6 := cell_at (k := 6) hc9 rfl
  have y7 := cell_at (k := 7) hc9 rfl
  have y8 := cell_at (k := 8) hc9 rfl
  exact bodyPost_ret (v := .tuple #[.agg #[.int .i64 0, .int .i64 0, .int .i64 0, .int .i64 0, .int .i64 0, .int .i64 0, .int .i64 0, .int .i64 0, .int .i64 0], .slice none 0 0, .iface 61 (.pointer (some ⟨p, 0, none⟩))]) (by simp [results, Tryz.results18, go_sem, y0, y1, y2, y3, y4, y5, y6, y7, y8]) rfl ⟨p, rfl, hp9, by omega, by first | exact hb9 | (rw [hB]; exact hb9)⟩
end Go.Proofs.YtlplbnlfajdcbaaGreatDoor
