/-
  object.Flat and fields' pairs as iterators. Conditions: as each says.
-/
import Derived.Test.YtkplbggefiemdaaGreatDoorFlNP
namespace Go.Proofs.YtkplbggefiemdaaGreatDoor
open Go.RowKit Go.Shelf
set_option linter.unusedVariables false
set_option linter.unusedSimpArgs false
attribute [local go_sem] Oper.semAt_some
set_option maxRecDepth 100000 in
set_option maxHeartbeats 4000000 in
theorem flat2_inN (q l B : Nat) (D : Nat → Prop) (hD3 : D 5) (v : Vl) (hok : okV 40 v = true) (k : Int) (t : ByteArray) (p1 : Option Addr) (n1 c1 : Nat) (p2 : Option Addr) (n2 c2 : Nat) (J Jx : List (List Nat × List Nat) → World → Prop) (V : World)
    (hJb : ∀ pre X Y, J pre X → Below X.heap.size X Y → J pre Y)
    (hY : ∀ m pre x X, J pre X → pre ++ [x] <+: flV v [] → YieldAt Fence.wide m Tryz.prog l (encP x) X fun e Y =>
      (e = .returned (.bool true) ∧ J (pre ++ [x]) Y ∧ KpD D X Y) ∨ (e = .returned (.bool false) ∧ Jx (pre ++ [x]) Y))
    (hB : V.heap[B]? = some (.cells #[.int .i64 k, .string t, .slice p1 n1 c1, .slice p2 n2 c2] 41 (0, 0))) (hv : VlAt D V v #[.int .i64 k, .string t, .slice p1 n1 c1, .slice p2 n2 c2]) (hD : ∀ j, D j → j < V.heap.size) (hpw : Pow V) (h0 : J [] V) :
    CallsIn Fence.wide q Tryz.prog 40 #[.func (.yield l) #[] #[], .pointer (some ⟨B, 0, none⟩)] V fun e Y => (∃ v, e = .returned v) ∧
      ((∃ ys, ys = flV v [] ∧ J ys Y) ∨ (∃ pre, pre <+: flV v [] ∧ Jx pre Y)) := by
  have HF := Hid.mk' (flatten_any l D (flV v []) J Jx hJb hY hD3 (szV v) v (Nat.le_refl _) 40 hok (q - 1) ByteArray.empty _ V [] hv hD hpw (by decide) h0 (List.prefix_refl _))
  have b0 : V.cell? ⟨B, 0, none⟩ = some (.int .i64 k) := by simp [World.cell?, hB]
  have b1 : V.cell? ⟨B, 1, none⟩ = some (.string t) := by simp [World.cell?, hB]
  have b2 : V.cell? ⟨B, 2, none⟩ = some (.slice p1 n1 c1) := by simp [World.cell?, hB]
  have b3 : V.cell? ⟨B, 3, none⟩ = some (.slice p2 n2 c2) := by simp [World.cell?, hB]
  clear hJb hY h0 hv hB hD hpw
  refine callsIn_of_wp Tryz.func40 rfl trivial ?_ rfl
  simp only [Tryz.ntmps40, List.size_toArray, List.length_cons, List.length_nil, Nat.reduceAdd, Nat.reduceSub, Array.replicate_succ, Array.replicate_zero, List.push_toArray, List.append_toArray, List.nil_append, List.cons_append]
  gi_wp2
  refine ⟨trivial, dep, HF.out.mono ?_⟩
  rintro e Y h
  obtain ⟨b, rfl⟩ := h.bool
  have HY := Hid.mk' h
  clear h HF
  gi_wp2
  go_end0
  refine ⟨⟨_, rfl⟩, ?_⟩
  cases b
  · exact .inr HY.out.no
  · exact .inl ⟨_, rfl, HY.out.yes.1⟩
theorem flat2_seqN (q B : Nat) (D : Nat → Prop) (hD3 : D 5) (hDB : D B) (v : Vl) (hok : okV 40 v = true) (cs : Array Value) (w : World) (hB : w.heap[B]? = some (.cells cs 41 (0, 0))) (hv : VlAt D w v cs) (hD : ∀ j, D j → j < w.heap.size) (hpw : Pow w) :
    SeqN Fence.wide q Tryz.prog 40 #[.pointer (some ⟨B, 0, none⟩)] encP noP (KpD D) (fun ys => ys = flV v []) (fun pre => pre <+: flV v []) w := fun l J Jx V hV hJ _ hY h0' => by
  obtain ⟨k, t, p1, n1, c1, p2, n2, c2, rfl⟩ := hv.form
  exact flat2_inN q l B D hD3 v hok k t p1 n1 c1 p2 n2 c2 J Jx V
    (fun pre X Y h hb => hJ pre X Y none h ⟨hb.os, hb.tape, hb.output, hb.size, fun k hk _ => hb.block k hk⟩ (fun r e => by cases e))
    (fun m pre x X h1 h2 => yield_depth m (hY pre x X h1 h2))
    ((hV.block B (hD B hDB)).trans hB) (VlAt.keep (fun _ x => x) (fun j hj hl => hV.block j hl) hV.size _ _ hv) (fun j hj => Nat.lt_of_lt_of_le (hD j hj) hV.size) (hpw.same (hV.block 5 (hD 5 hD3))) h0'
/-- a function that goes over these fields -/
def FlatV (b : Nat) : Value := .func (.func 40) #[] #[.pointer (some ⟨b, 0, none⟩)]
set_option maxRecDepth 100000 in
set_option maxHeartbeats 4000000 in
theorem flat_ok (v : Vl) (hok : okV 40 v = true) (hac : (accV v (0, 0)).1 ≤ 65536 ∧ (accV v (0, 0)).2 ≤ 65536) (F : Nat → Prop) (cs : Array Value) (w : World) (hv : VlAt F w v cs) (hF : ∀ j, F j → j < w.heap.size) (hpw : Pow w) (hut : UtT w) :
    Calls Tryz.prog 19 #[.agg cs] w fun e w' => Below w.heap.size w w' ∧ ∃ (b : Nat) (D : Nat → Prop) (cs' : Array Value), e = .returned (FlatV b) ∧ D 5 ∧ D b ∧ w'.heap[b]? = some (.cells cs' 41 (0, 0)) ∧ VlAt D w' v cs' ∧ (∀ j, D j → j < w'.heap.size) ∧ (∀ j, D j → j = 5 ∨ w.heap.size ≤ j) := by
  obtain ⟨xk, xt, p1, n1, c1, p2, n2, c2, rfl⟩ := hv.form
  have HB0 : Hid (Below w.heap.size w (w.alloc (.cells #[.int .i64 xk, .string xt, .slice p1 n1 c1, .slice p2 n2 c2] 41))) := Hid.mk' ((Below.refl _ w).alloc (Nat.le_refl _) _)
  have HX0 := Hid.mk' (heap_alloc_new w (.cells #[.int .i64 xk, .string xt, .slice p1 n1 c1, .slice p2 n2 c2] 41))
  have HS0 : Hid ((w.alloc (.cells #[.int .i64 xk, .string xt, .slice p1 n1 c1, .slice p2 n2 c2] 41)).heap.size = w.heap.size + 1) := Hid.mk' (World.size_alloc _ _)
  have HV := Hid.mk' hv
  have HFF := Hid.mk' hF
  have HP := Hid.mk' hpw
  have HAC := Hid.mk' hac
  have HOK := Hid.mk' hok
  have HUT := Hid.mk' hut
  clear hv hF hpw hac hok hut
  go_enter Tryz.func19, Tryz.ntmps19
  go_wp2_with fail
  generalize w.alloc (.cells #[.int .i64 xk, .string xt, .slice p1 n1 c1, .slice p2 n2 c2] 41) = w1 at HB0 HX0 HS0 ⊢
  refine (right_ok v F _ w1 HOK.out (VlAt.keep (fun _ x => x) (fun j hj hl => HB0.out.block j hl) HB0.out.size _ _ HV.out) (fun j hj => Nat.lt_of_lt_of_le (HFF.out j hj) HB0.out.size) HAC.out.1 HAC.out.2 (HUT.out.below HB0.out (Nat.le_refl _))).mono ?_
  rintro e w2 ⟨rfl, hb2⟩
  have hlt : w.heap.size < w1.heap.size := by have := HS0.out; omega
  have hx2 := (hb2.block w.heap.size hlt).trans HX0.out
  have x0 : w2.cell? ⟨w.heap.size, 0, none⟩ = some (.int .i64 xk) := by simp [World.cell?, hx2]
  have x1 : w2.cell? ⟨w.heap.size, 1, none⟩ = some (.string xt) := by simp [World.cell?, hx2]
  have x2 : w2.cell? ⟨w.heap.size, 2, none⟩ = some (.slice p1 n1 c1) := by simp [World.cell?, hx2]
  have x3 : w2.cell? ⟨w.heap.size, 3, none⟩ = some (.slice p2 n2 c2) := by simp [World.cell?, hx2]
  have HB2 : Hid (Below w.heap.size w w2) := Hid.mk' (HB0.out.trans ⟨hb2.os, hb2.tape, hb2.output, hb2.size, fun j hj => hb2.block j (by have := HB0.out.size; omega)⟩)
  clear hb2 hlt hx2 HB0 HX0 HS0 HAC
  go_wp2_with fail
  refine (copied_ok F (szV v) v (Nat.le_refl _) 40 HOK.out _ w2 (VlAt.keep (fun _ x => x) (fun j hj hl => HB2.out.block j hl) HB2.out.size _ _ HV.out) (fun j hj => Nat.lt_of_lt_of_le (HFF.out j hj) HB2.out.size)).mono ?_
  rintro e w3 ⟨cs', rfl, hb3, G, hG, hv3⟩
  obtain ⟨yk, yt, s1, m1, d1, s2, m2, d2, rfl⟩ := hv3.form
  have HB3 : Hid (Below w.heap.size w w3) := Hid.mk' (HB2.out.trans ⟨hb3.os, hb3.tape, hb3.output, hb3.size, fun j hj => hb3.block j (by have := HB2.out.size; omega)⟩)
  have HG : Hid (∀ k, G k → w.heap.size ≤ k ∧ k < w3.heap.size) := Hid.mk' (fun k hk => by have := hG k hk; have := HB2.out.size; omega)
  have HV3 := Hid.mk' hv3
  have HA : Hid (Below w3.heap.size w3 (w3.alloc (.cells #[.int .i64 yk, .string yt, .slice s1 m1 d1, .slice s2 m2 d2] 41))) := Hid.mk' ((Below.refl _ w3).alloc (Nat.le_refl _) _)
  have HN := Hid.mk' (heap_alloc_new w3 (.cells #[.int .i64 yk, .string yt, .slice s1 m1 d1, .slice s2 m2 d2] 41))
  have HS := Hid.mk' (World.size_alloc w3 (.cells #[.int .i64 yk, .string yt, .slice s1 m1 d1, .slice s2 m2 d2] 41))
  clear hb3 hG hv3 x0 x1 x2 x3 HB2 HV HFF
  go_wp2_with fail
  generalize w3.alloc (.cells #[.int .i64 yk, .string yt, .slice s1 m1 d1, .slice s2 m2 d2] 41) = w4 at HA HN HS ⊢
  go_ret
  have h3 := HP.out.size
  have h4 := HB3.out.size
  have h5 := HS.out
  refine ⟨HB3.out.trans ⟨HA.out.os, HA.out.tape, HA.out.output, HA.out.size, fun j hj => HA.out.block j (by omega)⟩, w3.heap.size, (fun j => j = 5 ∨ G j ∨ j = w3.heap.size), _, rfl, .inl rfl, .inr (.inr rfl), HN.out, VlAt.keep (fun _ x => .inr (.inl x)) (fun j hj hl => HA.out.block j hl) HA.out.size _ _ HV3.out, ?_, ?_⟩
  · rintro j (rfl | hj | rfl)
    · omega
    · have := HG.out j hj; omega
    · omega
  · rintro j (rfl | hj | rfl)
    · exact .inl rfl
    · exact .inr (HG.out j hj).1
    · exact .inr h4
end Go.Proofs.YtkplbggefiemdaaGreatDoor

namespace Go.Proofs.YtkplbggefiemdaaGreatDoor
open Go.RowKit
set_option linter.unusedVariables false
set_option linter.unusedSimpArgs false
def blkL (x : Nat) : Bool := inL [32, 9, 10, 13] x
/-- does a text begin with a brace, behind what is blank? -/
def braF (l : List Nat) : Bool := hasO 123 (l.dropWhile blkL)
def cut4 : ByteArray := ⟨#[32, 9, 10, 13]⟩
theorem cut4_ascii : ∀ (j : Nat) b, cut4.data.toList[j]? = some b → b.toNat < 128 := by
  intro j b h
  have h2 : ([32, 9, 10, 13] : List UInt8)[j]? = some b := h
  match j, h2 with
  | 0, h2 => cases h2; decide
  | 1, h2 => cases h2; decide
  | 2, h2 => cases h2; decide
  | 3, h2 => cases h2; decide
  | j + 4, h2 => cases h2
theorem blk_in (b : UInt8) : cut4.data.toList.contains b = blkL b.toNat := by
  have e : cut4.data.toList = [32, 9, 10, 13] := rfl
  rw [e, Bool.eq_iff_iff]
  have hx : ∀ c : UInt8, (b = c) ↔ (c.toNat = b.toNat) := fun c => ⟨fun e => by rw [e], fun e => (UInt8.toNat_inj.1 e).symm⟩
  simp only [List.contains_cons, List.contains_nil, Bool.or_false, Bool.or_eq_true, beq_iff_eq, hx]
  unfold blkL inL
  simp only [ixF]
  have e1 : (32 : UInt8).toNat = 32 := rfl
  have e2 : (9 : UInt8).toNat = 9 := rfl
  have e3 : (10 : UInt8).toNat = 10 := rfl
  have e4 : (13 : UInt8).toNat = 13 := rfl
  rw [e1, e2, e3, e4]
  generalize b.toNat = n
  by_cases a1 : (32 : Nat) = n
  · simp [a1]
  · by_cases a2 : (9 : Nat) = n
    · simp [a1, a2]
    · by_cases a3 : (10 : Nat) = n
      · simp [a1, a2, a3]
      · by_cases a4 : (13 : Nat) = n
        · simp [a1, a2, a3, a4]
        · simp [a1, a2, a3, a4]
theorem blk_drop (l : List UInt8) : (l.dropWhile (cut4.data.toList.contains ·)).map UInt8.toNat = (l.map UInt8.toNat).dropWhile blkL := by
  induction l with
  | nil => rfl
  | cons b l ih =>
    rw [List.map_cons, List.dropWhile_cons, List.dropWhile_cons, blk_in]
    split
    · exact ih
    · rfl
theorem trimBlk (s : ByteArray) (w : World) : Calls Tryz.prog 83 #[.string s, .string ⟨#[32, 9, 10, 13]⟩] w fun e w' => (∃ t, Sums.bl t = (Sums.bl s).dropWhile blkL ∧ e = .returned (.string t)) ∧ Below w.heap.size w w' := by
  refine Calls.mono (Any.strings_TrimLeft_laid YtkplbggefiemdaaGreatDoor.lays161 YtkplbggefiemdaaGreatDoor.set161 s cut4 w (by decide) cut4_ascii) ?_
  rintro e w' ⟨rfl, hb⟩
  refine ⟨⟨⟨(Lib.trimLeftS s.data.toList cut4.data.toList).toArray⟩, ?_, rfl⟩, hb⟩
  have h := blk_drop s.data.toList
  show List.map UInt8.toNat ((Lib.trimLeftS s.data.toList cut4.data.toList).toArray).toList = _
  rw [List.toList_toArray]
  exact h
theorem put4_below {w a b : World} {R : Nat} {cur : Array Value} {e : TypeId} (h : Below w.heap.size w a) (k : Put4 a b R cur e) (hR : w.heap.size ≤ R) : Below w.heap.size w b := ⟨k.os.trans h.os, k.tape.trans h.tape, k.output.trans h.output, by rw [k.size]; exact h.size, fun j hj => (k.block j (by omega)).trans (h.block j hj)⟩
theorem hasBrace (S : ByteArray) (w : World) : Calls Tryz.prog 82 #[.string S, .string ⟨#[123]⟩] w fun e w' => e = .returned (.bool (hasO 123 (Sums.bl S))) ∧ w' = w := by
  refine Calls.mono (Any.strings_HasPrefix YtkplbggefiemdaaGreatDoor.lays99 S ⟨#[123]⟩ w) ?_
  rintro e w' ⟨rfl, hw⟩
  refine ⟨congrArg (fun b => Ending.returned (.bool b)) ?_, hw⟩
  unfold Sums.bl
  cases S.data.toList with
  | nil => rfl
  | cons b l =>
    rw [List.map_cons]
    simp only [Lib.hasPrefix, hasO, List.isPrefixOf, Bool.and_true]
    rw [Bool.eq_iff_iff]
    simp only [beq_iff_eq]
    constructor
    · rintro rfl; rfl
    · intro e
      exact (UInt8.toNat_inj.1 (by rw [e]; rfl))
set_option maxRecDepth 100000 in
set_option maxHeartbeats 4000000 in
theorem readObj_no (S : ByteArray) (w : World) (hb : braF (Sums.bl S) = false) : Calls Tryz.prog 50 #[.string S] w fun e w' => e = .returned (.tuple #[.agg zr4, .bool false]) ∧ Below w.heap.size w w' := by
  have HB0 : Hid (Below w.heap.size w (w.alloc (.cells #[.int .i64 0, .string ⟨#[]⟩, .slice none 0 0, .slice none 0 0] 41))) := Hid.mk' ((Below.refl _ w).alloc (Nat.le_refl _) _)
  have HX0 := Hid.mk' (heap_alloc_new w (.cells #[.int .i64 0, .string ⟨#[]⟩, .slice none 0 0, .slice none 0 0] 41))
  have HS0 := Hid.mk' (World.size_alloc w (.cells #[.int .i64 0, .string ⟨#[]⟩, .slice none 0 0, .slice none 0 0] 41))
  have HBR := Hid.mk' hb
  clear hb
  go_enter Tryz.func50, Tryz.ntmps50
  go_wp2_with fail
  generalize w.alloc (.cells #[.int .i64 0, .string ⟨#[]⟩, .slice none 0 0, .slice none 0 0] 41) = w1 at HB0 HX0 HS0 ⊢
  refine (trimBlk S w1).mono ?_
  rintro e w2 ⟨⟨T, hT, rfl⟩, hb2⟩
  have HT : Hid (hasO 123 (Sums.bl T) = false) := Hid.mk' (by rw [hT]; exact HBR.out)
  have hx2 := (hb2.block w.heap.size (by have := HS0.out; omega)).trans HX0.out
  have HB2 : Hid (Below w.heap.size w w2) := Hid.mk' (HB0.out.trans ⟨hb2.os, hb2.tape, hb2.output, hb2.size, fun j hj => hb2.block j (by have := HB0.out.size; omega)⟩)
  have HX2 : Hid (w2.heap[w.heap.size]? = some (.cells zr4 41 (0, 0))) := Hid.mk' hx2
  have HH := hasBrace T w2
  rw [HT.out] at HH
  have HHB := Hid.mk' HH
  clear hT hb2 hx2 HH HB0 HX0 HS0
  go_wp2_with fail
  refine HHB.out.mono ?_
  rintro e w3 ⟨rfl, hw3⟩
  have hw4 := hw3.symm
  subst hw4
  clear hw3 HHB
  obtain ⟨r0, r1, r2, r3, z0, z1, z2, z3⟩ := rz_of HX2.out
  go_wp2_with fail
  have hp := put4_res (w := w2) (R := w.heap.size) (.int .i64 0) (.string ⟨#[]⟩) (.slice none 0 0) (.slice none 0 0) HX2.out
  show bodyPost _ _ _ _ _ (put4 w2 w.heap.size 0 (.int .i64 0) (.string ⟨#[]⟩) (.slice none 0 0) (.slice none 0 0))
  generalize put4 w2 w.heap.size 0 (.int .i64 0) (.string ⟨#[]⟩) (.slice none 0 0) (.slice none 0 0) = w6 at hp ⊢
  have hrow := hp.row
  refine ⟨rfl, _, ?_, rfl, put4_below HB2.out hp (Nat.le_refl _)⟩
  simp [results, Tryz.f50, go_sem, World.cell?, hrow]
  rfl
set_option maxRecDepth 100000 in
set_option maxHeartbeats 8000000 in
theorem readObj_ok (S : ByteArray) (v : Vl) (z : Nat) (w : World) (hb : braF (Sums.bl S) = true) (hw : RwT w) (hpa : ∀ X, RwT X → Calls Tryz.prog 18 #[.string S] X ((Rv.ok v z).PostF X)) : Calls Tryz.prog 50 #[.string S] w fun e w' => ∃ cs, e = .returned (.tuple #[.agg cs, .bool true]) ∧ Below w.heap.size w w' ∧ ∃ F : Nat → Prop, (∀ k, F k → w.heap.size ≤ k ∧ k < w'.heap.size) ∧ VlAt F w' v cs := by
  have HB0 : Hid (Below w.heap.size w (w.alloc (.cells #[.int .i64 0, .string ⟨#[]⟩, .slice none 0 0, .slice none 0 0] 41))) := Hid.mk' ((Below.refl _ w).alloc (Nat.le_refl _) _)
  have HX0 := Hid.mk' (heap_alloc_new w (.cells #[.int .i64 0, .string ⟨#[]⟩, .slice none 0 0, .slice none 0 0] 41))
  have HS0 := Hid.mk' (World.size_alloc w (.cells #[.int .i64 0, .string ⟨#[]⟩, .slice none 0 0, .slice none 0 0] 41))
  have HBR := Hid.mk' hb
  have HRW := Hid.mk' hw
  have HPA := Hid.mk' hpa
  clear hb hw hpa
  go_enter Tryz.func50, Tryz.ntmps50
  go_wp2_with fail
  generalize w.alloc (.cells #[.int .i64 0, .string ⟨#[]⟩, .slice none 0 0, .slice none 0 0] 41) = w1 at HB0 HX0 HS0 ⊢
  refine (trimBlk S w1).mono ?_
  rintro e w2 ⟨⟨T, hT, rfl⟩, hb2⟩
  have HT : Hid (hasO 123 (Sums.bl T) = true) := Hid.mk' (by rw [hT]; exact HBR.out)
  have hx2 := (hb2.block w.heap.size (by have := HS0.out; omega)).trans HX0.out
  have HB2 : Hid (Below w.heap.size w w2) := Hid.mk' (HB0.out.trans ⟨hb2.os, hb2.tape, hb2.output, hb2.size, fun j hj => hb2.block j (by have := HB0.out.size; omega)⟩)
  have HX2 : Hid (w2.heap[w.heap.size]? = some (.cells zr4 41 (0, 0))) := Hid.mk' hx2
  have HH := hasBrace T w2
  rw [HT.out] at HH
  have HHB := Hid.mk' HH
  clear hT hb2 hx2 HH HB0 HX0 HS0
  go_wp2_with fail
  refine HHB.out.mono ?_
  rintro e w3 ⟨rfl, hw3⟩
  have hw4 := hw3.symm
  subst hw4
  clear hw3 HHB
  go_wp2_with fail
  refine (HPA.out w2 (HRW.out.below HB2.out HRW.out.lt)).mono ?_
  rintro e w3 ⟨cs, rfl, hb3, F, hF, hv⟩
  obtain ⟨yk, yt, s1, m1, d1, s2, m2, d2, rfl⟩ := hv.form
  have HX3 : Hid (w3.heap[w.heap.size]? = some (.cells zr4 41 (0, 0))) := Hid.mk' ((hb3.block w.heap.size (Array.getElem?_eq_some_iff.1 HX2.out).1).trans HX2.out)
  have HB3 : Hid (Below w.heap.size w w3) := Hid.mk' (HB2.out.trans ⟨hb3.os, hb3.tape, hb3.output, hb3.size, fun j hj => hb3.block j (by have := HB2.out.size; omega)⟩)
  have HF : Hid (∀ k, F k → w.heap.size ≤ k ∧ k < w3.heap.size ∧ k ≠ w.heap.size) := Hid.mk' (fun k hk => by have h1 := hF k hk; have h2 := (Array.getElem?_eq_some_iff.1 HX2.out).1; have := HB2.out.size; omega)
  have HV := Hid.mk' hv
  have HA : Hid (Below w3.heap.size w3 (w3.alloc (.cells #[.int .i64 yk, .string yt, .slice s1 m1 d1, .slice s2 m2 d2] 41))) := Hid.mk' ((Below.refl _ w3).alloc (Nat.le_refl _) _)
  have HN := Hid.mk' (heap_alloc_new w3 (.cells #[.int .i64 yk, .string yt, .slice s1 m1 d1, .slice s2 m2 d2] 41))
  clear hb3 hF hv HB2 HX2 HPA
  go_upto_region 4 with fail
  generalize w3.alloc (.cells #[.int .i64 yk, .string yt, .slice s1 m1 d1, .slice s2 m2 d2] 41) = w4 at HA HN ⊢
  have hX4 := (HA.out.block w.heap.size (Array.getElem?_eq_some_iff.1 HX3.out).1).trans HX3.out
  have hn4 := HN.out
  have c0 : w4.cell? ⟨w3.heap.size, 0, none⟩ = some (.int .i64 yk) := by simp [World.cell?, hn4]
  have c1 : w4.cell? ⟨w3.heap.size, 1, none⟩ = some (.string yt) := by simp [World.cell?, hn4]
  have c2 : w4.cell? ⟨w3.heap.size, 2, none⟩ = some (.slice s1 m1 d1) := by simp [World.cell?, hn4]
  have c3 : w4.cell? ⟨w3.heap.size, 3, none⟩ = some (.slice s2 m2 d2) := by simp [World.cell?, hn4]
  have HX4 := Hid.mk' hX4
  obtain ⟨r0, r1, r2, r3, z0, z1, z2, z3⟩ := rz_of hX4
  have hne : ¬ w3.heap.size = w.heap.size := by have := (Array.getElem?_eq_some_iff.1 HX3.out).1; omega
  have hne2 : ¬ w.heap.size = w3.heap.size := fun e => hne e.symm
  clear hX4 hn4
  go_wp2_with fail
  have hp := put4_res (w := w4) (R := w.heap.size) (.int .i64 yk) (.string yt) (.slice s1 m1 d1) (.slice s2 m2 d2) HX4.out
  show bodyPost _ _ _ _ _ (put4 w4 w.heap.size 0 (.int .i64 yk) (.string yt) (.slice s1 m1 d1) (.slice s2 m2 d2))
  generalize put4 w4 w.heap.size 0 (.int .i64 yk) (.string yt) (.slice s1 m1 d1) (.slice s2 m2 d2) = w6 at hp ⊢
  have hrow := hp.row
  have HB4 : Below w.heap.size w w4 := HB3.out.trans ⟨HA.out.os, HA.out.tape, HA.out.output, HA.out.size, fun j hj => HA.out.block j (by have := HB3.out.size; omega)⟩
  refine ⟨rfl, _, ?_, #[.int .i64 yk, .string yt, .slice s1 m1 d1, .slice s2 m2 d2], rfl, put4_below HB4 hp (Nat.le_refl _), F, fun k hk => ?_, VlAt.keep (fun _ x => x) (fun k hk hl => (hp.block k (HF.out k hk).2.2).trans (HA.out.block k hl)) (by rw [hp.size]; exact HA.out.size) _ _ HV.out⟩
  · simp [results, Tryz.f50, go_sem, World.cell?, hrow]
  · have h1 := HF.out k hk
    have h2 := HA.out.size
    rw [hp.size]
    omega
end Go.Proofs.YtkplbggefiemdaaGreatDoor

namespace Go.Proofs.YtkplbggefiemdaaGreatDoor
open Go.RowKit Go.Shelf
set_option linter.unusedVariables false
set_option linter.unusedSimpArgs false
/-- these are the fields of a line, as far as it is known -/
def LineP (S : ByteArray) (L : List (List Nat × List Nat)) : Prop :=
  S.size ≤ 140737488351232 ∧ ((braF (Sums.bl S) = false ∧ L = wkL (Sums.bl S)) ∨ (∃ (v : Vl) (z : Nat), braF (Sums.bl S) = true ∧ okV 40 v = true ∧ (accV v (0, 0)).1 ≤ 65536 ∧ (accV v (0, 0)).2 ≤ 65536 ∧ (∀ X, RwT X → Calls Tryz.prog 18 #[.string S] X ((Rv.ok v z).PostF X)) ∧ L = flV v []))
/-- a function that goes over these fields -/
def IterP (L : List (List Nat × List Nat)) (w : World) (e : Ending) (w' : World) : Prop :=
  ∃ (gf : Nat) (lb : Array Value) (D : Nat → Prop), e = .returned (.func (.func gf) #[] lb) ∧ Below w.heap.size w w' ∧ (∀ j, D j → j = 5 ∨ w.heap.size ≤ j) ∧ (∀ j, D j → j < w'.heap.size) ∧ (∀ args W, (callFunc gf args).run Tryz.prog W = .ok (.enter gf args) W) ∧ ∀ q, SeqN Fence.wide q Tryz.prog gf lb encP noP (KpD D) (fun ys => ys = L) (fun pre => pre <+: L) w'
set_option maxRecDepth 100000 in
set_option maxHeartbeats 8000000 in
theorem pairs_any (S : ByteArray) (L : List (List Nat × List Nat)) (w : World) (h : LineP S L) (hw : RwT w) (hp : Pow w) (hut : UtT w) : Calls Tryz.prog 24 #[.string S] w (IterP L w) := by
  obtain ⟨hS, h⟩ := h
  have HB0 : Hid (Below w.heap.size w (w.alloc (.cells #[.string S] 9))) := Hid.mk' ((Below.refl _ w).alloc (Nat.le_refl _) _)
  have HX0 := Hid.mk' (heap_alloc_new w (.cells #[.string S] 9))
  have c0 : ∀ X, Below (w.alloc (.cells #[.string S] 9)).heap.size (w.alloc (.cells #[.string S] 9)) X → X.cell? ⟨w.heap.size, 0, none⟩ = some (.string S) := fun X hX => by
    have h1 := (hX.block w.heap.size (Array.getElem?_eq_some_iff.1 HX0.out).1).trans HX0.out
    simp [World.cell?, h1]
  have HC := Hid.mk' c0
  have HRW : Hid (RwT (w.alloc (.cells #[.string S] 9))) := Hid.mk' (hw.below HB0.out hw.lt)
  have HPW := Hid.mk' hp
  have HUT := Hid.mk' hut
  have d0 := c0 _ (Below.refl _ _)
  clear c0 hw hp hut
  rcases h with ⟨hb, hL⟩ | ⟨v, z, hb, hok, ha1, ha2, hpa, hL⟩
  · have HR := Hid.mk' (readObj_no S (w.alloc (.cells #[.string S] 9)) hb)
    have HL := Hid.mk' hL
    clear hb hL
    go_enter Tryz.func24, Tryz.ntmps24
    go_wp2_with fail
    generalize w.alloc (.cells #[.string S] 9) = w1 at HB0 HX0 HC HRW HR d0 ⊢
    refine HR.out.mono ?_
    rintro e w2 ⟨rfl, hb2⟩
    have HC2 := Hid.mk' (HC.out w2 hb2)
    have HB2 : Hid (Below w.heap.size w w2) := Hid.mk' (HB0.out.trans ⟨hb2.os, hb2.tape, hb2.output, hb2.size, fun j hj => hb2.block j (by have := HB0.out.size; omega)⟩)
    have HBA : Hid (∀ o, Below w2.heap.size w2 (w2.alloc o)) := Hid.mk' (fun o => (Below.refl _ w2).alloc (Nat.le_refl _) o)
    clear hb2 HR
    unfold zr4
    go_wp2_with fail
    go_ret
    refine ⟨51, _, (fun _ => False), rfl, HB2.out.trans ⟨(HBA.out _).os, (HBA.out _).tape, (HBA.out _).output, (HBA.out _).size, fun j hj => (HBA.out _).block j (by have := HB2.out.size; omega)⟩, fun j h => h.elim, fun j h => h.elim, enters_of Tryz.func51 (by kernel_rfl) rfl, fun q => ?_⟩
    rw [HL.out]
    exact pairs1_seqN q w.heap.size _ S hS _ (((HBA.out _).cell (p := ⟨w.heap.size, 0, none⟩) (World.block_lt_of_cell? w2 ⟨w.heap.size, 0, none⟩ HC2.out)).trans HC2.out)
  · have HR := Hid.mk' (readObj_ok S v z (w.alloc (.cells #[.string S] 9)) hb HRW.out hpa)
    have HL := Hid.mk' hL
    have HOK := Hid.mk' (And.intro hok (And.intro ha1 ha2))
    clear hb hL hok ha1 ha2 hpa
    go_enter Tryz.func24, Tryz.ntmps24
    go_wp2_with fail
    generalize w.alloc (.cells #[.string S] 9) = w1 at HB0 HX0 HC HRW HR d0 ⊢
    refine HR.out.mono ?_
    rintro e w2 ⟨cs, rfl, hb2, F, hF, hv⟩
    obtain ⟨yk, yt, s1, m1, d1, s2, m2, d2, rfl⟩ := hv.form
    have HB2 : Hid (Below w.heap.size w w2) := Hid.mk' (HB0.out.trans ⟨hb2.os, hb2.tape, hb2.output, hb2.size, fun j hj => hb2.block j (by have := HB0.out.size; omega)⟩)
    have HF := Hid.mk' (fun k hk => (hF k hk).2)
    have HV := Hid.mk' hv
    have HA : Hid (Below w2.heap.size w2 (w2.alloc (.cells #[.int .i64 yk, .string yt, .slice s1 m1 d1, .slice s2 m2 d2] 41))) := Hid.mk' ((Below.refl _ w2).alloc (Nat.le_refl _) _)
    have HN := Hid.mk' (heap_alloc_new w2 (.cells #[.int .i64 yk, .string yt, .slice s1 m1 d1, .slice s2 m2 d2] 41))
    clear hb2 hF hv HR d0
    go_upto_region 3 with fail
    generalize w2.alloc (.cells #[.int .i64 yk, .string yt, .slice s1 m1 d1, .slice s2 m2 d2] 41) = w4 at HA HN ⊢
    have hn4 := HN.out
    have c0 : w4.cell? ⟨w2.heap.size, 0, none⟩ = some (.int .i64 yk) := by simp [World.cell?, hn4]
    have c1 : w4.cell? ⟨w2.heap.size, 1, none⟩ = some (.string yt) := by simp [World.cell?, hn4]
    have c2 : w4.cell? ⟨w2.heap.size, 2, none⟩ = some (.slice s1 m1 d1) := by simp [World.cell?, hn4]
    have c3 : w4.cell? ⟨w2.heap.size, 3, none⟩ = some (.slice s2 m2 d2) := by simp [World.cell?, hn4]
    have HB4 : Hid (Below w.heap.size w w4) := Hid.mk' (HB2.out.trans ⟨HA.out.os, HA.out.tape, HA.out.output, HA.out.size, fun j hj => HA.out.block j (by have := HB2.out.size; omega)⟩)
    have HFL := Hid.mk' (flat_ok v HOK.out.1 HOK.out.2 F _ w4 (VlAt.keep (fun _ x => x) (fun k hk hl => HA.out.block k hl) HA.out.size _ _ HV.out) (fun j hj => Nat.lt_of_lt_of_le (HF.out j hj) HA.out.size) (HPW.out.below HB4.out HPW.out.size) (HUT.out.below HB4.out (Nat.le_refl _)))
    clear hn4 HN HV HF
    go_wp2_with fail
    refine HFL.out.mono ?_
    rintro e w5 ⟨hb5, b, D, cs', rfl, hD3, hDb, hcb, hv5, hDl, hDg⟩
    have HB5 : Hid (Below w.heap.size w w5) := Hid.mk' (HB4.out.trans ⟨hb5.os, hb5.tape, hb5.output, hb5.size, fun j hj => hb5.block j (by have := HB4.out.size; omega)⟩)
    have HS := Hid.mk' (fun q => flat2_seqN q b D hD3 hDb v HOK.out.1 cs' w5 hcb hv5 hDl (HPW.out.below HB5.out HPW.out.size))
    have HDD : Hid ((∀ j, D j → j = 5 ∨ w.heap.size ≤ j) ∧ ∀ j, D j → j < w5.heap.size) := Hid.mk' ⟨fun j hj => (hDg j hj).imp id (fun h => by have := HB4.out.size; omega), hDl⟩
    clear hb5 hD3 hDb hcb hv5 hDl hDg HFL c0 c1 c2 c3
    unfold FlatV
    go_wp2_with fail
    go_ret
    refine ⟨40, _, D, rfl, HB5.out, HDD.out.1, HDD.out.2, enters_of Tryz.func40 (by kernel_rfl) rfl, fun q => ?_⟩
    rw [HL.out]
    exact HS.out q
end Go.Proofs.YtkplbggefiemdaaGreatDoor
