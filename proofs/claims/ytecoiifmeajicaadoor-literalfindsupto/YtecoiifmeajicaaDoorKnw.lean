/-
  The chapter's first examples are so. Conditions: the table of package math/bits lies as its text lays it.
-/
import Derived.Test.YtecoiifmeajicaaDoorAllI
import Derived.Test.YtecoiifmeajicaaDoorLnC
namespace Go.Proofs.YtecoiifmeajicaaDoor
open Go.RowKit Go.Shelf
set_option linter.unusedVariables false
attribute [local go_sem] Oper.semAt_some
theorem nil_all (fn : Fn) (first cap : Array Value) (w : World) : (binOp .eql 51 (.func fn first cap) .nilFunc).run Tryd.prog w = .ok (.bool false) w := by kernel_rfl
theorem nil_fin (g : Nat) (w : World) : (binOp .eql 23 (.pointer (some ⟨g, 0, none⟩)) (.pointer none)).run Tryd.prog w = .ok (.bool false) w := by kernel_rfl
theorem nil_fin2 (w : World) : (binOp .eql 23 (.pointer none) (.pointer none)).run Tryd.prog w = .ok (.bool true) w := by kernel_rfl
theorem ownFrom_keeps {β : Type} {B : Nat} {D : Nat → Prop} {W0 : World} (hD : ∀ k, D k → k < B ∧ k < W0.heap.size) : OwnFrom B (fun (_ : β) W => KeepsB D W0 W) := fun s W W' row hs hg hr k hk => by
  have h1 := hs k hk
  rw [hg.block k (heap_lt h1 (hD k hk).2) (fun e => by
    obtain ⟨h2, _⟩ := hr k e.symm
    have := (hD k hk).1
    omega)]
  exact h1
def pAA : ByteArray := ⟨#[97, 97]⟩
def sXA : ByteArray := ⟨#[120, 97, 97, 97, 97]⟩
def goodK (pre : List Nat) : Prop := ∀ q x, q ++ [x] <+: pre → x = q.length + 1
theorem goodK_nil : goodK [] := fun q x h => by have := List.prefix_nil.1 h; simp at this
theorem goodK_snoc (pre : List Nat) (h : goodK pre) : goodK (pre ++ [pre.length + 1]) := by
  intro q y hq
  by_cases hl : q.length < pre.length
  · exact h q y (List.prefix_of_prefix_length_le hq (List.prefix_append _ _) (by simp; omega))
  · have hle := hq.length_le
    simp at hle
    have e := List.IsPrefix.eq_of_length hq (by simp; omega)
    have e1 := List.append_inj e (by omega)
    obtain ⟨rfl, e2⟩ := e1
    cases e2
    rfl
theorem not_goodK (pre : List Nat) (x : Nat) (h : x ≠ pre.length + 1) : ¬ goodK (pre ++ [x]) := fun g => h (g pre x (List.prefix_refl _))
theorem plL_known : Lit.plL false pAA sXA = [1, 2, 3] := by decide +kernel
theorem goodK_known (pre : List Nat) (h : pre <+: Lit.plL false pAA sXA) : goodK pre := by
  rw [plL_known] at h
  have h3 : goodK [1, 2, 3] := goodK_snoc [1, 2] (goodK_snoc [1] (goodK_snoc [] goodK_nil))
  exact fun q x hq => h3 q x (hq.trans h)
theorem boxed_below {W X : World} {N B : Nat} {t : TypeId} {v : Value} (h : Boxed W B t v) (hX : Below N W X) (hB : B < N) : Boxed X B t v := (hX.block B hB).trans h
theorem fin_box {w W X : World} {b Dd : Nat} (hb : w.heap.size = b) (hB : Below b w W) (hX : Below W.heap.size W X) (hr : Boxed W b 4 (.bool false)) (hD : b < Dd) (hK : W.heap[Dd]? = some (.deferred (some []))) (v : Bool) :
    ((X.setCell ⟨b, 0, none⟩ (.bool v)).putObj Dd (.deferred none)).cell? ⟨b, 0, none⟩ = some (.bool v) ∧ Below w.heap.size w ((X.setCell ⟨b, 0, none⟩ (.bool v)).putObj Dd (.deferred none)) ∧ (X.setCell ⟨b, 0, none⟩ (.bool v)).heap[Dd]? = some (.deferred (some [])) := by
  have hlt : b < W.heap.size := (Array.getElem?_eq_some_iff.1 hr).1
  have hltD : Dd < W.heap.size := (Array.getElem?_eq_some_iff.1 hK).1
  have h1 : Boxed (X.setCell ⟨b, 0, none⟩ (.bool v)) b 4 (.bool v) := (boxed_below hr hX hlt).set _
  have hK' := (KeepsOthers.setCell X ⟨b, 0, none⟩ (.bool v)).same Dd _ ((hX.block Dd hltD).trans hK) rfl
  have hBX : Below b w X := hB.trans (hX.mono (by omega))
  refine ⟨?_, ?_, hK'⟩
  · rw [World.cell?_of_block (a := ⟨b, 0, none⟩) (World.putObj_heap_other (by show b ≠ Dd; omega))]
    exact h1.cell
  · rw [hb]
    exact ((hBX.setCell (p := ⟨b, 0, none⟩) (Nat.le_refl _) _)).trans (belowK_b (w := w) (by omega) _ Dd _ _ (by omega) hK' rfl rfl)
theorem heap_set {W : World} {B k : Nat} (v : Value) (h : k ≠ B) : (W.setCell ⟨B, 0, none⟩ v).heap[k]? = W.heap[k]? := by
  simp only [World.setCell, Array.getElem?_modify]
  rw [if_neg (by show ¬ B = k; omega)]
theorem keepsB_set {D : Nat → Prop} {W : World} {B : Nat} (v : Value) (h : ¬ D B) : KeepsB D W (W.setCell ⟨B, 0, none⟩ v) := fun k hk => heap_set v (fun e => h (by rw [← e]; exact hk))
theorem fnd_k0 : Lit.fndL false pAA sXA 0 = 1 := by decide +kernel
theorem fnd_k4 : Lit.fndL false pAA sXA 4 = -1 := by decide +kernel
theorem cnt_k : Lit.cntL false pAA sXA = 2 := by decide +kernel
def IK (b M : Nat) (w W0 : World) (D : Nat → Prop) (pre : List Nat) (W : World) : Prop :=
  Boxed W (M + 1 + 1) 3 (.int .i64 (pre.length : Int)) ∧ Boxed W b 4 (.bool false) ∧ goodK pre ∧ Below b w W ∧ KeepsB D W0 W
set_option maxRecDepth 100000 in
set_option maxHeartbeats 4000000 in
theorem known_any (w : World) (ht : Tab w) :
    Calls Tryd.prog 9 #[] w fun e w' => e = .returned (.bool true) ∧ Below w.heap.size w w' := by
  refine (callsIn_wide (n := 6)).1 ?_
  obtain ⟨b, hb⟩ : ∃ b, w.heap.size = b := ⟨_, rfl⟩
  have hnf := nil_all
  have hnp := nil_fin
  have hB1 : Below w.heap.size w (w.alloc (.cells #[.bool false] 4)) := (Below.refl _ _).alloc (Nat.le_refl _) _
  have hT1 := ht.below hB1
  have HC := Hid.mk' (compile_ok pAA false 0 (w.alloc (.cells #[.bool false] 4)) (by decide) (by decide) hT1)
  have HB1 := Hid.mk' hB1
  clear hB1
  refine callsIn_of_wp_marks Tryd.func9 rfl trivial ?_ rfl
  simp only [Tryd.ntmps9, List.size_toArray, List.length_nil, Nat.reduceSub, Array.replicate_succ, Array.replicate_zero, List.push_toArray, List.append_toArray, List.nil_append, List.cons_append]
  gi_wp2_with (first
    | (refine ⟨trivial, ?_⟩; gi_at_call 10; refine (callsIn_wide.2 HC.out).mono ?_; rintro e w2 ⟨g, D, rfl, hF, hD, hb2⟩; have HF := Hid.mk' hF; have HD := Hid.mk' hD; have HB2 := Hid.mk' hb2; clear hF hD hb2)
    | (refine ⟨trivial, ?_⟩; gi_at_call 14; refine (callsIn_wide.2 (kernel_any g false pAA _ _ D HF.out)).mono ?_; rintro e w3 ⟨rfl, rfl⟩; rw [show kk 0 pAA.size false = 2 from rfl])
    | (refine ⟨trivial, ?_⟩; gi_at_call 29; refine (callsIn_wide.2 (all_any g sXA _)).mono ?_; rintro e w3 ⟨rfl, rfl⟩))
  obtain ⟨M, hM⟩ : ∃ M, w3.heap.size = M := ⟨_, rfl⟩
  obtain ⟨W0, hW0⟩ : ∃ W0, ((w3.alloc (.cells #[.pointer (some ⟨g, 0, none⟩)] 23)).alloc (.cells #[.string sXA] 9)).alloc (.cells #[.int .i64 0] 3) = W0 := ⟨_, rfl⟩
  have hz : W0.heap.size = M + 3 := by rw [← hW0, ← hM]; simp
  have hb3 : Below b w w3 := by
    have := HB1.out.trans (HB2.out.mono (by simp))
    rwa [hb] at this
  have hbM : b < M := by
    have := HB2.out.size
    simp at this
    omega
  have hM0 : Below M w3 W0 := by
    rw [← hW0, ← hM]
    exact (((Below.refl _ _).alloc (Nat.le_refl _) _).alloc (by simp) _).alloc (by simp; omega) _
  have hB0 : Below b w W0 := hb3.trans (hM0.mono (by omega))
  have x0 : Boxed W0 b 4 (.bool false) := by
    refine boxed_below (boxed_below (?_ : Boxed (w.alloc (.cells #[.bool false] 4)) b 4 (.bool false)) HB2.out (by simp; omega)) hM0 hbM
    rw [← hb]
    exact Boxed.new w 4 _
  have x1 : Boxed W0 M 23 (.pointer (some ⟨g, 0, none⟩)) := by
    rw [← hW0, ← hM]
    exact ((Boxed.new w3 23 _).alloc _).alloc _
  have x2 : Boxed W0 (M + 1) 9 (.string sXA) := by
    rw [← hW0, ← hM]
    have := (Boxed.new (w3.alloc (.cells #[.pointer (some ⟨g, 0, none⟩)] 23)) 9 (.string sXA)).alloc (.cells #[.int .i64 0] 3)
    simpa using this
  have x3 : Boxed W0 (M + 1 + 1) 3 (.int .i64 0) := by
    rw [← hW0, ← hM]
    have := Boxed.new ((w3.alloc (.cells #[.pointer (some ⟨g, 0, none⟩)] 23)).alloc (.cells #[.string sXA] 9)) 3 (.int .i64 0)
    simpa using this
  have hDM : ∀ k, D k → (k = 0 ∨ b < k) ∧ k < M := fun k hk => by
    have := HD.out k hk
    simp at this
    omega
  have hb0 : 0 < b := by rw [← hb]; exact lt_of_cell (ht 0 (by omega))
  have HF0 : Hid (Fnd g false pAA (kk 0 pAA.size false) D W0) := HF.out.keeps (KeepsB.of_below hM0 (fun k hk => (hDM k hk).2))
  rw [hW0, hM]
  clear hW0
  refine wpIn_rangeFunc_ownF rfl (by omega) (gf := 37) (lb := #[.pointer (some ⟨M, 0, none⟩), .pointer (some ⟨M + 1, 0, none⟩)]) rfl trivial (enters_of Tryd.func37 (by kernel_rfl) rfl)
    (all_stops 5 (by omega) M (M + 1) g false pAA sXA _ D (by decide) W0 (fun k hk => by have := (hDM k hk).2; omega) x1.cell x2.cell HF0.out) KeepsB.t (fun W l o o' hl h h1 h2 => keepsB_put (w := W0) (fun k hk => by rcases hk with h | rfl | rfl; have := (hDM k h).2; omega; omega; omega) W l o' hl) (Below.refl _ _) (fun _ => rfl)
    (IK b M w W0 D) (fun c pre W => c = .ret ∧ ¬ goodK pre)
    (OwnFrom.and (Own.from (boxed_own _ _ _) _) (OwnFrom.and (Own.from (boxed_own _ _ _) _) (OwnFrom.and (ownFrom_pure _ _) (OwnFrom.and (ownFrom_below (by omega) (by omega)) (ownFrom_keeps (fun k hk => by have := (hDM k hk).2; omega))))))
    (fun c => ownFrom_pure _ _)
    ⟨x3, x0, goodK_nil, hB0, fun _ _ => rfl⟩
    (fun x => { tmps := #[.pointer (some ⟨b, 0, none⟩), .pointer (some ⟨g, 0, none⟩), .int .i64 0, .func (.func 37) #[] #[.pointer (some ⟨M, 0, none⟩), .pointer (some ⟨M + 1, 0, none⟩)], .pointer (some ⟨M + 1 + 1, 0, none⟩), .int .i64 (x : Int), .tuple #[.pointer (some ⟨g, 0, none⟩), .int .i64 0], .tuple #[.pointer (some ⟨g, 0, none⟩), .int .i64 0], .pointer (some ⟨g, 0, none⟩), .int .i64 0, .int .i64 0, .bool false, .bool false, .pointer (some ⟨g, 0, none⟩), .bool false, .bool false, .bool false, .pointer (some ⟨g, 0, none⟩), .int .i64 2, .bool false, .bool false, .pointer (some ⟨g, 0, none⟩), .func (.func 37) #[] #[.pointer (some ⟨M, 0, none⟩), .pointer (some ⟨M + 1, 0, none⟩)], .func (.func 37) #[] #[.pointer (some ⟨M, 0, none⟩), .pointer (some ⟨M + 1, 0, none⟩)], .bool false, .func (.func 37) #[] #[.pointer (some ⟨M, 0, none⟩), .pointer (some ⟨M + 1, 0, none⟩)], .int .i64 (x : Int), undef, undef, undef, undef, undef, undef, undef, undef, undef, undef, undef, undef, undef, undef, undef, undef, undef, undef, undef, undef, undef, undef, undef, undef, undef, undef, undef], defers := [] }) ?assign ?body ?done ?stop
  case assign =>
    intro l x W K hK
    simp only [encA]
    gi_wp2
    exact hK
  case body =>
    rintro l pre x W ⟨hn, hr, hg, hB, hKp⟩ hlt
    obtain ⟨q, hq⟩ : ∃ q, pre.length = q := ⟨_, rfl⟩
    have hql : q < 3 := by rw [← hq]; have := hlt; rw [plL_known] at this; exact this
    rw [hq] at hn
    have cn := hn.cell
    have fn' := hn.frozen
    have cr := hr.cell
    have fr := hr.frozen
    have hqI : (q : Int) < 3 := by omega
    by_cases hx : x = q + 1
    · subst hx
      have hne : (((q + 1 : Nat) : Int) != (q : Int) + 1) = false := by simp
      have HN := Hid.mk' hn
      have HR := Hid.mk' hr
      have HG : Hid (goodK (pre ++ [q + 1])) := by rw [← hq]; exact goodK_snoc pre hg
      have HB := Hid.mk' hB
      have HKP := Hid.mk' hKp
      have HQ := Hid.mk' hq
      clear hn hr hg hB hKp hq
      gi_wp2
      refine ⟨KeepsOthers.setCell _ _ _, keepsB_set _ (by rintro (h | h | h); have := (hDM _ h).2; omega; omega; omega), ?_, HR.out.other (by omega) _, HG.out, HB.out.setCell (p := ⟨M + 1 + 1, 0, none⟩) (by show b ≤ M + 1 + 1; omega) _, HKP.out.t (keepsB_set _ (fun h => by have := (hDM _ h).2; omega))⟩
      have e3 : ((pre ++ [q + 1]).length : Int) = (q : Int) + 1 := by
        have := HQ.out
        simp
        omega
      rw [e3]
      exact HN.out.set _
    · have hne : ((x : Int) != (q : Int) + 1) = true := by simp; omega
      gi_wp2
      exact ⟨KeepsOthers.setCell _ _ _, rfl, not_goodK pre x (by rw [hq]; exact hx)⟩
  case done =>
    rintro Dd ys W hD rfl ⟨hn, hr, hg, hB, hKp⟩ hK
    have hFW := HF0.out.keeps hKp
    have hDW : ∀ k, D k → k < W.heap.size := fun k hk => by have h1 := (hDM k hk).2; have h2 := heap_lt (hKp k hk) (by omega); exact h2
    rw [plL_known] at hn
    have hnc : W.cell? ⟨M + 1 + 1, 0, none⟩ = some (.int .i64 3) := hn.cell
    have FIN := Hid.mk' (fun X (hX : Below W.heap.size W X) => fin_box hb hB hX hr (by omega) hK true)
    have HR := Hid.mk' hr
    have HFW := Hid.mk' hFW
    have HDW := Hid.mk' hDW
    have HBW : Hid (b < W.heap.size) := (Array.getElem?_eq_some_iff.1 hr).1
    clear hn hr hg hB hKp hFW hDW
    have h1 := Hid.mk' (find_any g false pAA sXA _ 0 W D HFW.out (by decide) (by omega) (by omega))
    have h2 := Hid.mk' (fun X (hX : Below W.heap.size W X) => find_any g false pAA sXA _ 4 X D (HFW.out.keeps (KeepsB.of_below hX HDW.out)) (by decide) (by omega) (by omega))
    have h3 := Hid.mk' (fun X (hX : Below W.heap.size W X) => count_any g false pAA sXA _ X D (HFW.out.keeps (KeepsB.of_below hX HDW.out)) (fun k hk => by have := HDW.out k hk; have := hX.size; omega) (by decide))
    gi_wp2_with (first
      | (refine ⟨trivial, ?_⟩; gi_at_call 17; refine (callsIn_wide.2 h1.out).mono ?_; clear h1; rintro e w5 ⟨rfl, hb5⟩; have HB5 := Hid.mk' hb5; clear hb5; rw [show (0 : Int).toNat = 0 from rfl, fnd_k0])
      | (refine ⟨trivial, ?_⟩; gi_at_call 17; refine (callsIn_wide.2 (h2.out w5 HB5.out)).mono ?_; rintro e w6 ⟨rfl, hb6⟩; have HB6 : Hid (Below W.heap.size W w6) := HB5.out.trans (hb6.mono HB5.out.size); clear hb6; rw [show (4 : Int).toNat = 4 from rfl, fnd_k4])
      | (refine ⟨trivial, ?_⟩; gi_at_call 19; refine (callsIn_wide.2 (h3.out w6 HB6.out)).mono ?_; rintro e w7 ⟨rfl, hb7⟩; have HB7 : Hid (Below W.heap.size W w7) := HB6.out.trans (hb7.mono HB6.out.size); have cr7 : w7.cell? ⟨b, 0, none⟩ = some (.bool false) := (boxed_below HR.out HB7.out HBW.out).cell; have fr7 : w7.frozen? ⟨b, 0, none⟩ = false := (boxed_below HR.out HB7.out HBW.out).frozen; clear hb7; rw [cnt_k])
      | (refine ⟨trivial, ?_⟩; gi_at_call 12; refine (callsIn_wide.2 (choose_any ⟨#[97, 98]⟩ true _ (by decide))).mono ?_; rintro e w8 ⟨rfl, rfl⟩; rw [show chs (⟨#[97, 98]⟩ : ByteArray).size true = 4 from rfl]))
    refine ⟨by simp, .inl ⟨_, _, rfl, run_takeDeferred (FIN.out w8 HB7.out).2.2, ?_⟩⟩
    refine ⟨.bool true, ?_, rfl, (FIN.out w8 HB7.out).2.1⟩
    simp [results, Tryd.f9, go_sem, (FIN.out w8 HB7.out).1]
  case stop =>
    rintro Dd c pre W hD hpre ⟨rfl, hng⟩ hK
    exact (hng (goodK_known pre hpre)).elim
end Go.Proofs.YtecoiifmeajicaaDoor
