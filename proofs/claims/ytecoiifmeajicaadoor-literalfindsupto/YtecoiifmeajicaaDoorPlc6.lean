/-
  What the laws' places and same do. Conditions: as each says.
-/
import Derived.Test.YtecoiifmeajicaaDoorKnw
namespace Go.Proofs.YtecoiifmeajicaaDoor
open Go.RowKit Go.Shelf
set_option linter.unusedVariables false
attribute [local go_sem] Oper.semAt_some
def intv (l : List Nat) : List Value := l.map fun z : Nat => Value.int .i64 ((z : Nat) : Int)
theorem intv_len (l : List Nat) : (intv l).length = l.length := by simp [intv]
theorem infoI : (Tryd.prog.info? 3).map (fun i => (i.zero, i.size, i.bytes)) = some (some (.int .i64 0), 1, 8) := by kernel_rfl
theorem infoI_parts : ∃ i, Tryd.prog.info? 3 = some i ∧ i.zero = some (.int .i64 0) ∧ i.size = 1 ∧ i.bytes = 8 := by
  have h := infoI
  cases hq : Tryd.prog.info? 3 with
  | none => rw [hq] at h; cases h
  | some i =>
    rw [hq] at h
    simp only [Option.map_some, Option.some.injEq, Prod.mk.injEq] at h
    exact ⟨i, rfl, h.1, h.2.1, h.2.2⟩
def IP (b g : Nat) (s : ByteArray) (w : World) (pre : List Nat) (W : World) : Prop :=
  (∃ v, Boxed W b 34 v ∧ W.ownsRow b 3 1 v pre.length (intv pre) ∧ True) ∧ Boxed W (b + 1) 23 (.pointer (some ⟨g, 0, none⟩)) ∧ Boxed W (b + 1 + 1) 9 (.string s) ∧ Below b w W
set_option maxRecDepth 100000 in
set_option maxHeartbeats 4000000 in
theorem places_any (g : Nat) (fold : Bool) (p s : ByteArray) (k : Int) (D : Nat → Prop) (w : World) (hF : Fnd g fold p k D w) (hD : ∀ k, D k → k < w.heap.size) (hs : s.size ≤ 17592186044000) :
    Calls Tryd.prog 23 #[.pointer (some ⟨g, 0, none⟩), .string s] w fun e w' => ∃ v, e = .returned v ∧ w'.ownsRow w.heap.size 3 1 v (Lit.plL fold p s).length (intv (Lit.plL fold p s)) ∧ Below w.heap.size w w' := by
  refine (callsIn_wide (n := 6)).1 ?_
  obtain ⟨i0, hi, hz0, hz1, hz2⟩ := infoI_parts
  obtain ⟨b, hb⟩ : ∃ b, w.heap.size = b := ⟨_, rfl⟩
  have hnf := nil_all
  have HF := Hid.mk' hF
  have HD := Hid.mk' hD
  clear hF hD
  refine callsIn_of_wp_marks Tryd.func23 rfl trivial ?_ rfl
  simp only [Tryd.ntmps23, List.size_toArray, List.length_cons, List.length_nil, Nat.reduceAdd, Nat.reduceSub, Array.replicate_succ, Array.replicate_zero, List.push_toArray, List.append_toArray, List.nil_append, List.cons_append]
  gi_wp2_with (refine ⟨trivial, ?_⟩; gi_at_call 29; refine (callsIn_wide.2 (all_any g s _)).mono ?_; rintro e w3 ⟨rfl, rfl⟩)
  obtain ⟨W0, hW0⟩ : ∃ W0, ((w.alloc (.cells #[.slice none 0 0] 34)).alloc (.cells #[.pointer (some ⟨g, 0, none⟩)] 23)).alloc (.cells #[.string s] 9) = W0 := ⟨_, rfl⟩
  have hz : W0.heap.size = b + 3 := by rw [← hW0, ← hb]; simp
  have hB0 : Below b w W0 := by
    rw [← hW0, ← hb]
    exact (((Below.refl _ _).alloc (Nat.le_refl _) _).alloc (by simp) _).alloc (by simp; omega) _
  have x0 : Boxed W0 b 34 (.slice none 0 0) := by
    rw [← hW0, ← hb]
    exact ((Boxed.new w 34 _).alloc _).alloc _
  have x1 : Boxed W0 (b + 1) 23 (.pointer (some ⟨g, 0, none⟩)) := by
    rw [← hW0, ← hb]
    have := (Boxed.new (w.alloc (.cells #[.slice none 0 0] 34)) 23 (.pointer (some ⟨g, 0, none⟩))).alloc (.cells #[.string s] 9)
    simpa using this
  have x2 : Boxed W0 (b + 1 + 1) 9 (.string s) := by
    rw [← hW0, ← hb]
    have := Boxed.new ((w.alloc (.cells #[.slice none 0 0] 34)).alloc (.cells #[.pointer (some ⟨g, 0, none⟩)] 23)) 9 (.string s)
    simpa using this
  have hDb : ∀ k, D k → k < b := fun k hk => by rw [← hb]; exact HD.out k hk
  have HF0 : Hid (Fnd g fold p k D W0) := HF.out.keeps (KeepsB.of_below hB0 hDb)
  rw [hW0]
  clear hW0
  refine wpIn_rangeFunc_ownF rfl (by omega) (gf := 37) (lb := #[.pointer (some ⟨b + 1, 0, none⟩), .pointer (some ⟨b + 1 + 1, 0, none⟩)]) rfl trivial (enters_of Tryd.func37 (by kernel_rfl) rfl)
    (all_stops 5 (by omega) (b + 1) (b + 1 + 1) g fold p s k D (by omega) W0 (fun k hk => by have := hDb k hk; omega) x1.cell x2.cell HF0.out) KeepsB.t (fun W l o o' hl h h1 h2 => keepsB_put (w := W0) (fun k hk => by rcases hk with h | rfl | rfl; have := hDb k h; omega; omega; omega) W l o' hl) (Below.refl _ _) (fun _ => rfl)
    (IP b g s w) (fun c pre W => False)
    (OwnFrom.and (Own.from (holdsRow_own b b 34 3 1 _ _ _) _) (OwnFrom.and (Own.from (boxed_own _ _ _) _) (OwnFrom.and (Own.from (boxed_own _ _ _) _) (ownFrom_below (by omega) (by omega)))))
    (fun c => ownFrom_pure _ _)
    ⟨⟨_, x0, World.ownsRow_nil W0 b 3 1, trivial⟩, x1, x2, hB0⟩
    (fun x => { tmps := #[.pointer (some ⟨g, 0, none⟩), .string s, undef, undef, .slice none 0 0, .pointer (some ⟨b, 0, none⟩), .func (.func 37) #[] #[.pointer (some ⟨b + 1, 0, none⟩), .pointer (some ⟨b + 1 + 1, 0, none⟩)], .int .i64 (x : Int), .pointer (some ⟨g, 0, none⟩), .string s, .func (.func 37) #[] #[.pointer (some ⟨b + 1, 0, none⟩), .pointer (some ⟨b + 1 + 1, 0, none⟩)], .func (.func 37) #[] #[.pointer (some ⟨b + 1, 0, none⟩), .pointer (some ⟨b + 1 + 1, 0, none⟩)], .bool false, undef, .func (.func 37) #[] #[.pointer (some ⟨b + 1, 0, none⟩), .pointer (some ⟨b + 1 + 1, 0, none⟩)], .int .i64 (x : Int), undef, undef, undef, undef, undef], defers := [] }) ?assign ?body ?done ?stop
  case assign =>
    intro l x W K hK
    simp only [encA]
    gi_wp2
    exact hK
  case body =>
    rintro l pre x W ⟨⟨v, hv, hrow, _⟩, h1, h2, hB⟩ hlt
    obtain ⟨p', cp, rfl⟩ := slice_shape hrow
    have hpl : (Lit.plL fold p s).length ≤ s.size + 1 := Lit.plcF_len fold p s (s.size + 1) 0
    obtain ⟨q, hq⟩ : ∃ q, pre.length = q := ⟨_, rfl⟩
    have hql : q ≤ s.size := by omega
    rw [hq] at hv hrow
    have cv := hv.cell
    have hbW : b ≤ W.heap.size := by have := hB.size; omega
    have HV := Hid.mk' hv
    have HR := Hid.mk' hrow
    have H1 := Hid.mk' h1
    have H2 := Hid.mk' h2
    have HB := Hid.mk' hB
    have HQ := Hid.mk' hq
    clear hv hrow h1 h2 hB hq
    gi_wp2_with (gi_at_builtin; refine stopApp _ _ _ _ rfl ?_)
    apply Hid.mk'
    have hcn := cell_one_new W (.int .i64 (x : Int)) 3
    refine wpListIn_append_own _ rfl _ _ 34 rfl b 3 i0 (.int .i64 0) 1 8 Tryd.underlying34 hi hz0 hz1 hz2 rfl (by decide) _ _ _ rfl (HR.out.alloc _) ⟨W.heap.size, 0, none⟩ 1 1 [.int .i64 (x : Int)] rfl rfl hcn (by simp [Value.oneCell']) (by unfold maxLen; omega) (by omega) (by simp only [World.size_alloc]; omega) ?_
    intro v' w6 ho6 hg6 _
    have A6 := boxed_app (HV.out.alloc _) (by decide) (HR.out.alloc _) (by simp only [World.size_alloc]; omega) (by omega) ho6 hg6
    obtain ⟨p6, c6, rfl⟩ := slice_shape ho6
    obtain ⟨a0, a1, a2, a3, a4, a5⟩ := A6
    have y1 := a5 _ _ _ (H1.out.alloc _) (by decide) (by omega)
    have y2 := a5 _ _ _ (H2.out.alloc _) (by decide) (by omega)
    have c60 := a0.cell
    have f60 := a0.frozen
    have HY := Hid.mk' (And.intro a1 (And.intro a2 (And.intro a3 a4)))
    have HYX := Hid.mk' (And.intro y1 y2)
    clear a0 a1 a2 a3 a4 a5 y1 y2 ho6 hg6
    gi_wp2
    have hBW : Below b W (w6.setCell ⟨b, 0, none⟩ (.slice p6 (q + 1) c6)) := ((Below.refl b W).alloc hbW _).trans HY.out.2.2.2
    refine ⟨(KeepsOthers.alloc _ _).trans HY.out.2.2.1, ?_, ⟨_, HY.out.1, ?_, trivial⟩, HYX.out.1, HYX.out.2, HB.out.trans hBW⟩
    · rintro j (h | rfl | rfl)
      · exact hBW.block j (hDb j h)
      · exact (show _ = _ from HYX.out.1).trans (show _ = _ from H1.out).symm
      · exact (show _ = _ from HYX.out.2).trans (show _ = _ from H2.out).symm
    · have e1 : (pre ++ [x]).length = q + 1 := by have := HQ.out; simp; omega
      have e2 : intv (pre ++ [x]) = intv pre ++ [.int .i64 (x : Int)] := by simp [intv]
      rw [e1, e2]
      exact HY.out.2.1
  case done =>
    rintro Dd ys W hD rfl ⟨⟨v, hv, hrow, _⟩, h1, h2, hB⟩ hK
    have cv := hv.cell
    obtain ⟨p', cp, rfl⟩ := slice_shape hrow
    have hltD : Dd < W.heap.size := (Array.getElem?_eq_some_iff.1 hK).1
    have hB2 : Below b w (W.putObj Dd (.deferred none)) := hB.trans (belowK_b (w := w) (by omega) _ Dd _ _ (by omega) hK rfl rfl)
    have hr2 : (W.putObj Dd (.deferred none)).ownsRow b 3 1 (.slice p' (Lit.plL fold p s).length cp) (Lit.plL fold p s).length (intv (Lit.plL fold p s)) := by
      refine hrow.kept (grownBy_putObj' W Dd (.deferred none)) ?_
      rcases hrow.2 with ⟨e, _⟩ | ⟨g', cap, cur, e, _, hgb, _⟩
      · rw [e]; exact .inl rfl
      · refine .inr ?_
        rw [e]
        simp only [Value.ownBlock]
        intro e2
        cases e2
        rw [hK] at hgb
        cases hgb
    have HX := Hid.mk' (And.intro hB2 hr2)
    clear hv hrow h1 h2 hB hB2 hr2
    gi_wp2
    refine ⟨by simp, .inl ⟨_, _, rfl, run_takeDeferred hK, ?_⟩⟩
    refine ⟨.slice p' (Lit.plL fold p s).length cp, ?_, _, rfl, ?_, ?_⟩
    · simp [results, Tryd.f23, go_sem]
    · rw [hb]; exact HX.out.2
    · rw [hb]; exact HX.out.1
  case stop =>
    rintro Dd c pre W hD hpre h hK
    exact h.elim
set_option maxHeartbeats 1000000 in
theorem same_empty (p1 p2 : Option Addr) (c1 c2 : Nat) (w : World) : Calls Tryd.prog 25 #[.slice p1 0 c1, .slice p2 0 c2] w fun e w' => e = .returned (.bool true) ∧ ∃ n, w' = w.drewN n := by
  go_enter Tryd.func25, Tryd.ntmps25
  go_wp2_with fail
  refine wp_loop_rounds 1 ?_
  rw [rounds_succ]
  go_wp2_with fail
  go_ret
  exact ⟨rfl, 0, rfl⟩
set_option maxHeartbeats 1000000 in
theorem same_cells (g1 g2 c1 c2 n : Nat) (f : Nat → Nat) (w : World) (hn : n ≤ 1125899906842624) (h1 : ∀ i, i < n → w.cell? ⟨g1, i, none⟩ = some (.int .i64 (f i : Int))) (h2 : ∀ i, i < n → w.cell? ⟨g2, i, none⟩ = some (.int .i64 (f i : Int))) :
    Calls Tryd.prog 25 #[.slice (some ⟨g1, 0, none⟩) n c1, .slice (some ⟨g2, 0, none⟩) n c2] w fun e w' => e = .returned (.bool true) ∧ ∃ n, w' = w.drewN n := by
  have H1 := Hid.mk' h1
  have H2 := Hid.mk' h2
  clear h1 h2
  have hne : ((n : Int) != (n : Int)) = false := by simp
  go_enter Tryd.func25, Tryd.ntmps25
  go_wp2_with fail
  go_loopw [5] (fun i wr => ∃ k : Nat, k ≤ n ∧ i = .int .i64 (k : Int) ∧ Hid (∃ n, wr = w.drewN n)) (fun i _ => n - (intOf i).toNat)
  case atStart => exact ⟨0, by omega, rfl, 0, rfl⟩
  case round =>
    obtain ⟨k, hk, rfl, HW⟩ := hrel
    by_cases hlt : k < n
    · have hlI : (k : Int) < (n : Int) := by omega
      have k1 : wr.cell? ⟨g1, k, none⟩ = some (.int .i64 (f k : Int)) := by obtain ⟨n, rfl⟩ := HW.out; exact H1.out k hlt
      have k2 : wr.cell? ⟨g2, k, none⟩ = some (.int .i64 (f k : Int)) := by obtain ⟨n, rfl⟩ := HW.out; exact H2.out k hlt
      generalize f k = x at *
      have hne2 : ((x : Int) != (x : Int)) = false := by simp
      go_wp2_with fail
      go_quiet (fail)
      have HW3 : Hid (∃ n, wr.drewN nq = w.drewN n) := by obtain ⟨n, rfl⟩ := HW.out; exact ⟨n + nq, drew_drew _ _ _⟩
      generalize wr.drewN nq = W3 at *
      go_wp2_with fail
      go_roundw
      case rel => exact ⟨k + 1, by omega, by go_num, HW3.out⟩
      case measure => simp [intOf]; omega
    · have hlI : ¬ (k : Int) < (n : Int) := by omega
      go_wp2_with fail
      go_ret
      exact ⟨rfl, HW.out⟩
theorem own_cells {w : World} {b : Nat} {v : Value} {l : List Nat} (h : w.ownsRow b 3 1 v l.length (intv l)) : (v = .slice none 0 0 ∧ l = []) ∨ ∃ g c, v = .slice (some ⟨g, 0, none⟩) l.length c ∧ b ≤ g ∧ g < w.heap.size ∧ ∀ i, i < l.length → w.cell? ⟨g, i, none⟩ = some (.int .i64 (l.getD i 0 : Int)) := by
  rcases h.2 with ⟨rfl, h0⟩ | ⟨g, cap, cur, rfl, hb, hg, _⟩
  · exact .inl ⟨rfl, List.length_eq_zero_iff.1 h0⟩
  · refine .inr ⟨g, cap, rfl, hb, (Array.getElem?_eq_some_iff.1 hg).1, fun i hi => ?_⟩
    rw [h.cellAt i (by omega)]
    unfold intv
    rw [List.getElem?_map, List.getElem?_eq_getElem hi, List.getD_eq_getElem?_getD, List.getElem?_eq_getElem hi]
    rfl
/-- two rows of one list; a row that is nil is one only if the list is empty -/
theorem same_any (b1 b2 : Nat) (v1 v2 : Value) (l : List Nat) (w : World) (hl : l.length ≤ 1125899906842624) (h1 : w.ownsRow b1 3 1 v1 l.length (intv l)) (h2 : w.ownsRow b2 3 1 v2 l.length (intv l)) :
    Calls Tryd.prog 25 #[v1, v2] w fun e w' => e = .returned (.bool true) ∧ ∃ n, w' = w.drewN n := by
  by_cases h0 : l = []
  · subst h0
    obtain ⟨p1, c1, rfl⟩ := slice_shape h1
    obtain ⟨p2, c2, rfl⟩ := slice_shape h2
    exact same_empty p1 p2 c1 c2 w
  · rcases own_cells h1 with ⟨_, e⟩ | ⟨g1, c1, rfl, _, _, k1⟩
    · exact absurd e h0
    · rcases own_cells h2 with ⟨_, e⟩ | ⟨g2, c2, rfl, _, _, k2⟩
      · exact absurd e h0
      · exact same_cells g1 g2 c1 c2 l.length (fun i => l.getD i 0) w hl k1 k2
end Go.Proofs.YtecoiifmeajicaaDoor
