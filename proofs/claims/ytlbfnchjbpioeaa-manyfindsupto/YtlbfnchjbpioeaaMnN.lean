/-
  (*many.Set).Has: which words stand in a text. Conditions: as each says.
-/
import Derived.Test.YtlbfnchjbpioeaaMnM
namespace Mn
def seen (pre : List (Nat × Nat)) (j : Nat) : Bool := pre.any fun x => x.2 == j
theorem seen_snoc (pre : List (Nat × Nat)) (x : Nat × Nat) (j : Nat) : seen (pre ++ [x]) j = (seen pre j || x.2 == j) := by simp [seen]
def cntS (m : Nat) (pre : List (Nat × Nat)) : Nat := ((List.range m).filter fun j => seen pre j).length
theorem cntS_le (m : Nat) (pre : List (Nat × Nat)) : cntS m pre ≤ m := by
  have := List.length_filter_le (fun j => seen pre j) (List.range m)
  simpa [cntS] using this
theorem cntS_same (m : Nat) (pre : List (Nat × Nat)) (x : Nat × Nat) (h : seen pre x.2 = true) : cntS m (pre ++ [x]) = cntS m pre := by
  unfold cntS
  congr 1
  apply List.filter_congr
  intro j _
  rw [seen_snoc]
  by_cases e : x.2 = j
  · subst e
    simp [h]
  · simp [e]
theorem cntS_more : ∀ (m : Nat) (pre : List (Nat × Nat)) (x : Nat × Nat), seen pre x.2 = false → cntS m (pre ++ [x]) = cntS m pre + if x.2 < m then 1 else 0
  | 0, pre, x, h => by simp [cntS]
  | m + 1, pre, x, h => by
    have ih := cntS_more m pre x h
    unfold cntS at ih ⊢
    rw [List.range_succ, List.filter_append, List.filter_append, List.length_append, List.length_append, ih]
    rw [List.filter_cons, List.filter_cons, List.filter_nil, List.filter_nil, seen_snoc]
    by_cases e : x.2 = m
    · rw [← e, h]
      simp
    · have e2 : (x.2 == m) = false := by simp [e]
      rw [e2, Bool.or_false]
      by_cases h1 : x.2 < m
      · have h2 : x.2 < m + 1 := by omega
        simp only [h1, h2, if_true]
        omega
      · have h2 : ¬ x.2 < m + 1 := by omega
        simp only [h1, h2, if_false]
        omega
theorem cntS_all {m : Nat} {pre : List (Nat × Nat)} (h : cntS m pre = m) : ∀ j, j < m → seen pre j = true := by
  unfold cntS at h
  have h2 : ((List.range m).filter fun j => seen pre j).length = (List.range m).length := by rw [h, List.length_range]
  have h3 := List.length_filter_eq_length_iff.1 h2
  intro j hj
  exact h3 j (by simpa using hj)
theorem seen_pre {pre all : List (Nat × Nat)} (h : pre <+: all) {j : Nat} (hs : seen pre j = true) : seen all j = true := by
  unfold seen at *
  rw [List.any_eq_true] at *
  obtain ⟨x, h1, h2⟩ := hs
  exact ⟨x, h.subset h1, h2⟩
theorem mem_all {W : List (List Nat)} {T : List Nat} {p v : Nat} (h : (p, v) ∈ allF W T) : ∃ k, p = k + 1 ∧ k < T.length ∧ v ∈ wsuf W (T.take (k + 1)) := by
  unfold allF allK at h
  rw [List.mem_flatMap] at h
  obtain ⟨k, h1, h2⟩ := h
  rw [List.mem_map] at h2
  obtain ⟨w, h3, h4⟩ := h2
  simp only [Prod.mk.injEq] at h4
  exact ⟨k, h4.1.symm, by simpa using h1, by rw [← h4.2]; exact h3⟩
theorem all_lt {W : List (List Nat)} (hn : W.Nodup) {T : List Nat} {p v : Nat} (h : (p, v) ∈ allF W T) : v < W.length ∧ p ≤ T.length := by
  obtain ⟨k, h1, h2, h3⟩ := mem_all h
  obtain ⟨x, h4, _⟩ := (mem_wsuf hn _ v).1 h3
  exact ⟨(List.getElem?_eq_some_iff.1 h4).1, by omega⟩
/-- which words stand there -/
def hasL (W : List (List Nat)) (T : List Nat) : List Nat := (List.range 64).filter fun j => seen (allF W T) j
end Mn
namespace Go.Proofs.Ytlbfnchjbpioeaa
open Go.RowKit Go.Shelf
set_option linter.unusedVariables false
attribute [local go_sem] Oper.semAt_some
def intL (l : List Nat) : List Value := l.map fun (z : Nat) => Value.int .i64 (z : Int)
structure HsI (b : Nat) (sb : Nat) (m : Nat) (s : ByteArray) (w : World) (pre : List (Nat × Nat)) (V : World) : Prop where
  st : V.heap[b]? = some (.cells (rowV (fun j => .bool (Mn.seen pre j)) 64).toArray 87 (0, 0))
  lf : V.heap[b + 1]? = some (.cells #[.int .i64 ((m : Int) - (Mn.cntS m pre : Int))] 3 (0, 0))
  bs : V.heap[b + 2]? = some (.cells #[.pointer (some ⟨sb, 0, none⟩)] 25 (0, 0))
  bt : V.heap[b + 3]? = some (.cells #[.string s] 9 (0, 0))
  bel : Below b w V
  siz : b + 4 ≤ V.heap.size
theorem HsI.ab {b sb m : Nat} {s : ByteArray} {w : World} {pre : List (Nat × Nat)} {X Y : World} {row : Option Nat} (h : HsI b sb m s w pre X) (hw : b ≤ w.heap.size) (hg : X.grownBy Y row) (hr : ∀ r, row = some r → b + 4 ≤ r) : HsI b sb m s w pre Y := by
  have hs := h.siz
  have k : ∀ i, i < b + 4 → Y.heap[i]? = X.heap[i]? := fun i hi => hg.block i (by omega) (fun e => by have := hr i e.symm; omega)
  exact ⟨(k b (by omega)).trans h.st, (k _ (by omega)).trans h.lf, (k _ (by omega)).trans h.bs, (k _ (by omega)).trans h.bt, h.bel.trans ⟨hg.os, hg.tape, hg.output, hg.size, fun i hi => k i (by omega)⟩, Nat.le_trans hs hg.size⟩
theorem zeroB : (Try.prog.info? 87).map (fun i => (i.zero, i.size)) = some (some (.agg (rowV (fun _ => .bool false) 64).toArray), 64) := by kernel_rfl
theorem wp_world {F : Fence} {n : Nat} {P : Program} {c : Code} {Q : Exit → Act → World → Prop} {a : Act} {V : World} (V' : World) (e : V = V') (h : Code.wpIn F n P c Q a V') : Code.wpIn F n P c Q a V := e ▸ h
theorem wpListIn_load_row {F : Fence} {n : Nat} {P : Program} {ops : Array Oper} {rest : List Oper} {o : Oper} {a : Act} {w : World} {Q : Exit → Act → World → Prop} (hgd : o.guard = none) (ty : TypeId) (x : Operand) (ho : o.op = .load ty x)
    (g : Nat) (hx : a.eval x = .pointer (some ⟨g, 0, none⟩)) (t : TypeId) (cs : Array Value) (fr : Nat × Nat) (d : TypeDesc) (hg : w.heap[g]? = some (.cells cs t fr))
    (hu : P.underlying ty = some d) (hd : (match d with | .struct _ | .array _ _ => true | _ => false) = true) (hi : (P.info? ty).map (·.size) = some cs.size)
    (h : wpListIn F n P ops Q rest (a.put o.dst (.agg cs)) w) : wpListIn F n P ops Q (o :: rest) a w := by
  refine wpListIn_plain hgd fun K hK => ?_
  unfold Oper.wpIn
  refine ⟨by simp [Oper.about, ho], ?_⟩
  rw [Oper.semAt_plain F _ _ (by rw [ho]; intro c hc'; cases hc')]
  simp only [execOp, ho, hx, Instr.loadAt, Instr.sureAddr, Sem.run_bind, Sem.run_pure, Result.andThen_ok, run_loadVar_row w g t ty cs fr d hg hu hd hi]
  exact hK _ _ h
theorem stopApp {F : Fence} {n' : Nat} {P : Program} {ops : Array Oper} {rest : List Oper} {o : Oper} {a : Act} {Q : Exit → Act → World → Prop} {w : World} (sl x : Operand) (t u : TypeId)
    (ho : o.op = .call { callee := .builtin .append, args := #[sl, x], argTypes := #[t, u] }) (h : Hid (wpListIn F n' P ops Q (o :: rest) a w)) : wpListIn F n' P ops Q (o :: rest) a w := h.out
theorem stopLoad {F : Fence} {n' : Nat} {P : Program} {ops : Array Oper} {rest : List Oper} {o : Oper} {a : Act} {Q : Exit → Act → World → Prop} {w : World} (x : Operand) (t : TypeId)
    (ho : o.op = .load t x) (h : Hid (wpListIn F n' P ops Q (o :: rest) a w)) : wpListIn F n' P ops Q (o :: rest) a w := h.out
theorem int_news (w : World) (x : Value) (t : TypeId) {B : Nat} (hB : B = w.heap.size) : ∀ (j : Nat) (u : Value), [x][j]? = some u → (w.alloc (.cells #[x] t)).cell? ((⟨B, 0, none⟩ : Addr).add j) = some u := by
  intro j u hu
  subst hB
  have hj : j < 1 := (List.getElem?_eq_some_iff.1 hu).1
  have := heap_alloc_new w (.cells #[x] t)
  obtain rfl : j = 0 := by omega
  rw [Addr.add_lit]
  simp only [World.cell?]
  rw [this]
  exact hu
theorem int_one (a : Int) : ∀ u ∈ [Value.int .i64 a], u.oneCell' = true := by
  intro u hu
  simp at hu
  subst hu
  rfl
theorem own_relI {w wr w1 : World} {v : Value} {B n : Nat} {xs : List Value} {o : Obj} (hB : B ≤ wr.heap.size) (hown : wr.ownsRow B 3 1 v n xs) (hb : Below B w wr) (hg : (wr.alloc o).grownBy w1 v.ownBlock) : Below B w w1 :=
  (hb.alloc hB o).grown hg (by simp; omega) (fun k hk => (hown.lt k hk).1)
theorem infoI : (Try.prog.info? 3).map (fun i => (i.zero, i.size, i.bytes)) = some (some (.int .i64 0), 1, 8) := by kernel_rfl
theorem idx_arr (F : Nat → Bool) (k : Nat) (hk : k < 64) (w : World) : (Instr.index 87 (.agg (rowV (fun j => .bool (F j)) 64).toArray) (.int .i64 (k : Int))).run Try.prog w = .ok (.bool (F k)) w := by
  have hn : (0 : Int) ≤ (k : Int) ∧ (k : Int) < (64 : Nat) := by omega
  have hg := rowV_get (fun j => Value.bool (F j)) 64 k hk
  have hga : (rowV (fun j => Value.bool (F j)) 64).toArray[k]? = some (.bool (F k)) := by rw [List.getElem?_toArray]; exact hg
  simp [Instr.index, run_underlying Try.underlying87, asIntOf, hk, go_sem]
  rw [hg]
  rfl
set_option maxRecDepth 100000 in
set_option maxHeartbeats 4000000 in
theorem has_any (B sb : Nat) (W : List (List Nat)) (fold : Bool) (s : ByteArray) (w : World) (h : ManyM B sb W fold w) (hw : Wok W) (hs : s.size ≤ 1125899906842624) :
    Calls Try.prog 23 #[.pointer (some ⟨sb, 0, none⟩), .string s] w fun e w' => ∃ v, e = .returned v ∧ w'.ownsRow w.heap.size 3 1 v (Mn.hasL W (tx fold s)).length (intL (Mn.hasL W (tx fold s))) ∧ Below w.heap.size w w' := by
  refine (callsIn_wide (n := 6)).1 ?_
  obtain ⟨g, cn, g2, cw, h⟩ := h
  obtain ⟨b, hb⟩ : ∃ b, w.heap.size = b := ⟨_, rfl⟩
  obtain ⟨m, hm⟩ : ∃ m, W.length = m := ⟨_, rfl⟩
  obtain ⟨s0, s1, _, _⟩ := h.st0
  rw [hm] at s1
  have hsb := h.lt
  have s1a : ∀ o, (w.alloc o).cell? ⟨sb, 1, none⟩ = some (.slice (some ⟨g2, 0, none⟩) m cw) := fun o => (World.cell?_of_block (a := ⟨sb, 1, none⟩) (Below.heap_alloc w o sb hsb)).trans s1
  refine callsIn_of_wp_marks Try.func23 rfl trivial ?_ rfl
  simp only [Try.ntmps23, List.size_toArray, List.length_cons, List.length_nil, Nat.reduceAdd, Nat.reduceSub, Array.replicate_succ, Array.replicate_zero, List.push_toArray, List.append_toArray, List.nil_append, List.cons_append]
  gi_wp2_with (refine ⟨trivial, ?_⟩; gi_at_call 19; refine (callsIn_wide.2 (all_any sb s _)).mono ?_; rintro e w' ⟨rfl, rfl⟩)
  obtain ⟨W4, hW4⟩ : ∃ W4, ((((w.alloc (.cells (rowV (fun _ => .bool false) 64).toArray 87)).alloc (.cells #[.int .i64 (m : Int)] 3)).alloc (.cells #[.pointer (some ⟨sb, 0, none⟩)] 25)).alloc (.cells #[.string s] 9)) = W4 := ⟨_, rfl⟩
  refine wp_world W4 hW4 ?_
  have hz4 : W4.heap.size = b + 4 := by rw [← hW4, ← hb]; simp
  have hI0 : HsI b sb m s w [] W4 := by
    have n1 := heap_alloc_new w (.cells (rowV (fun _ => .bool false) 64).toArray 87)
    obtain ⟨V1, hV1⟩ : ∃ V1, w.alloc (.cells (rowV (fun _ => .bool false) 64).toArray 87) = V1 := ⟨_, rfl⟩
    have z1 : V1.heap.size = b + 1 := by rw [← hV1, ← hb]; simp
    have n2 := heap_alloc_new V1 (.cells #[.int .i64 (m : Int)] 3)
    obtain ⟨V2, hV2⟩ : ∃ V2, V1.alloc (.cells #[.int .i64 (m : Int)] 3) = V2 := ⟨_, rfl⟩
    have z2 : V2.heap.size = b + 2 := by rw [← hV2]; simp [z1]
    have n3 := heap_alloc_new V2 (.cells #[.pointer (some ⟨sb, 0, none⟩)] 25)
    obtain ⟨V3, hV3⟩ : ∃ V3, V2.alloc (.cells #[.pointer (some ⟨sb, 0, none⟩)] 25) = V3 := ⟨_, rfl⟩
    have z3 : V3.heap.size = b + 3 := by rw [← hV3]; simp [z2]
    have n4 := heap_alloc_new V3 (.cells #[.string s] 9)
    have hW4' : V3.alloc (.cells #[.string s] 9) = W4 := by rw [← hV3, ← hV2, ← hV1]; exact hW4
    rw [hV1, hb] at n1
    rw [hV2, z1] at n2
    rw [hV3, z2] at n3
    rw [hW4', z3] at n4
    have k4 : ∀ i, i < b + 3 → W4.heap[i]? = V3.heap[i]? := fun i hi => by rw [← hW4']; exact Below.heap_alloc _ _ _ (by omega)
    have k3 : ∀ i, i < b + 2 → V3.heap[i]? = V2.heap[i]? := fun i hi => by rw [← hV3]; exact Below.heap_alloc _ _ _ (by omega)
    have k2 : ∀ i, i < b + 1 → V2.heap[i]? = V1.heap[i]? := fun i hi => by rw [← hV2]; exact Below.heap_alloc _ _ _ (by omega)
    refine ⟨((k4 b (by omega)).trans ((k3 b (by omega)).trans (k2 b (by omega)))).trans n1, ((k4 _ (by omega)).trans (k3 _ (by omega))).trans (n2.trans ?_), (k4 _ (by omega)).trans n3, n4, ?_, by omega⟩
    · have hc0 : Mn.cntS m [] = 0 := by simp [Mn.cntS, Mn.seen]
      rw [hc0]
      simp
    · rw [← hb, ← hW4]
      exact ((((Below.refl _ w).alloc (Nat.le_refl _) _).alloc (by simp) _).alloc (by simp; omega) _).alloc (by simp; omega) _
  simp only [Nat.add_assoc, Nat.reduceAdd]
  rename_i K6 hK6
  have HK6 := Hid.mk' hK6
  have HI0 := Hid.mk' hI0
  have hwb : b ≤ w.heap.size := by omega
  have hgl : g < b := by rw [← hb]; exact h.gB.2
  have hg2l : g2 < b := by rw [← hb]; exact (h.wrd.lt g2 rfl).2
  have hsbl : sb < b := by rw [← hb]; exact hsb
  have hMM : SetM B sb g (.slice (some ⟨g2, 0, none⟩) W.length cw) (Mn.nsOf W).length cn W.length (fun i c => (Mn.fin (Mn.nsOf W) i (if fold then Mn.low c else c) : Int)) (fun i => (((Mn.nsOf W).getD i []).length : Int)) (fun i => Mn.lw W ((Mn.nsOf W).getD i [])) (fun j => ((W.getD j []).length : Int)) (fun j => Mn.lw W (W.getD j []).tail) W4 := h.keep (by rw [hb]; exact hI0.bel)
  have hfew := hw.few
  rw [hm] at hfew
  have HM := Hid.mk' (And.intro hm hMM)
  have hnod := hw.nod
  clear hW4 hK6 hI0 s0 s1 s1a hMM
  have tail : ∀ (D : Nat) (pre : List (Nat × Nat)) (V : World), b + 4 ≤ D → HsI b sb m s w pre V → (∀ j, Mn.seen pre j = Mn.seen (Mn.allF W (tx fold s)) j) → V.heap[D]? = some (.deferred (some [])) → K6 { tmps := #[.pointer (some ⟨sb, 0, none⟩), .string s, undef, undef, .slice none 0 0, .pointer (some ⟨b, 0, none⟩), .pointer (some ⟨b + 1, 0, none⟩), undef, undef, undef, undef, undef, .pointer (some ⟨sb, 0, none⟩), .pointer (some ⟨sb, 0, none⟩), .pointer (some ⟨sb, 1, none⟩), .slice (some ⟨g2, 0, none⟩) m cw, .int .i64 (m : Int), .pointer (some ⟨sb, 0, none⟩), .string s, .func (.func 35) #[] #[.pointer (some ⟨b + 3, 0, none⟩), .pointer (some ⟨b + 2, 0, none⟩)], undef, undef, undef, undef, undef, undef, undef, undef, undef, undef, undef, undef, undef, undef, undef, undef, undef, undef, undef, undef, undef, undef, undef, undef], defers := [{ target := .collected D, args := #[] }] } V := by
    intro D pre V hD hV hse hdf
    refine HK6.out _ _ ?_
    have hinf : (Try.prog.info? 87).map (·.size) = some 64 := by kernel_rfl
    have hst := hV.st
    have hix : ∀ (k : Nat) (_ : k < 64) (X : World), (Instr.index 87 (.agg (rowV (fun j => .bool (Mn.seen pre j)) 64).toArray) (.int .i64 (k : Int))).run Try.prog X = .ok (.bool (Mn.seen pre k)) X := fun k hk X => idx_arr _ k hk X
    have HB0 := Hid.mk' hV.bel
    have HSE := Hid.mk' hse
    have hVs := hV.siz
    clear hV hse HM HI0
    iterate 60 (first | (with_reducible refine stopLoad _ 87 rfl ?_) | go_values | gi_guarded | gi_step | gi_upon | go_simp | skip)
    apply Hid.mk'
    refine wpListIn_load_row rfl 87 _ rfl b rfl _ _ _ _ hst Try.underlying87 rfl (by rw [hinf]; simp [rowV_len]) ?_
    obtain ⟨A, hA⟩ : ∃ A, Value.agg (rowV (fun j => .bool (Mn.seen pre j)) 64).toArray = A := ⟨_, rfl⟩
    rw [hA] at hix ⊢
    clear hst hA
    gi_wp2
    gi_loopw [9, 33] (fun v kv wr => ∃ (k : Nat) (p : Option Addr) (q c : Nat), v = .slice p q c ∧ kv = .int .i64 (k : Int) ∧ k ≤ 64 ∧ q ≤ k ∧ Hid (q = ((List.range k).filter fun j => Mn.seen pre j).length) ∧ Hid (wr.ownsRow b 3 1 (.slice p q c) q (intL ((List.range k).filter fun j => Mn.seen pre j))) ∧ Hid (Below b V wr) ∧ Hid (wr.heap[D]? = some (.deferred (some [])))) (fun _ kv _ => 64 - (intOf kv).toNat)
    case atStart => exact ⟨0, none, 0, 0, rfl, rfl, by omega, by omega, rfl, World.ownsRow_nil V b 3 1, Below.refl b V, hdf⟩
    case round =>
      obtain ⟨k, p, q, c, rfl, rfl, hk, hqk, hq, hrow, hbel, hdef⟩ := hrel
      rename World => wr
      have hszr : b ≤ wr.heap.size := by have := hbel.out.size; omega
      by_cases hk64 : k < 64
      · have hkI : (k : Int) < 64 := by omega
        have hxk := hix k hk64
        have hfil : Hid (∀ z, Mn.seen pre k = z → ((List.range (k + 1)).filter fun j => Mn.seen pre j) = ((List.range k).filter fun j => Mn.seen pre j) ++ if z = true then [k] else []) := by
          rintro z rfl
          rw [List.range_succ, List.filter_append, List.filter_cons, List.filter_nil]
        obtain ⟨z, hz⟩ : ∃ z, Mn.seen pre k = z := ⟨_, rfl⟩
        rw [hz] at hxk
        have HZ := Hid.mk' (hfil.out z hz)
        clear hix hfil hz
        cases z
        · gi_wp2
          go_roundw
          case rel =>
            refine ⟨k + 1, p, q, c, rfl, rfl, by omega, by omega, ?_, ?_, hbel, hdef⟩
            · have := HZ.out
              simp only [Bool.false_eq_true, if_false, List.append_nil] at this
              rw [this]
              exact hq
            · have := HZ.out
              simp only [Bool.false_eq_true, if_false, List.append_nil] at this
              rw [this]
              exact hrow
          case measure =>
            simp [intOf]
            omega
        · gi_wp2_with (gi_at_builtin; refine stopApp _ _ _ _ rfl ?_)
          apply Hid.mk'
          obtain ⟨i1, hi1, hy0, hy1, hy2⟩ := info_parts infoI
          refine wpListIn_append_own _ rfl _ _ 53 rfl b 3 i1 (.int .i64 0) 1 8 Try.underlying53 hi1 hy0 hy1 hy2 rfl (by decide) _ _ _ rfl (hrow.out.alloc _) ⟨wr.heap.size, 0, none⟩ 1 1 [.int .i64 (k : Int)] rfl rfl (int_news _ _ _ rfl) (int_one _) (by unfold maxLen; omega) (by omega) (by simp only [World.size_alloc]; omega) ?_
          intro v' w6 ho6 hg6 _
          obtain ⟨p6, c6, rfl⟩ := mr_shape ho6
          have hdD : wr.heap.size ≠ D := fun e => by
            have h1 := hdef.out
            rw [← e, Array.getElem?_eq_none (Nat.le_refl _)] at h1
            cases h1
          have hDl : D < wr.heap.size := by
            have h1 := hdef.out
            exact (Array.getElem?_eq_some_iff.1 h1).1
          have hd1 : (wr.alloc (.cells #[.int .i64 (k : Int)] 3)).heap[D]? = some (.deferred (some [])) := (Below.heap_alloc _ _ _ hDl).trans hdef.out
          have hd6 : Hid (w6.heap[D]? = some (.deferred (some []))) := (hg6.block D (by simp only [World.size_alloc]; omega) (fun e => by
            obtain ⟨cur, hcur⟩ := mr_block (hrow.out.alloc _) e.symm
            rw [hd1] at hcur
            cases hcur)).trans hd1
          have hb6 : Hid (Below b V w6) := hbel.out.trans (own_relI hszr hrow.out (Below.refl b wr) hg6)
          have HO6 := Hid.mk' ho6
          clear ho6 hg6 hd1
          gi_wp2
          go_roundw
          case rel =>
            have hl := HZ.out
            simp only [if_true] at hl
            refine ⟨k + 1, p6, q + 1, c6, rfl, rfl, by omega, by omega, ?_, ?_, hb6, hd6⟩
            · rw [hl, List.length_append, ← hq.out]
              rfl
            · rw [hl, intL, List.map_append]
              exact HO6.out
          case measure =>
            simp [intOf]
            omega
      · obtain rfl : k = 64 := by omega
        have hkI : ¬ ((64 : Nat) : Int) < 64 := by omega
        clear hix
        gi_wp2
        refine ⟨by simp, .inl ⟨_, _, rfl, run_takeDeferred hdef.out, ?_⟩⟩
        have hl : (List.range 64).filter (fun j => Mn.seen pre j) = Mn.hasL W (tx fold s) := by
          unfold Mn.hasL
          apply List.filter_congr
          intro j _
          exact HSE.out j
        have hdd := hdef.out
        have hDl : D < wr.heap.size := (Array.getElem?_eq_some_iff.1 hdd).1
        have hB1 : Below b wr (wr.putObj D (.deferred none)) := (Below.refl b wr).grown (grownBy_putObj' wr D (.deferred none)) (by omega) (fun k e => by cases e; omega)
        refine ⟨.slice p q c, ?_, _, rfl, ?_, HB0.out.trans (hbel.out.trans hB1)⟩
        · simp [results, Try.f23, go_sem]
        · rw [← hl, ← hq.out]
          exact mr_kept hrow.out (fun k hk => World.putObj_heap_other (fun e => by
            subst e
            obtain ⟨cur, hcur⟩ := mr_block hrow.out hk
            rw [hdd] at hcur
            cases hcur))
  refine wpIn_rangeN rfl (by omega) (gf := 35) (lb := #[.pointer (some ⟨b + 3, 0, none⟩), .pointer (some ⟨b + 2, 0, none⟩)]) rfl trivial (enters_of Try.func35 (by kernel_rfl) rfl)
    (all_seqN 5 (by omega) (b + 3) (b + 2) B sb g g2 cn cw W fold s hw hs W4 (by simp [World.cell?, HI0.out.bt]) (by simp [World.cell?, HI0.out.bs]) HM.out.2) (fun _ h => h.elim) KpB.t (fun V k o o' hk _ _ i hi => World.putObj_heap_other (by rw [hz4] at hk; rcases hi with rfl | rfl | rfl | rfl | rfl <;> omega)) (Below.refl _ _) (fun _ => rfl)
    (HsI b sb m s w) (fun c pre V => c = .exit 0 ∧ HsI b sb m s w pre V ∧ Mn.cntS m pre = m)
    (fun pre X Y row hX hg hr => hX.ab hwb hg (fun r e => by have := (hr r e).1; omega))
    (fun c pre X Y row hX hg hr => ⟨hX.1, hX.2.1.ab hwb hg (fun r e => by have := (hr r e).1; omega), hX.2.2⟩)
    HI0.out (fun x a' V => a' = { tmps := #[.pointer (some ⟨sb, 0, none⟩), .string s, undef, undef, .slice none 0 0, .pointer (some ⟨b, 0, none⟩), .pointer (some ⟨b + 1, 0, none⟩), undef, .int .i64 (x.2 : Int), undef, undef, undef, .pointer (some ⟨sb, 0, none⟩), .pointer (some ⟨sb, 0, none⟩), .pointer (some ⟨sb, 1, none⟩), .slice (some ⟨g2, 0, none⟩) m cw, .int .i64 (m : Int), .pointer (some ⟨sb, 0, none⟩), .string s, .func (.func 35) #[] #[.pointer (some ⟨b + 3, 0, none⟩), .pointer (some ⟨b + 2, 0, none⟩)], .int .i64 (x.1 : Int), .int .i64 (x.2 : Int), undef, undef, undef, undef, undef, undef, undef, undef, undef, undef, undef, undef, undef, undef, undef, undef, undef, undef, undef, undef, undef, undef], defers := [] }) (fun x a' _ X Y row hX hg hr => hX) ?assign ?body ?done ?stop
  case assign =>
    intro l pre x V K hi hK
    simp only [encM]
    gi_wp2
    exact hK _ _ (KeptW.refl _ _ _) (fun _ _ => rfl) hi rfl
  case stop =>
    rintro D c pre V hD hpre ⟨rfl, hi, hc⟩ hdf
    gi_wp2
    refine tail D pre V (by omega) hi (fun j => ?_) hdf
    by_cases hj : j < m
    · have h1 := Mn.cntS_all hc j hj
      rw [h1, Mn.seen_pre hpre h1]
    · have hno : ∀ l : List (Nat × Nat), l <+: Mn.allF W (tx fold s) → Mn.seen l j = false := fun l hl => by
        cases e : Mn.seen l j with
        | false => rfl
        | true =>
          unfold Mn.seen at e
          rw [List.any_eq_true] at e
          obtain ⟨⟨p, v⟩, h1, h2⟩ := e
          have := (Mn.all_lt hnod (hl.subset h1)).1
          have h3 : v = j := by simpa using h2
          rw [HM.out.1] at this
          omega
      rw [hno _ hpre, hno _ (List.prefix_refl _)]
  case done =>
    rintro D xs V hD rfl hi hdf
    exact tail D _ V (by omega) hi (fun j => rfl) hdf
  case body =>
    rintro l pre ⟨p, v⟩ a' V hl ⟨rr, hrr⟩ hi rfl hpre
    have hmem : (p, v) ∈ Mn.allF W (tx fold s) := hpre.subset (by simp)
    have hvm : v < m := by rw [← HM.out.1]; exact (Mn.all_lt hnod hmem).1
    have hv64 : v < 64 := by omega
    have c1 : V.cell? ⟨b, v, none⟩ = some (.bool (Mn.seen pre v)) := by
      simp only [World.cell?, hi.st]
      rw [List.getElem?_toArray, rowV_get _ _ _ hv64]
      rfl
    have f1 : V.frozen? ⟨b, v, none⟩ = false := by simp [World.frozen?, hi.st]
    obtain ⟨lv, hlv⟩ : ∃ lv, m - Mn.cntS m pre = lv := ⟨_, rfl⟩
    have hcl := Mn.cntS_le m pre
    have hlvI : (m : Int) - (Mn.cntS m pre : Int) = (lv : Int) := by omega
    have hlf := hi.lf
    rw [hlvI] at hlf
    have c2 : V.cell? ⟨b + 1, 0, none⟩ = some (.int .i64 (lv : Int)) := by simp [World.cell?, hlf]
    have f2 : V.frozen? ⟨b + 1, 0, none⟩ = false := by simp [World.frozen?, hlf]
    have hvI : (v : Int) < 64 := by omega
    have HI := Hid.mk' hi
    have HL := Hid.mk' (And.intro hlv hcl)
    have hs3 := hi.siz
    clear hi hpre hmem hlv hlvI hlf hcl HK6 tail hrr
    by_cases hsn : Mn.seen pre v = true
    · rw [hsn] at c1
      have HC : Hid (Mn.cntS m (pre ++ [(p, v)]) = Mn.cntS m pre) := Mn.cntS_same m pre (p, v) hsn
      have HN : Hid (HsI b sb m s w (pre ++ [(p, v)]) V) := by
        refine ⟨?_, by rw [HC.out]; exact HI.out.lf, HI.out.bs, HI.out.bt, HI.out.bel, HI.out.siz⟩
        rw [HI.out.st, rowV_congr (G := fun j => .bool (Mn.seen (pre ++ [(p, v)]) j)) fun j _ => by
          rw [Mn.seen_snoc]
          by_cases e : v = j
          · subst e
            simp [hsn]
          · simp [e]]
      clear hsn
      by_cases hl0 : lv = 0
      · subst hl0
        gi_wp2
        exact ⟨KeptW.refl _ _ _, rfl, HN.out, by rw [HC.out]; have := HL.out; omega⟩
      · have hl0B : ((lv : Int) == 0) = false := by simp; exact hl0
        gi_wp2
        exact ⟨KeptW.refl _ _ _, fun _ _ => rfl, HN.out⟩
    · have hsf : Mn.seen pre v = false := by simpa using hsn
      rw [hsf] at c1
      have HC : Hid (Mn.cntS m (pre ++ [(p, v)]) = Mn.cntS m pre + 1) := by
        have := Mn.cntS_more m pre (p, v) hsf
        rw [if_pos hvm] at this
        exact this
      have hcl2 := Mn.cntS_le m (pre ++ [(p, v)])
      rw [HC.out] at hcl2
      obtain ⟨lv1, rfl⟩ : ∃ lv1, lv = lv1 + 1 := ⟨lv - 1, by have := HL.out; omega⟩
      have hlI : ((lv1 + 1 : Nat) : Int) - 1 = (lv1 : Int) := by omega
      have c2' : (V.setCell ⟨b, v, none⟩ (.bool true)).cell? ⟨b + 1, 0, none⟩ = some (.int .i64 ((lv1 + 1 : Nat) : Int)) := (World.cell?_of_block (a := ⟨b + 1, 0, none⟩) (set_heap V b (b + 1) v _ (by omega))).trans c2
      have f2' : (V.setCell ⟨b, v, none⟩ (.bool true)).frozen? ⟨b + 1, 0, none⟩ = false := (World.frozen?_of_block (a := ⟨b + 1, 0, none⟩) (set_heap V b (b + 1) v _ (by omega))).trans f2
      have HN : Hid (HsI b sb m s w (pre ++ [(p, v)]) ((V.setCell ⟨b, v, none⟩ (.bool true)).setCell ⟨b + 1, 0, none⟩ (.int .i64 (lv1 : Int)))) := by
        have hst : (V.setCell ⟨b, v, none⟩ (.bool true)).heap[b]? = some (.cells (rowV (fun j => .bool (Mn.seen (pre ++ [(p, v)]) j)) 64).toArray 87 (0, 0)) := by
          have h1 : (V.setCell ⟨b, v, none⟩ (.bool true)).heap[b]? = some (.cells ((rowV (fun j => .bool (Mn.seen pre j)) 64).toArray.setIfInBounds v (.bool true)) 87 (0, 0)) := by
            simp [World.setCell, Array.getElem?_modify, HI.out.st]
          rw [h1]
          congr 2
          apply Array.ext_getElem?
          intro j
          rw [Array.getElem?_setIfInBounds, List.getElem?_toArray, List.getElem?_toArray]
          by_cases hj : j < 64
          · rw [rowV_get _ _ _ hj, rowV_get _ _ _ hj, Mn.seen_snoc]
            by_cases e : v = j
            · subst e
              simp [rowV_len, hj]
            · rw [if_neg e]
              simp [e]
          · rw [if_neg (by omega), List.getElem?_eq_none (by rw [rowV_len]; omega), List.getElem?_eq_none (by rw [rowV_len]; omega)]
        have o2 : ∀ i, i ≠ b → i ≠ b + 1 → ((V.setCell ⟨b, v, none⟩ (.bool true)).setCell ⟨b + 1, 0, none⟩ (.int .i64 (lv1 : Int))).heap[i]? = V.heap[i]? := fun i h1 h2 => (set_heap _ (b + 1) i 0 _ h2).trans (set_heap V b i v _ h1)
        refine ⟨(set_heap _ (b + 1) b 0 _ (by omega)).trans hst, ?_, (o2 _ (by omega) (by omega)).trans HI.out.bs, (o2 _ (by omega) (by omega)).trans HI.out.bt, mb_set (mb_set HI.out.bel (Nat.le_refl _) _ _) (by omega) _ _, by simpa [World.setCell] using hs3⟩
        have hlf : (V.setCell ⟨b, v, none⟩ (.bool true)).heap[b + 1]? = some (.cells #[.int .i64 ((m : Int) - (Mn.cntS m pre : Int))] 3 (0, 0)) := (set_heap V b (b + 1) v _ (by omega)).trans HI.out.lf
        have e9 : (m : Int) - ((Mn.cntS m pre + 1 : Nat) : Int) = (lv1 : Int) := by have := HL.out; omega
        rw [HC.out, e9]
        simp [World.setCell, Array.getElem?_modify] at hlf ⊢
        simp [hlf]
      have HKP : Hid (KpB (DM sb g g2 (b + 3) (b + 2)) V ((V.setCell ⟨b, v, none⟩ (.bool true)).setCell ⟨b + 1, 0, none⟩ (.int .i64 (lv1 : Int)))) := fun i hi => (set_heap _ (b + 1) i 0 _ (by rcases hi with rfl | rfl | rfl | rfl | rfl <;> omega)).trans (set_heap V b i v _ (by rcases hi with rfl | rfl | rfl | rfl | rfl <;> omega))
      have HKW : Hid (KeptW W4.heap.size noW V ((V.setCell ⟨b, v, none⟩ (.bool true)).setCell ⟨b + 1, 0, none⟩ (.int .i64 (lv1 : Int)))) := ⟨by simp [World.setCell], fun k o hk ho _ => ((set_heap _ (b + 1) k 0 _ (by omega)).trans (set_heap V b k v _ (by omega))).trans ho⟩
      clear hsn hsf
      by_cases hl0 : lv1 = 0
      · subst hl0
        gi_wp2
        exact ⟨HKW.out, rfl, HN.out, by rw [HC.out]; have := HL.out; omega⟩
      · have hl0B : ((lv1 : Int) == 0) = false := by simp; exact hl0
        have hlv64 : lv1 ≤ 64 := by have := HL.out; omega
        have hwr : IntKind.i64.wrap (lv1 : Int) = (lv1 : Int) := by rw [IntKind.wrap_i64]; omega
        gi_wp2
        exact ⟨HKW.out, HKP.out, HN.out⟩
end Go.Proofs.Ytlbfnchjbpioeaa
