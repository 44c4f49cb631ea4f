/-
  record.All: a function that hands over the lines of a text, in order. Conditions: as each says.
-/
import Derived.Test.YtchhdkmflppjhaaRcO
import Derived.Test.YtchhdkmflppjhaaEnF
import Derived.Test.YtchhdkmflppjhaaRngN
import Derived.Sort.BigQuietIn
import Derived.Shelf.Abstract
import Derived.OwnWalkIn
import Derived.TacticsInMore
import Derived.LoopNIn
import Derived.LoopIn
namespace Go.Proofs.Ytchhdkmflppjhaa
open Go.RowKit Go.Shelf
set_option linter.unusedVariables false
attribute [local go_sem] Oper.semAt_some
def encLn (x : Nat × Rec.Ln) : Array Value := #[.int .i64 (x.1 : Int), .agg #[.int .i64 x.2.1, .string x.2.2]]
def ixK (L : List Rec.Ln) (k : Nat) : List (Nat × Rec.Ln) := (List.range k).map fun i => (i, L.getD i (0, ⟨#[]⟩))
theorem ixK_len (L : List Rec.Ln) (k : Nat) : (ixK L k).length = k := by simp [ixK]
theorem ixK_next (L : List Rec.Ln) (k : Nat) : ixK L (k + 1) = ixK L k ++ [(k, L.getD k (0, ⟨#[]⟩))] := by
  unfold ixK
  rw [List.range_succ, List.map_append]
  rfl
theorem ixK_pre (L : List Rec.Ln) : ∀ (k n : Nat), k ≤ n → ixK L k <+: ixK L n := by
  intro k n h
  obtain ⟨d, rfl⟩ : ∃ d, n = k + d := ⟨n - k, by omega⟩
  induction d with
  | zero => exact List.prefix_refl _
  | succ d ih => exact (ih (by omega)).trans ⟨_, (ixK_next L (k + d)).symm⟩
/-- what may be handed over next -/
theorem ixK_add {L : List Rec.Ln} {n : Nat} {pre : List (Nat × Rec.Ln)} {x : Nat × Rec.Ln} (h : pre ++ [x] <+: ixK L n) : pre.length < n ∧ x = (pre.length, L.getD pre.length (0, ⟨#[]⟩)) := by
  have h1 := h.length_le
  rw [List.length_append, ixK_len, List.length_singleton] at h1
  have h2 : (ixK L n)[pre.length]? = some x := by
    obtain ⟨t, ht⟩ := h
    rw [← ht, List.append_assoc, List.getElem?_append_right (Nat.le_refl _), Nat.sub_self]
    rfl
  refine ⟨by omega, ?_⟩
  unfold ixK at h2
  rw [List.getElem?_map, List.getElem?_range (by omega)] at h2
  simp only [Option.map_some, Option.some.injEq] at h2
  exact h2.symm
/-- blocks of cells, from b on, are as they were -/
def KpC (b : Nat) (W W' : World) : Prop := ∀ k o, b ≤ k → W.heap[k]? = some o → o.isCells = true → W'.heap[k]? = some o
theorem KpC.t {b : Nat} {A B C : World} (h : KpC b A B) (k : KpC b B C) : KpC b A C := fun i o hi ho hc => k i o hi (h i o hi ho hc) hc
theorem KpC.r (b : Nat) (W : World) : KpC b W W := fun _ _ _ h _ => h
theorem KpC.below {b : Nat} {A B : World} (h : Below A.heap.size A B) : KpC b A B := fun i o hi ho hc => (h.block i (Array.getElem?_eq_some_iff.1 ho).1).trans ho
theorem KpC.row {b B n sz : Nat} {W W' : World} {e : TypeId} {v : Value} {xs : List Value} (h : W.ownsRow B e sz v n xs) (hb : b ≤ B) (hk : KpC b W W') : W'.ownsRow B e sz v n xs :=
  ⟨h.1, h.2.imp id fun ⟨g, cap, cur, e1, e2, e3, r⟩ => ⟨g, cap, cur, e1, e2, hk g _ (by omega) e3 rfl, r⟩⟩
theorem ln_store (X : World) (x : Int) (t : ByteArray) (ty : TypeId) (u v : Value) : ((X.alloc (.cells #[u, v] ty)).setCell ⟨X.heap.size, 0, none⟩ (.int .i64 x)).setCell ⟨X.heap.size, 1, none⟩ (.string t) = X.alloc (.cells #[.int .i64 x, .string t] ty) := by
  rw [World.setCell_alloc_at _ _ _ _ _ rfl, World.setCell_alloc_at _ _ _ _ _ rfl]
  rfl
theorem dec_rowG {err pos : Nat} {l : List Rec.Ln} {w w' : World} {e : Ending} (h : DecP err l pos w e w') : ∃ v, e = .returned (.tuple #[v, .int .i64 (err : Int), .int .i64 (pos : Int)]) ∧ w'.ownsRow w.heap.size 35 2 v (if err = 0 then l else []).length (lnV (if err = 0 then l else [])) ∧ Below w.heap.size w w' := by
  obtain ⟨v, he, h1, h2, h3⟩ := h
  refine ⟨v, he, ?_, h3⟩
  by_cases h0 : err = 0
  · rw [if_pos h0]
    exact h1 h0
  · rw [if_neg h0, h2 h0]
    exact World.ownsRow_nil _ _ _ _
set_option maxRecDepth 100000 in
set_option maxHeartbeats 1000000 in
theorem all1_inN (q : Nat) (hq : 1 ≤ q) (l Bs b : Nat) (s : ByteArray) (hs : s.size ≤ 1125899906842624) (E p : Nat) (L0 L : List Rec.Ln) (hR : (E, L0, p) = Rec.decF s) (hL : L = if E = 0 then L0 else []) (hLb : L.length ≤ 131072) (J Jx : List (Nat × Rec.Ln) → World → Prop) (V : World)
    (hJb : ∀ pre X Y, J pre X → Below X.heap.size X Y → J pre Y)
    (hY : ∀ pre x X, J pre X → pre ++ [x] <+: ixK L L.length → YieldAt Fence.wide (q - 1) Try.prog l (encLn x) X fun e Y =>
      (e = .returned (.bool true) ∧ J (pre ++ [x]) Y ∧ KpC b X Y) ∨ (e = .returned (.bool false) ∧ Jx (pre ++ [x]) Y))
    (hBs : V.cell? ⟨Bs, 0, none⟩ = some (.string s)) (hb : b ≤ V.heap.size) (h0 : J [] V) :
    CallsIn Fence.wide q Try.prog 30 #[.func (.yield l) #[] #[], .pointer (some ⟨Bs, 0, none⟩)] V fun e Y => (∃ v, e = .returned v) ∧
      ((∃ ys, ys = ixK L L.length ∧ J ys Y) ∨ (∃ pre, pre <+: ixK L L.length ∧ Jx pre Y)) := by
  have HD : Hid (∀ W : World, Calls Try.prog 7 #[.string s] W fun e w' => DecP E L0 p W e w') := fun W => decode_any s W hs (E, L0, p) hR
  have HJB := Hid.mk' hJb
  have HY := Hid.mk' hY
  have H0 := Hid.mk' h0
  have HL := Hid.mk' hL
  have HB := Hid.mk' hb
  clear hJb hY h0 hR hL hs hb
  refine callsIn_of_wp Try.func30 rfl trivial ?_ rfl
  simp only [Try.ntmps30, List.size_toArray, List.length_cons, List.length_nil, Nat.reduceAdd, Nat.reduceSub, Array.replicate_succ, Array.replicate_zero, List.push_toArray, List.append_toArray, List.nil_append, List.cons_append]
  gi_wp2
  refine ⟨trivial, (callsIn_wide.2 (HD.out V)).mono ?_⟩
  rintro e W1 ⟨v, rfl, hv0, hv1, hb1⟩
  have HROW : Hid (W1.ownsRow V.heap.size 35 2 v L.length (lnV L)) := by
    rw [HL.out]
    by_cases h0 : E = 0
    · rw [if_pos h0]
      exact hv0 h0
    · rw [if_neg h0, hv1 h0]
      exact World.ownsRow_nil _ _ _ _
  obtain ⟨pv, cv, rfl⟩ := row_shape HROW.out
  have HJ1 : Hid (J [] W1) := HJB.out _ _ _ H0.out hb1
  clear hv0 hv1 hb1 H0
  obtain ⟨n, hn⟩ : ∃ n, L.length = n := ⟨_, rfl⟩
  rw [hn] at HROW HY hLb ⊢
  have HN := Hid.mk' hn
  clear hn
  gi_wp2
  gi_loopw [6, 7, 16] (fun _ _ kv wr => ∃ (k : Nat), kv = .int .i64 (k : Int) ∧ k ≤ n ∧ Hid (J (ixK L k) wr) ∧ Hid (wr.ownsRow V.heap.size 35 2 (.slice pv n cv) n (lnV L))) (fun _ _ kv _ => n - (intOf kv).toNat)
  case atStart => exact ⟨0, rfl, by omega, HJ1, HROW⟩
  case round =>
    obtain ⟨k, rfl, hk, hj, hrow⟩ := hrel
    rename World => wr
    clear HJ1 HROW
    by_cases hkn : k < n
    · have hkI : (k : Int) < (n : Int) := by omega
      have hk0 : (0 : Int) ≤ (k : Int) := by omega
      obtain ⟨g, rfl, _, hglt⟩ := row_addr hrow.out (by omega)
      have c0 := (own_at hrow.out k hkn).1
      have c1 := (own_at hrow.out k hkn).2
      obtain ⟨x, t, hxt⟩ : ∃ x t, L.getD k (0, ⟨#[]⟩) = (x, t) := ⟨_, _, rfl⟩
      rw [hxt] at c0 c1
      have hnx := ixK_next L k
      rw [hxt] at hnx
      obtain ⟨X, hX⟩ : ∃ X, X = wr.alloc (.cells #[.int .i64 x, .string t] 35) := ⟨_, rfl⟩
      have hbX : Below wr.heap.size wr X := by rw [hX]; exact (Below.refl _ _).alloc (Nat.le_refl _) _
      have hjX := HJB.out _ _ X hj.out hbX
      have hpre : ixK L k ++ [(k, (x, t))] <+: ixK L n := by rw [← hnx]; exact ixK_pre L _ _ (by omega)
      obtain ⟨fn, tmps, assign, body, hyy, hRR⟩ := HY.out _ (k, (x, t)) X hjX hpre
      dsimp only [encLn] at hyy
      have HNX := Hid.mk' (And.intro hnx hpre)
      have HRX : Hid (X.ownsRow V.heap.size 35 2 (.slice (some ⟨g, 0, none⟩) n cv) n (lnV L)) := row_kept hrow.out fun i hi => hbX.block i (hrow.out.lt i hi).2
      have HKN := Hid.mk' hkn
      clear hnx hpre hxt hj hrow hjX hbX hkn hk
      subst hX
      gi_wp2
      refine hRR.mono ?_
      rintro e W3 (⟨rfl, hJ3, hk3⟩ | ⟨rfl, hJx3⟩)
      · have HJ3 : Hid (J (ixK L (k + 1)) W3) := by rw [HNX.out.1]; exact hJ3
        have HR3 := Hid.mk' (hk3.row HRX.out HB.out)
        clear hJ3 hk3 hyy
        gi_wp2
        go_roundw
        case rel => exact ⟨k + 1, by simp, HKN.out, HJ3, HR3⟩
        case measure => have := HKN.out; simp [intOf]; omega
      · have HJX := Hid.mk' hJx3
        clear hJx3
        gi_wp2
        refine bodyPost_ret (results_none rfl _ _ _) rfl ?_
        exact ⟨⟨_, rfl⟩, .inr ⟨_, by rw [HN.out]; exact HNX.out.2, HJX.out⟩⟩
    · have hkI : ¬ (k : Int) < (n : Int) := by omega
      have hke : k = n := by omega
      rw [hke] at hj
      gi_wp2
      go_end0
      exact ⟨⟨_, rfl⟩, .inl (by rw [HN.out]; exact hj.out)⟩
abbrev noO : Obj → Prop := fun _ => False
theorem all_seqN (q : Nat) (hq : 1 ≤ q) (Bs : Nat) (s : ByteArray) (hs : s.size ≤ 1125899906842624) (E p : Nat) (L0 L : List Rec.Ln) (hR : (E, L0, p) = Rec.decF s) (hL : L = if E = 0 then L0 else []) (hLb : L.length ≤ 131072) (w : World) (hBs : w.cell? ⟨Bs, 0, none⟩ = some (.string s)) :
    SeqN Fence.wide q Try.prog 30 #[.pointer (some ⟨Bs, 0, none⟩)] encLn noO (KpC w.heap.size) (fun ys => ys = ixK L L.length) (fun pre => pre <+: ixK L L.length) w := fun l J Jx V hV hJ _ hY h0' => by
  have keep : ∀ (b i : Nat) (v : Value), w.cell? ⟨b, i, none⟩ = some v → V.cell? ⟨b, i, none⟩ = some v := fun b i v h => (hV.cell (p := ⟨b, i, none⟩) (World.block_lt_of_cell? w ⟨b, i, none⟩ h)).trans h
  exact all1_inN q hq l Bs w.heap.size s hs E p L0 L hR hL hLb J Jx V
    (fun pre X Y h hb => hJ pre X Y none h ⟨hb.os, hb.tape, hb.output, hb.size, fun k hk _ => hb.block k hk⟩ (fun r e => by cases e))
    hY (keep _ _ _ hBs) hV.size h0'
/-- record.All: it makes the function, and a box for the text -/
theorem all_any (s : ByteArray) (w : World) : Calls Try.prog 11 #[.string s] w fun e w' => e = .returned (.func (.func 30) #[] #[.pointer (some ⟨w.heap.size, 0, none⟩)]) ∧ w' = w.alloc (.cells #[.string s] 9) := by
  go_enter Try.func11, Try.ntmps11
  go_wp2_with fail
  go_ret
  exact ⟨rfl, rfl⟩
end Go.Proofs.Ytchhdkmflppjhaa
