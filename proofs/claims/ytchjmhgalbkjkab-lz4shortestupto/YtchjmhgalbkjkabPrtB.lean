/-
  lz4.Parts: a function that hands each sequence over, up to the last one or as long as it is told to. Conditions: the text is no longer than any text that is read can be.
-/
import Derived.Test.YtchjmhgalbkjkabPrt
namespace Go.Proofs.Ytchjmhgalbkjkab
open Go.RowKit Go.Shelf
set_option linter.unusedVariables false
attribute [local go_sem] Oper.semAt_some
abbrev Pt := Nat × ByteArray × Nat × Nat
def toPt (s : ByteArray) (x : Lz.Sq) : Pt := (x.token, s.extract x.frm (x.frm + x.many), x.off, x.len)
def ptL (s : ByteArray) : List Pt := (allOf s 0 9223372036854775807).1.map (toPt s)
def encQ (x : Pt) : Array Value := #[.int .i64 (x.1 : Int), .agg #[.string x.2.1, .int .i64 (x.2.2.1 : Int), .int .i64 (x.2.2.2 : Int)]]
theorem enc_pt (s : ByteArray) (x : Lz.Sq) : encP s x = encQ (toPt s x) := rfl
/-- what lz4.walk turns -/
def WrP (o : Obj) : Prop := ∃ cs, o = .cells cs 67 (0, 0)
/-- what must stay while it is under way -/
def FixP (o : Obj) : Prop := WrP o ∨ ∃ cs, o = .cells cs 63 (0, 0)
theorem WrP.cells {o : Obj} (h : WrP o) : o.isCells = true := by
  obtain ⟨cs, rfl⟩ := h
  rfl
theorem FixP.cells {o : Obj} (h : FixP o) : o.isCells = true := by
  rcases h with h | ⟨cs, rfl⟩
  · exact h.cells
  · rfl
structure KpP (W W' : World) : Prop where
  size : W.heap.size ≤ W'.heap.size
  same : ∀ (k : Nat) (o : Obj), W.heap[k]? = some o → FixP o → W'.heap[k]? = some o
theorem KpP.t {A B C : World} (h : KpP A B) (k : KpP B C) : KpP A C := ⟨Nat.le_trans h.size k.size, fun i o hi ho => k.same i o (h.same i o hi ho) ho⟩
theorem KpP.put (W : World) (k : Nat) (o o' : Obj) (h : W.heap[k]? = some o) (h1 : o.isCells = false) : KpP W (W.putObj k o') :=
  ⟨by simp, fun i x hi hx => by
    by_cases e : i = k
    · subst e
      rw [h] at hi
      cases hi
      rw [hx.cells] at h1
      cases h1
    · rw [World.putObj_heap_other (by omega)]
      exact hi⟩
theorem parts_any (s : ByteArray) (w : World) :
    Calls Try.prog 15 #[.string s] w fun e w' => e = .returned (.func (.func 26) #[] #[.pointer (some ⟨w.heap.size, 0, none⟩)]) ∧ w' = w.alloc (.cells #[.string s] 9) := by
  go_enter Try.func15, Try.ntmps15
  go_wp2
  go_ret
  exact ⟨rfl, rfl⟩
/-- what holds between two rounds: all that has happened since is that block B has turned, and that others have come -/
def Jw (B yb l : Nat) (s : ByteArray) (J : List Pt → World → Prop) (pre : List Lz.Sq) (X : World) : Prop :=
  (∃ X0, J (pre.map (toPt s)) X0 ∧ X0.grownBy X (some B) ∧ (B < X0.heap.size → ∃ o, X0.heap[B]? = some o ∧ WrP o)) ∧ X.heap[yb]? = some (.cells #[.func (.yield l) #[] #[]] 63 (0, 0))
theorem Jw.out {B yb l : Nat} {s : ByteArray} {J : List Pt → World → Prop} {pre : List Lz.Sq} {X : World} {b : Nat} (hb : b ≤ B) (hJ : AbW b WrP J) (h : Jw B yb l s J pre X) : J (pre.map (toPt s)) X := by
  obtain ⟨⟨X0, h0, hg, hB⟩, _⟩ := h
  by_cases e : B < X0.heap.size
  · exact hJ _ X0 X (some B) h0 hg fun r hr => by cases hr; exact ⟨hb, hB e⟩
  · exact hJ _ X0 X none h0 ⟨hg.os, hg.tape, hg.output, hg.size, fun k hk _ => hg.block k hk (fun e2 => by cases e2; exact e hk)⟩ fun r hr => by cases hr
set_option maxRecDepth 100000 in
set_option maxHeartbeats 2000000 in
theorem parts1_in (n : Nat) (l Bs b : Nat) (s : ByteArray) (hs : s.size ≤ 140737488355328) (J Jx : List Pt → World → Prop) (W : World) (hbW : b ≤ W.heap.size) (hJ : AbW b WrP J)
    (hY : ∀ pre x W1, J pre W1 → pre.length < (ptL s).length → YieldAt Fence.wide (n - 1) Try.prog l (encQ x) W1 fun e W' =>
      (e = .returned (.bool true) ∧ J (pre ++ [x]) W' ∧ KpP W1 W') ∨ (e = .returned (.bool false) ∧ Jx (pre ++ [x]) W'))
    (hBs : W.cell? ⟨Bs, 0, none⟩ = some (.string s)) (h0 : J [] W) :
    CallsIn Fence.wide n Try.prog 26 #[.func (.yield l) #[] #[], .pointer (some ⟨Bs, 0, none⟩)] W fun e W' => (∃ v, e = .returned v) ∧
      ((∃ ys, ys = ptL s ∧ J ys W') ∨ (∃ pre, pre <+: ptL s ∧ Jx pre W')) := by
  obtain ⟨yb, hyb⟩ : ∃ yb, W.heap.size = yb := ⟨_, rfl⟩
  have HY := Hid.mk' hY
  have HJ := Hid.mk' hJ
  have H0 := Hid.mk' h0
  have hlt : Bs < W.heap.size := World.block_lt_of_cell? W ⟨Bs, 0, none⟩ hBs
  have hc1 : (W.alloc (.cells #[.func (.yield l) #[] #[]] 63)).cell? ⟨Bs, 0, none⟩ = some (.string s) := by
    rw [World.cell?_of_block (a := ⟨Bs, 0, none⟩) (Below.heap_alloc _ _ _ hlt)]
    exact hBs
  clear hY hJ h0
  refine callsIn_of_wp Try.func26 rfl trivial ?_ rfl
  simp only [Try.ntmps26, List.size_toArray, List.length_cons, List.length_nil, Nat.reduceAdd, Nat.reduceSub, Array.replicate_succ, Array.replicate_zero, List.push_toArray, List.append_toArray, List.nil_append, List.cons_append]
  gi_wp2
  obtain ⟨W1, hW1⟩ : ∃ W1, W.alloc (.cells #[.func (.yield l) #[] #[]] 63) = W1 := ⟨_, rfl⟩
  rw [hW1]
  have hz1 : W1.heap.size = yb + 1 := by rw [← hW1, ← hyb]; simp
  have hy1 : W1.heap[yb]? = some (.cells #[.func (.yield l) #[] #[]] 63 (0, 0)) := by
    rw [← hW1, ← hyb]
    exact World.alloc_heap_new W _
  have hg1 : W.grownBy W1 none := by
    rw [← hW1]
    exact World.grownBy_alloc W _ none
  have HG1 := Hid.mk' hg1
  have HY1 := Hid.mk' hy1
  clear hg1 hy1 hW1 hc1
  refine ⟨trivial, fun h => (by cases h), ?_⟩
  refine CallsIn.mono (callsIn_wide.2 (walk_any s 0 9223372036854775807 28 #[.pointer (some ⟨yb, 0, none⟩)] (Jw W1.heap.size yb l s J) (fun pre X => Jx (pre.map (toPt s)) X) W1 hs (by omega) (by omega) ?_ ?_)) ?_
  · refine ⟨enters_of Try.func28 (by kernel_rfl) rfl, ?_, ?_⟩
    · rintro pre X X' ⟨⟨X0, h0, hg, hB⟩, hy⟩ ha
      exact ⟨⟨X0, h0, ⟨ha.os.trans hg.os, ha.tape.trans hg.tape, ha.output.trans hg.output, by rw [ha.size]; exact hg.size, fun k hk hne => (ha.block k (fun e => hne (by rw [e]))).trans (hg.block k hk hne)⟩, hB⟩, (ha.block yb (by omega)).trans hy⟩
    · rintro pre x X h hpre ⟨t, y, o, c, hbox⟩
      have hj := h.out (b := b) (by omega) HJ.out
      have hbl := hbox.lt
      have hlen : (pre.map (toPt s)).length < (ptL s).length := by
        have := hpre.length_le
        simp only [List.length_append, List.length_cons, List.length_nil] at this
        unfold ptL
        rw [List.length_map, List.length_map]
        omega
      have hyl := (Array.getElem?_eq_some_iff.1 h.2).1
      refine (callsIn_wide (n := n)).1 ?_
      refine (hand_in n 63 l yb s x X (fun v X' => (v = .bool true ∧ Jw W1.heap.size yb l s J (pre ++ [x]) X' ∧ X'.heap[W1.heap.size]? = X.heap[W1.heap.size]?) ∨ (v = .bool false ∧ Jx ((pre ++ [x]).map (toPt s)) X')) (by rw [ByteArray.size_extract]; omega) h.2 ?_).mono ?_
      · intro w2 hb2
        refine (HY.out (pre.map (toPt s)) (toPt s x) w2 (HJ.out _ X w2 none hj ⟨hb2.os, hb2.tape, hb2.output, hb2.size, fun k hk _ => hb2.block k hk⟩ (fun r e => by cases e)) hlen).mono ?_
        rintro e W' (⟨rfl, hJ3, hk⟩ | ⟨rfl, hJ3⟩)
        · have hB2 := hk.same W1.heap.size _ ((hb2.block _ hbl).trans hbox) (.inl ⟨_, rfl⟩)
          have hy2 := hk.same yb _ ((hb2.block _ hyl).trans h.2) (.inr ⟨_, rfl⟩)
          refine ⟨_, rfl, .inl ⟨rfl, ⟨⟨W', by rw [List.map_append]; exact hJ3, ⟨rfl, rfl, rfl, Nat.le_refl _, fun _ _ _ => rfl⟩, fun _ => ⟨_, hB2, ⟨_, rfl⟩⟩⟩, hy2⟩, hB2.trans hbox.symm⟩⟩
        · exact ⟨_, rfl, .inr ⟨rfl, by rw [List.map_append]; exact hJ3⟩⟩
      · rintro e X' ⟨v, rfl, (⟨rfl, h1, h2⟩ | ⟨rfl, h1⟩)⟩
        · exact .inl ⟨rfl, h1, h2⟩
        · exact .inr ⟨rfl, h1⟩
  · intro w' hb hz
    have hg := HG1.out
    refine ⟨⟨W, H0.out, ⟨hb.os.trans hg.os, hb.tape.trans hg.tape, hb.output.trans hg.output, Nat.le_trans hg.size hb.size, fun k hk _ => (hb.block k (by omega)).trans (hg.block k hk (by simp))⟩, fun h => by omega⟩, ?_⟩
    rw [hb.block yb (by omega)]
    exact HY1.out
  · rintro e w' (⟨rfl, h⟩ | ⟨rfl, pre, hpre, h⟩)
    · have h2 := Hid.mk' (h.out (b := b) (by omega) HJ.out)
      clear h
      gi_wp2
      go_end0
      exact ⟨⟨_, rfl⟩, .inl ⟨_, rfl, h2.out⟩⟩
    · have h2 := Hid.mk' (And.intro hpre h)
      clear h hpre
      gi_wp2
      go_end0
      exact ⟨⟨_, rfl⟩, .inr ⟨_, List.IsPrefix.map _ h2.out.1, h2.out.2⟩⟩
theorem parts_seqW (n : Nat) (Bs : Nat) (s : ByteArray) (hs : s.size ≤ 140737488355328) (w : World) (hb : Bs < w.heap.size) (hc : w.cell? ⟨Bs, 0, none⟩ = some (.string s)) :
    SeqW Fence.wide n Try.prog 26 #[.pointer (some ⟨Bs, 0, none⟩)] encQ WrP KpP (fun ys => ys = ptL s) (fun pre => pre <+: ptL s) (ptL s).length w := fun l J Jx W hW hJ _ hY h0' =>
  parts1_in n l Bs W.heap.size s hs J Jx W (Nat.le_refl _) hJ hY ((hW.cell (p := ⟨Bs, 0, none⟩) hb).trans hc) h0'
end Go.Proofs.Ytchjmhgalbkjkab
