/-
  All: a function that hands each place over, up to the last one or as long as it is told to. Conditions: the text is no longer than any text that is read can be; the Finder's memory stays as it is.
-/
import Derived.Test.YtecoiifmeajicaaDoorCnt
import Derived.Test.YtecoiifmeajicaaDoorBas
namespace Go.Proofs.YtecoiifmeajicaaDoor
open Go.RowKit Go.Shelf
set_option linter.unusedVariables false
attribute [local go_sem] Oper.semAt_some
def encA (x : Nat) : Array Value := #[.int .i64 (x : Int)]
/-- what must stay while it is under way -/
def AllD (D : Nat → Prop) (Bf Bs : Nat) : Nat → Prop := fun k => D k ∨ k = Bf ∨ k = Bs
theorem all_any (g : Nat) (s : ByteArray) (w : World) :
    Calls Tryd.prog 29 #[.pointer (some ⟨g, 0, none⟩), .string s] w fun e w' => e = .returned (.func (.func 37) #[] #[.pointer (some ⟨w.heap.size, 0, none⟩), .pointer (some ⟨w.heap.size + 1, 0, none⟩)]) ∧ w' = (w.alloc (.cells #[.pointer (some ⟨g, 0, none⟩)] 23)).alloc (.cells #[.string s] 9) := by
  go_enter Tryd.func29, Tryd.ntmps29
  go_wp2
  go_ret
  exact ⟨rfl, rfl⟩
theorem keepsB_put {D : Nat → Prop} {w : World} (hD : ∀ k, D k → k < w.heap.size) (W : World) (l : Nat) (o' : Obj) (hl : w.heap.size ≤ l) : KeepsB D W (W.putObj l o') := fun k hk => by
  have := hD k hk
  exact World.putObj_heap_other (by omega)
theorem heap_lt {W W' : World} {j : Nat} (h : W'.heap[j]? = W.heap[j]?) (hj : j < W.heap.size) : j < W'.heap.size := by
  rw [Array.getElem?_eq_getElem hj] at h
  exact (Array.getElem?_eq_some_iff.1 h).1
set_option maxRecDepth 100000 in
set_option maxHeartbeats 2000000 in
theorem all1_in (n : Nat) (hn : 1 ≤ n) (l Bf Bs g : Nat) (fold : Bool) (p s : ByteArray) (k : Int) (D : Nat → Prop) (hs : s.size ≤ 1125899906842624) (J Jx : List Nat → World → Prop) (W : World)
    (hJb : ∀ pre W W', J pre W → Below W.heap.size W W' → J pre W') (hD : ∀ k, D k → k < W.heap.size)
    (hY : ∀ pre x W, J pre W → pre.length < (Lit.plL fold p s).length → YieldAt Fence.wide (n - 1) Tryd.prog l (encA x) W fun e W' =>
      (e = .returned (.bool true) ∧ J (pre ++ [x]) W' ∧ KeepsB (AllD D Bf Bs) W W') ∨ (e = .returned (.bool false) ∧ Jx (pre ++ [x]) W'))
    (hBf : W.cell? ⟨Bf, 0, none⟩ = some (.pointer (some ⟨g, 0, none⟩))) (hBs : W.cell? ⟨Bs, 0, none⟩ = some (.string s)) (hF : Fnd g fold p k D W) (h0 : J [] W) :
    CallsIn Fence.wide n Tryd.prog 37 #[.func (.yield l) #[] #[], .pointer (some ⟨Bf, 0, none⟩), .pointer (some ⟨Bs, 0, none⟩)] W fun e W' => (∃ v, e = .returned v) ∧
      ((∃ ys, ys = Lit.plL fold p s ∧ J ys W') ∨ (∃ pre, pre <+: Lit.plL fold p s ∧ Jx pre W')) := by
  have hpz := hF.pz
  have hbf := lt_of_cell hBf
  have hbs := lt_of_cell hBs
  have HF := Hid.mk' hF
  have HJB := Hid.mk' hJb
  have HD := Hid.mk' hD
  have HY := Hid.mk' hY
  have H0 := Hid.mk' h0
  clear hJb hD hY h0 hF
  refine callsIn_of_wp Tryd.func37 rfl trivial ?_ rfl
  simp only [Tryd.ntmps37, List.size_toArray, List.length_cons, List.length_nil, Nat.reduceAdd, Nat.reduceSub, Array.replicate_succ, Array.replicate_zero, List.push_toArray, List.append_toArray, List.nil_append, List.cons_append]
  gi_wp2_with (refine ⟨trivial, ?_⟩; gi_at_call 17; refine (callsIn_wide.2 (find_any g fold p s k 0 _ D HF.out hs (by omega) (by omega))).mono ?_; rintro e w1 ⟨rfl, hb1⟩; have HB1 := Hid.mk' hb1; clear hb1; rw [show (0 : Int).toNat = 0 from rfl])
  gi_loopw [4] (fun i wr => ∃ (a f : Nat) (pre : List Nat), i = .int .i64 (Lit.fndL fold p s a) ∧ a ≤ s.size + 1 ∧ s.size + 1 ≤ a + f ∧ Hid (Lit.plL fold p s = pre ++ Lit.plcF fold p s f a) ∧ Hid (J pre wr) ∧ Hid (KeepsB (AllD D Bf Bs) W wr))
    (fun i _ => msr s.size (intOf i))
  case atStart => exact ⟨0, s.size + 1, [], rfl, by omega, by omega, rfl, HJB.out _ _ _ H0.out HB1.out, KeepsB.of_below HB1.out (fun k hk => by rcases hk with h | rfl | rfl; exact HD.out k h; exact hbf; exact hbs)⟩
  case round =>
    obtain ⟨a, f, pre, rfl, ha, hf, HL, HJ, HK⟩ := hrel
    have hbd := Lit.fndL_bounds fold p s a
    by_cases hx : 0 ≤ Lit.fndL fold p s a
    · have hx2 := hbd.2.2 hx
      obtain ⟨f, rfl⟩ : ∃ f', f = f' + 1 := ⟨f - 1, by omega⟩
      have hS : Lit.plcF fold p s (f + 1) a = if 0 ≤ Lit.fndL fold p s a then (Lit.fndL fold p s a).toNat :: Lit.plcF fold p s f ((Lit.fndL fold p s a).toNat + 1) else [] := rfl
      rw [if_pos hx] at hS
      obtain ⟨at_, hat⟩ := Int.eq_ofNat_of_zero_le hx
      rw [hat] at hx2 hS
      rw [hat]
      rw [Int.toNat_natCast] at hS
      have HL2 : Hid (Lit.plL fold p s = pre ++ at_ :: Lit.plcF fold p s f (at_ + 1)) := by show _ = _; rw [HL.out, hS]
      have hlen : pre.length < (Lit.plL fold p s).length := by rw [HL2.out]; simp
      have hat2 : a ≤ at_ ∧ at_ + p.size ≤ s.size := by omega
      obtain ⟨fn, tmps, assign, body, hy, hR⟩ := HY.out pre at_ wr HJ.out hlen
      dsimp only [encA] at hy
      clear hat hx hx2 hbd hS HL hlen
      gi_wp2
      refine hR.mono ?_
      rintro e W3 (⟨rfl, hJ3, hk3⟩ | ⟨rfl, hJx3⟩)
      · have HJ3 := Hid.mk' hJ3
        have HK3 := Hid.mk' (HK.out.t hk3)
        have k1 : W3.cell? ⟨Bf, 0, none⟩ = some (.pointer (some ⟨g, 0, none⟩)) := cell_blk (HK3.out Bf (.inr (.inl rfl))) hBf
        have k2 : W3.cell? ⟨Bs, 0, none⟩ = some (.string s) := cell_blk (HK3.out Bs (.inr (.inr rfl))) hBs
        have HF3 : Hid (Fnd g fold p k D W3) := HF.out.keeps (fun j hj => HK3.out j (.inl hj))
        clear hJ3 hk3 hy
        gi_wp2_with (refine ⟨trivial, ?_⟩; gi_at_call 17; refine (callsIn_wide.2 (find_any g fold p s k ((at_ : Int) + 1) _ D HF3.out hs (by omega) (by omega))).mono ?_; rintro e w4 ⟨rfl, hb4⟩; have HB4 := Hid.mk' hb4; clear hb4; rw [show ((at_ : Int) + 1).toNat = at_ + 1 by omega])
        have hbd := Lit.fndL_bounds fold p s (at_ + 1)
        go_roundw
        case rel => exact ⟨at_ + 1, f, pre ++ [at_], rfl, by omega, by omega, by show _ = _; rw [HL2.out]; simp, HJB.out _ _ _ HJ3.out HB4.out, HK3.out.t (KeepsB.of_below HB4.out (fun j hj => by
            refine heap_lt (HK3.out j hj) ?_
            rcases hj with h | rfl | rfl
            · exact HD.out j h
            · exact hbf
            · exact hbs))⟩
        case measure =>
          have hq := hpz.1
          generalize Lit.fndL fold p s (at_ + 1) = z at *
          exact msr_lt s.size at_ z (by omega) (by omega) (by omega)
      · have HJX := Hid.mk' hJx3
        clear hJx3
        gi_wp2
        refine bodyPost_ret (results_none rfl _ _ _) rfl ?_
        refine ⟨⟨_, rfl⟩, .inr ⟨_, ?_, HJX.out⟩⟩
        rw [HL2.out]
        exact ⟨Lit.plcF fold p s f (at_ + 1), by simp⟩
    · have hfin : Lit.plcF fold p s f a = [] := by
        cases f with
        | zero => rfl
        | succ f => unfold Lit.plcF; rw [if_neg hx]
      have HL2 : Hid (Lit.plL fold p s = pre) := by show _ = _; rw [HL.out, hfin, List.append_nil]
      have hx' : ¬ (0 : Int) ≤ Lit.fndL fold p s a := hx
      clear hfin hbd HY
      gi_wp2
      go_end0
      exact ⟨⟨_, rfl⟩, .inl (by rw [HL2.out]; exact HJ.out)⟩
theorem all_stops (n : Nat) (hn : 1 ≤ n) (Bf Bs g : Nat) (fold : Bool) (p s : ByteArray) (k : Int) (D : Nat → Prop) (hs : s.size ≤ 1125899906842624) (w : World) (hD : ∀ k, D k → k < w.heap.size)
    (hBf : w.cell? ⟨Bf, 0, none⟩ = some (.pointer (some ⟨g, 0, none⟩))) (hBs : w.cell? ⟨Bs, 0, none⟩ = some (.string s)) (hF : Fnd g fold p k D w) :
    SeqStopsK Fence.wide n Tryd.prog 37 #[.pointer (some ⟨Bf, 0, none⟩), .pointer (some ⟨Bs, 0, none⟩)] encA (KeepsB (AllD D Bf Bs)) (fun ys => ys = Lit.plL fold p s) (fun pre => pre <+: Lit.plL fold p s) (Lit.plL fold p s).length w := fun l J Jx W hW hJ _ hY h0' => by
  have hz := hW.size
  have hKW : KeepsB D w W := KeepsB.of_below hW hD
  have hbf := lt_of_cell hBf
  have hbs := lt_of_cell hBs
  exact all1_in n hn l Bf Bs g fold p s k D hs J Jx W
    (fun pre W1 W2 h hb => hJ pre W1 W2 none h ⟨hb.os, hb.tape, hb.output, hb.size, fun k hk _ => hb.block k hk⟩ (fun r e => by cases e))
    (fun k hk => by have := hD k hk; omega)
    hY ((hW.cell (p := ⟨Bf, 0, none⟩) hbf).trans hBf) ((hW.cell (p := ⟨Bs, 0, none⟩) hbs).trans hBs) (hF.keeps hKW) h0'
end Go.Proofs.YtecoiifmeajicaaDoor
