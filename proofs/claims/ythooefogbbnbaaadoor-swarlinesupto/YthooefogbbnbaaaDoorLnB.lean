/-
  swar.Lines: a function that hands each line over, up to the last one or as long as it is told to. Conditions: the text is no longer than any text that is read can be; the table of package math/bits lies as its text lays it, and goes on so.
-/
import Derived.Test.YthooefogbbnbaaaDoorIndex
import Derived.Test.YthooefogbbnbaaaDoorLnA
import Derived.Test.YthooefogbbnbaaaDoorBas
import Derived.RangeFuncNested
import Derived.RangeFuncBound
import Derived.RangeFuncCalls
import Derived.RangeFuncLeaves
import Derived.Shelf.Abstract
import Derived.OwnWalkIn
import Derived.TacticsInMore
import Derived.LoopNIn
import Derived.LoopIn
namespace Go.Proofs.YthooefogbbnbaaaDoor
open Go.RowKit Go.Shelf
set_option linter.unusedVariables false
attribute [local go_sem] Oper.semAt_some
abbrev Ln := { x : Nat × ByteArray // x.1 + x.2.size + 1 ≤ 140737488355328 }
def toLn (x : Nat × ByteArray) : Ln := if h : x.1 + x.2.size + 1 ≤ 140737488355328 then ⟨x, h⟩ else ⟨(0, ⟨#[]⟩), by decide⟩
theorem toLn_val (x : Nat × ByteArray) (h : x.1 + x.2.size + 1 ≤ 140737488355328) : (toLn x).1 = x := by unfold toLn; rw [dif_pos h]
def lnL (s : ByteArray) : List Ln := (Swar.linesF s (s.size + 1) 0).map toLn
def encL (x : Ln) : Array Value := #[.int .i64 (x.1.1 : Int), .string x.1.2]
/-- what a round that goes on keeps: whatever lay below n₀, and the block that holds the text -/
def KpL (n₀ Bs : Nat) (W W' : World) : Prop := Below n₀ W W' ∧ W'.heap[Bs]? = W.heap[Bs]?
theorem KpL.t {n₀ Bs : Nat} {A B C : World} (h : KpL n₀ Bs A B) (k : KpL n₀ Bs B C) : KpL n₀ Bs A C := ⟨h.1.trans k.1, k.2.trans h.2⟩
theorem KpL.b {n₀ Bs : Nat} {w : World} (hn : n₀ ≤ w.heap.size) (hb : Bs < w.heap.size) (W : World) (l : Nat) (o o' : Obj) (hl : w.heap.size ≤ l) (h : W.heap[l]? = some o) (h1 : o.isCells = false) (h2 : o.isWalk = false) : KpL n₀ Bs W (W.putObj l o') :=
  ⟨belowK_b hn W l o o' hl h h1 h2, (grownBy_putObj' W l o').block Bs (by have := (Array.getElem?_eq_some_iff.1 h).1; omega) (by simp; omega)⟩
theorem lines_any (s : ByteArray) (w : World) :
    Calls Tryd.prog 5 #[.string s] w fun e w' => e = .returned (.func (.func 7) #[] #[.pointer (some ⟨w.heap.size, 0, none⟩)]) ∧ w' = w.alloc (.cells #[.string s] 9) := by
  go_enter Tryd.func5, Tryd.ntmps5
  go_wp2
  go_ret
  exact ⟨rfl, rfl⟩
set_option maxRecDepth 100000 in
set_option maxHeartbeats 2000000 in
theorem lines1_in (n : Nat) (hn : 1 ≤ n) (l Bs n₀ : Nat) (s : ByteArray) (hs : s.size ≤ 140737488351232) (J Jx : List Ln → World → Prop) (W : World)
    (hJd : ∀ pre W m, J pre W → J pre (W.drewN m)) (hT : ∀ W', Below n₀ W W' → Tab W')
    (hY : ∀ pre x W, J pre W → pre.length < (lnL s).length → YieldAt Fence.wide (n - 1) Tryd.prog l (encL x) W fun e W' =>
      (e = .returned (.bool true) ∧ J (pre ++ [x]) W' ∧ KpL n₀ Bs W W') ∨ (e = .returned (.bool false) ∧ Jx (pre ++ [x]) W'))
    (hBs : W.cell? ⟨Bs, 0, none⟩ = some (.string s)) (h0 : J [] W) :
    CallsIn Fence.wide n Tryd.prog 7 #[.func (.yield l) #[] #[], .pointer (some ⟨Bs, 0, none⟩)] W fun e W' => (∃ v, e = .returned v) ∧
      ((∃ ys, ys = lnL s ∧ J ys W') ∨ (∃ pre, pre <+: lnL s ∧ Jx pre W')) := by
  refine callsIn_of_wp Tryd.func7 rfl trivial ?_ rfl
  simp only [Tryd.ntmps7, List.size_toArray, List.length_cons, List.length_nil, Nat.reduceAdd, Nat.reduceSub, Array.replicate_succ, Array.replicate_zero, List.push_toArray, List.append_toArray, List.nil_append, List.cons_append]
  gi_wp2
  gi_loopw [3] (fun i wr => ∃ (k f : Nat) (pre : List (Nat × ByteArray)), i = .int .i64 (k : Int) ∧ k ≤ s.size + 1 ∧ s.size < k + f ∧ Swar.linesF s (s.size + 1) 0 = pre ++ Swar.linesF s f k ∧ J (pre.map toLn) wr ∧ KpL n₀ Bs W wr)
    (fun i _ => s.size + 1 - (intOf i).toNat)
  case atStart => exact ⟨0, s.size + 1, [], rfl, by omega, by omega, rfl, h0, Below.refl _ _, rfl⟩
  case round =>
    obtain ⟨k, f, pre, rfl, hk, hf, hL, hJs, hbl⟩ := hrel
    have hcs : wr.cell? ⟨Bs, 0, none⟩ = some (.string s) := (World.cell?_of_block (a := ⟨Bs, 0, none⟩) hbl.2).trans hBs
    by_cases hlt : k < s.size
    · obtain ⟨f, rfl⟩ : ∃ g, f = g + 1 := ⟨f - 1, by omega⟩
      have hstep : Swar.linesF s (f + 1) k = (k, s.extract k (Swar.endOf s k)) :: Swar.linesF s f (Swar.endOf s k + 1) := by rw [Swar.linesF, if_pos hlt]
      rw [hstep] at hL
      clear hstep
      have hec := Swar.end_char s k (by omega)
      obtain ⟨e1, he1⟩ : ∃ e1, Swar.endOf s k = e1 := ⟨_, rfl⟩
      have hidx : (Swar.idxL s 10 k < 0 ∧ e1 = s.size) ∨ Swar.idxL s 10 k = ((e1 : Nat) : Int) := by
        rw [← he1]
        unfold Swar.endOf
        by_cases h : Swar.idxL s 10 k < 0
        · rw [if_pos h]; exact .inl ⟨h, rfl⟩
        · rw [if_neg h]; right; omega
      rw [he1] at hL hec
      have hlen : (pre.map toLn).length < (lnL s).length := by unfold lnL; rw [hL]; simp
      have hval : (toLn (k, s.extract k e1)).1 = (k, s.extract k e1) := toLn_val _ (by show k + (s.extract k e1).size + 1 ≤ _; rw [Swar.ext_len s k e1 hec.1 hec.2.1]; omega)
      have HIX := Hid.mk' hidx
      have HL := Hid.mk' hL
      have HLN := Hid.mk' hlen
      have HV := Hid.mk' hval
      have HJ := Hid.mk' hJs
      have HB := Hid.mk' hbl
      have HY := Hid.mk' hY
      have HE := Hid.mk' he1
      have h1 := hec.1
      have h2 := hec.2.1
      have htab := hT wr hbl.1
      have HTT := Hid.mk' hT
      clear hidx hL hlen hval hJs hbl hY he1 hec hT
      rcases HIX.out with ⟨hneg, rfl⟩ | hpos
      · gi_wp2_with (refine ⟨trivial, ?_⟩; gi_at_call 8; refine (callsIn_wide.2 (index_any s 10 (k : Int) _ (by omega) (by omega) (by omega) (by omega) htab)).mono ?_; rintro e w' ⟨rfl, m, rfl⟩; rw [Int.toNat_natCast]; obtain ⟨fn, tmps, assign, body, hy, hR⟩ := HY.out _ (toLn (k, s.extract k s.size)) (wr.drewN m) (hJd _ _ m HJ.out) HLN.out; dsimp only [encL] at hy; rw [HV.out] at hy)
        refine hR.mono ?_
        rintro e W3 (⟨rfl, hJ3, hk3⟩ | ⟨rfl, hJx3⟩)
        · gi_wp2
          go_roundw
          case rel => exact ⟨s.size + 1, f, pre ++ [(k, s.extract k s.size)], by simp, by omega, by omega, by rw [HL.out]; simp, by rw [List.map_append]; exact hJ3, HB.out.t (KpL.t ⟨(Below.refl _ _).drewN' m, rfl⟩ hk3)⟩
          case measure => simp [intOf]; omega
        · gi_wp2
          refine bodyPost_ret (results_none rfl _ _ _) rfl ?_
          refine ⟨⟨_, rfl⟩, .inr ⟨_, ?_, hJx3⟩⟩
          unfold lnL
          rw [HL.out]
          exact ⟨(Swar.linesF s f (s.size + 1)).map toLn, by simp⟩
      · gi_wp2_with (refine ⟨trivial, ?_⟩; gi_at_call 8; refine (callsIn_wide.2 (index_any s 10 (k : Int) _ (by omega) (by omega) (by omega) (by omega) htab)).mono ?_; rintro e w' ⟨rfl, m, rfl⟩; rw [Int.toNat_natCast, hpos]; obtain ⟨fn, tmps, assign, body, hy, hR⟩ := HY.out _ (toLn (k, s.extract k e1)) (wr.drewN m) (hJd _ _ m HJ.out) HLN.out; dsimp only [encL] at hy; rw [HV.out] at hy)
        refine hR.mono ?_
        rintro e W3 (⟨rfl, hJ3, hk3⟩ | ⟨rfl, hJx3⟩)
        · gi_wp2
          go_roundw
          case rel => exact ⟨e1 + 1, f, pre ++ [(k, s.extract k e1)], by simp, by omega, by omega, by rw [HL.out]; simp, by rw [List.map_append]; exact hJ3, HB.out.t (KpL.t ⟨(Below.refl _ _).drewN' m, rfl⟩ hk3)⟩
          case measure => simp [intOf]; omega
        · gi_wp2
          refine bodyPost_ret (results_none rfl _ _ _) rfl ?_
          refine ⟨⟨_, rfl⟩, .inr ⟨_, ?_, hJx3⟩⟩
          unfold lnL
          rw [HL.out]
          exact ⟨(Swar.linesF s f (e1 + 1)).map toLn, by simp⟩
    · have hfin : Swar.linesF s f k = [] := by
        cases f with
        | zero => rfl
        | succ f => rw [Swar.linesF, if_neg hlt]
      rw [hfin, List.append_nil] at hL
      have HL := Hid.mk' hL
      have HJ := Hid.mk' hJs
      clear hL hJs hfin hY
      gi_wp2
      go_end0
      exact ⟨⟨_, rfl⟩, .inl ⟨_, by unfold lnL; rw [HL.out], HJ.out⟩⟩
theorem lines_stops (n : Nat) (hn : 1 ≤ n) (Bs n₀ : Nat) (s : ByteArray) (hs : s.size ≤ 140737488351232) (w : World) (hb : Bs < w.heap.size) (hn0 : n₀ ≤ w.heap.size) (h0 : 0 < n₀) (hT : Tab w)
    (hc : w.cell? ⟨Bs, 0, none⟩ = some (.string s)) :
    SeqStopsK Fence.wide n Tryd.prog 7 #[.pointer (some ⟨Bs, 0, none⟩)] encL (KpL n₀ Bs) (fun ys => ys = lnL s) (fun pre => pre <+: lnL s) (lnL s).length w := fun l J Jx W hW hJ _ hY h0' =>
  lines1_in n hn l Bs n₀ s hs J Jx W
    (fun pre W1 m h => hJ pre W1 _ none h ⟨rfl, rfl, rfl, Nat.le_refl _, fun _ _ _ => rfl⟩ (fun r e => by cases e))
    (fun W' hW' i hi => (hW'.cell (p := ⟨0, i, none⟩) h0).trans (((hW.mono hn0).cell (p := ⟨0, i, none⟩) h0).trans (hT i hi)))
    hY ((hW.cell (p := ⟨Bs, 0, none⟩) hb).trans hc) h0'
end Go.Proofs.YthooefogbbnbaaaDoor
