/-
  The laws' alone: where a word stands, looked for by layer 1. Conditions: as it says.
-/
import Derived.Test.YtlejfeapnnioeaaDoorFo4
import Derived.Test.YtlejfeapnnioeaaDoorIndex
namespace Mn
theorem bt_bl (s : ByteArray) (i : Nat) (h : i < s.size) : Swar.bt s i = (Sums.bl s).getD i 0 := by
  rw [Sums.bl_get s i h]
  unfold Swar.bt
  rw [dif_pos h]
/-- a word stands only where its first letter stands -/
theorem ext_first {x s : ByteArray} {a : Nat} (h1 : 1 ≤ x.size) (h : s.extract a (a + x.size) = x) : Swar.bt s a = Swar.bt x 0 := by
  have hf := ext_fits h1 h
  rw [bt_bl s a (by omega), bt_bl x 0 (by omega)]
  have hb := congrArg Sums.bl h
  rw [Sums.bl_extract] at hb
  rw [← hb, List.getD_eq_getElem?_getD, List.getD_eq_getElem?_getD, List.getElem?_drop, List.getElem?_take, if_pos (by omega)]
  rfl
/-- where the first letter stands next, and what it leaves out -/
theorem idx_alone (x s : ByteArray) (h1 : 1 ≤ x.size) (f : Nat) (hf : f ≤ s.size) : (Swar.idxL s (Swar.bt x 0) f = -1 ∧ alL x s f = alL x s s.size) ∨ ∃ a : Nat, Swar.idxL s (Swar.bt x 0) f = (a : Int) ∧ f ≤ a ∧ a < s.size ∧ alL x s f = alL x s a := by
  unfold Swar.idxL
  rcases Swar.fnd_spec (fun p => Swar.bt s p == Swar.bt x 0) (s.size - f) f with ⟨h2, h3⟩ | ⟨i, h2, h3, h4, h5⟩
  · refine .inl ⟨h2, ?_⟩
    have := alL_skip x s f (s.size - f) fun i hi e => by
      have := h3 i hi
      rw [ext_first h1 e] at this
      simp at this
    rw [show f + (s.size - f) = s.size by omega] at this
    exact this.symm
  · refine .inr ⟨f + i, h3, by omega, by omega, (alL_skip x s f i fun j hj e => ?_).symm⟩
    have := h5 j hj
    rw [ext_first h1 e] at this
    simp at this
theorem alone_end (x s : ByteArray) (h1 : 1 ≤ x.size) (a : Nat) (ha : a ≤ s.size) (h : s.size < a + x.size) : alL x s a = alL x s s.size := by
  have := alL_skip x s a (s.size - a) fun i hi e => by
    have := ext_fits h1 e
    omega
  rw [show a + (s.size - a) = s.size by omega] at this
  exact this.symm
end Mn
namespace Go.Proofs.YtlejfeapnnioeaaDoor
open Go.RowKit Go.Shelf
set_option linter.unusedVariables false
theorem tab_keep {w w' : World} {b : Nat} (hb : w.heap.size = b) (ht : Tab w) (h : Below b w w') : Tab w' := by
  subst hb
  exact ht.below h
theorem sl_runA (s : ByteArray) (a z : Nat) (h : a + z ≤ s.size) (W : World) : (Instr.slice 9 (.string s) (some (.int .i64 (a : Int))) (some (.int .i64 ((a : Int) + (z : Int)))) none).run Tryd.prog W = .ok (.string (s.extract a (a + z))) W := by
  have e1 : ((a : Int) + (z : Int)).toNat = a + z := by omega
  have e3 : (a : Int) + (z : Int) ≤ (s.size : Int) := by omega
  have e4 : (0 : Int) ≤ (a : Int) + (z : Int) := by omega
  simp [go_sem, Instr.slice, e1, e3, e4]
theorem own_relA {w wr w1 : World} {v : Value} {B n : Nat} {xs : List Value} {o : Obj} (hB : B ≤ wr.heap.size) (hown : wr.ownsRow B 3 1 v n xs) (hb : Below B w wr) (hg : (wr.alloc o).grownBy w1 v.ownBlock) : Below B w w1 :=
  (hb.alloc hB o).grown hg (by simp; omega) (fun k e => (hown.lt k e).1)
/-- what the row holds, by where one looks -/
def AloR (x s : ByteArray) (A : Int) (l : List Nat) : Prop := (A = -1 ∧ l = Mn.alL x s s.size) ∨ ∃ a : Nat, A = (a : Int) ∧ a < s.size ∧ l = Mn.alL x s a
set_option maxRecDepth 100000 in
set_option maxHeartbeats 2000000 in
theorem alone_any (x s : ByteArray) (w : World) (hx : 1 ≤ x.size) (hxs : x.size ≤ 1000000) (hs : s.size ≤ 4294967296) (ht : Tab w) :
    Calls Tryd.prog 11 #[.string x, .string s] w fun e w' => ∃ v, e = .returned v ∧ w'.ownsRow w.heap.size 3 1 v (Mn.alL x s s.size).length (intL (Mn.alL x s s.size)) ∧ Below w.heap.size w w' := by
  obtain ⟨b, hb⟩ : ∃ b, w.heap.size = b := ⟨_, rfl⟩
  obtain ⟨c0, hc0⟩ : ∃ c0, (Sums.bl x).getD 0 0 = c0 := ⟨_, rfl⟩
  have hbt : Swar.bt x 0 = c0 := by rw [Mn.bt_bl x 0 (by omega)]; exact hc0
  have hc256 : c0 < 256 := by rw [← hbt]; exact Swar.bt_lt x 0
  have hix : ∀ W, (Instr.index 9 (.string x) (.int .i64 0)).run Tryd.prog W = .ok (.int .u8 (c0 : Int)) W := fun W => idx_m x 0 c0 (by omega) hc0.symm W
  have HIX := Hid.mk' (fun (f : Int) (w : World) h1 h2 t => index_any s c0 f w (by omega) hc256 h1 h2 t)
  have HAL := Hid.mk' (fun f hf => Mn.idx_alone x s hx f hf)
  rw [hbt] at HAL
  have HT := Hid.mk' ht
  have HE := Hid.mk' (fun a ha h => Mn.alone_end x s hx a ha h)
  rw [hb]
  clear ht hc0 hbt
  have h00 : (0 : Int).toNat = 0 := rfl
  go_enter Tryd.func11, Tryd.ntmps11
  go_wp2_with (first
    | (go_at_call 27; refine (HIX.out 0 _ (by omega) (by omega) HT.out).mono ?_; rintro e w1 ⟨rfl, hw1⟩; have HB1 : Hid (Below b w w1) := (by obtain ⟨j, rfl⟩ := hw1; exact (Below.refl _ _).drewN' j); clear hw1)
    | fail)
  go_loopw [5, 6, 7] (fun ov iv nv wr => ∃ (q : Option Addr) (n c : Nat) (l : List Nat) (A : Int), ov = .slice q n c ∧ iv = .int .i64 A ∧ Hid (AloR x s A l) ∧ Hid (l.length = n) ∧ Hid (wr.ownsRow b 3 1 (.slice q n c) n (intL l)) ∧ Hid (Below b w wr)) (fun ov iv nv _ => s.size - (intOf iv).toNat)
  case atStart =>
    refine ⟨none, 0, 0, [], _, rfl, rfl, ?_, rfl, World.ownsRow_nil _ _ _ _, HB1⟩
    rcases HAL.out 0 (by omega) with ⟨h1, h2⟩ | ⟨a, h1, _, h2, h3⟩
    · exact .inl ⟨h1, h2⟩
    · exact .inr ⟨a, h1, h2, h3⟩
  case round =>
    obtain ⟨q, n, c, l, A, rfl, rfl, hA, hn, hrow, hbel⟩ := hrel
    rename World => wr
    rcases hA.out with ⟨rfl, hl⟩ | ⟨a, rfl, has, hl⟩
    · go_wp2
      go_ret
      refine ⟨_, rfl, ?_, hbel.out⟩
      rw [← hl, hn.out]
      exact hrow.out
    · by_cases hin : a + x.size ≤ s.size
      · have hinI : (a : Int) ≤ (s.size : Int) - (x.size : Int) := by omega
        have hwr1 : IntKind.i64.wrap ((s.size : Int) - (x.size : Int)) = (s.size : Int) - (x.size : Int) := by rw [IntKind.wrap_i64]; omega
        have hwr2 : IntKind.i64.wrap ((a : Int) + (x.size : Int)) = (a : Int) + (x.size : Int) := by rw [IntKind.wrap_i64]; omega
        have hwr3 : IntKind.i64.wrap ((a : Int) + 1) = (a : Int) + 1 := by rw [IntKind.wrap_i64]; omega
        have hsl := fun W => sl_runA s a x.size hin W
        have hlen := Mn.alL_len x s a
        have hnx := Mn.alL_next x s a
        have hto : ((a : Int) + 1).toNat = a + 1 := by omega
        by_cases he : s.extract a (a + x.size) = x
        · rw [if_pos he] at hnx
          rw [he] at hsl
          obtain ⟨l1, hl1'⟩ : ∃ l1, l ++ [a + x.size] = l1 := ⟨_, rfl⟩
          have hl1 : Hid (intL l1 = intL l ++ [.int .i64 ((a : Int) + (x.size : Int))]) := Hid.mk' (by rw [← hl1']; simp [intL])
          have hl1e : Hid (l1 = Mn.alL x s (a + 1)) := Hid.mk' (by rw [← hl1', hl, hnx])
          have hl1n : Hid (l1.length = n + 1) := Hid.mk' (by rw [← hl1', List.length_append, hn.out]; rfl)
          have hnb : n ≤ a := by rw [← hn.out, hl]; exact hlen
          have hszw : b ≤ wr.heap.size := by have := hbel.out.size; omega
          obtain ⟨i0, j1, j2, j3, j4⟩ := info_parts infoI
          have HJ := Hid.mk' (And.intro j1 (And.intro j2 (And.intro j3 j4)))
          clear j1 j2 j3 j4 hnx hlen hl1'
          rcases HAL.out (a + 1) (by omega) with ⟨i1, i2⟩ | ⟨a2, i1, i3, i4, i5⟩
          · have hm1 : (-1 : Int) ≤ (a : Int) := by omega
            go_wp2_with (first | (at_builtin; refine wpList_append_own _ rfl _ _ 33 rfl b 3 i0 (.int .i64 0) 1 8 Tryd.underlying33 HJ.out.1 HJ.out.2.1 HJ.out.2.2.1 HJ.out.2.2.2 rfl (by decide) _ _ _ rfl (hrow.out.alloc _) ⟨wr.heap.size, 0, none⟩ 1 1 [.int .i64 ((a : Int) + (x.size : Int))] rfl rfl (int_news _ _ _ rfl) (int_one _) (by unfold maxLen; omega) (by omega) (by simp only [World.size_alloc]; omega) ?_; intro v6 w6 ho6 hg6 _; obtain ⟨p6, c6, rfl⟩ := mr_shape ho6; have HB6 : Hid (Below b w w6) := own_relA hszw hrow.out hbel.out hg6; have HR6 : Hid (w6.ownsRow b 3 1 (.slice p6 (n + 1) c6) (n + 1) (intL l1)) := (by rw [hl1.out]; exact ho6); have HT6 := Hid.mk' (tab_keep hb HT.out HB6.out); clear ho6 hg6) | (go_at_call 27; refine (HIX.out ((a : Int) + 1) _ (by omega) (by omega) HT6.out).mono ?_; rintro e w7 ⟨rfl, hw7⟩; rw [hto, i1]; have HB7 : Hid (Below b w w7) := (by obtain ⟨j, rfl⟩ := hw7; exact HB6.out.drewN' j); have HR7 : Hid (w7.ownsRow b 3 1 (.slice p6 (n + 1) c6) (n + 1) (intL l1)) := (by obtain ⟨j, rfl⟩ := hw7; exact HR6.out); clear hw7) | fail)
            go_ret
            refine ⟨_, rfl, ?_, HB7.out⟩
            rw [← i2, ← hl1e.out, hl1n.out]
            exact HR7.out
          · have hm1 : ¬ (a2 : Int) ≤ (a : Int) := by omega
            go_wp2_with (first | (at_builtin; refine wpList_append_own _ rfl _ _ 33 rfl b 3 i0 (.int .i64 0) 1 8 Tryd.underlying33 HJ.out.1 HJ.out.2.1 HJ.out.2.2.1 HJ.out.2.2.2 rfl (by decide) _ _ _ rfl (hrow.out.alloc _) ⟨wr.heap.size, 0, none⟩ 1 1 [.int .i64 ((a : Int) + (x.size : Int))] rfl rfl (int_news _ _ _ rfl) (int_one _) (by unfold maxLen; omega) (by omega) (by simp only [World.size_alloc]; omega) ?_; intro v6 w6 ho6 hg6 _; obtain ⟨p6, c6, rfl⟩ := mr_shape ho6; have HB6 : Hid (Below b w w6) := own_relA hszw hrow.out hbel.out hg6; have HR6 : Hid (w6.ownsRow b 3 1 (.slice p6 (n + 1) c6) (n + 1) (intL l1)) := (by rw [hl1.out]; exact ho6); have HT6 := Hid.mk' (tab_keep hb HT.out HB6.out); clear ho6 hg6) | (go_at_call 27; refine (HIX.out ((a : Int) + 1) _ (by omega) (by omega) HT6.out).mono ?_; rintro e w7 ⟨rfl, hw7⟩; rw [hto, i1]; have HB7 : Hid (Below b w w7) := (by obtain ⟨j, rfl⟩ := hw7; exact HB6.out.drewN' j); have HR7 : Hid (w7.ownsRow b 3 1 (.slice p6 (n + 1) c6) (n + 1) (intL l1)) := (by obtain ⟨j, rfl⟩ := hw7; exact HR6.out); clear hw7) | fail)
            go_roundw
            case rel => exact ⟨p6, n + 1, c6, l1, (a2 : Int), rfl, rfl, Hid.mk' (.inr ⟨a2, rfl, i4, hl1e.out.trans i5⟩), hl1n, HR7, HB7⟩
            case measure =>
              simp [intOf]
              omega
        · rw [if_neg he] at hnx
          obtain ⟨y, hy⟩ : ∃ y, s.extract a (a + x.size) = y := ⟨_, rfl⟩
          rw [hy] at he hsl
          have hneL := toL_ne he
          have hneB : (y.toList == x.toList) = false := by simp [hneL]
          clear hy
          obtain ⟨l1, hl1'⟩ : ∃ l1, l = l1 := ⟨_, rfl⟩
          have hl1 : Hid (intL l1 = intL l) := Hid.mk' (by rw [← hl1'])
          have hl1e : Hid (l1 = Mn.alL x s (a + 1)) := Hid.mk' (by rw [← hl1', hl, hnx])
          have hl1n : Hid (l1.length = n) := Hid.mk' (by rw [← hl1']; exact hn.out)
          have hnb : n ≤ a := by rw [← hn.out, hl]; exact hlen
          have hszw : b ≤ wr.heap.size := by have := hbel.out.size; omega
          obtain ⟨i0, j1, j2, j3, j4⟩ := info_parts infoI
          have HJ := Hid.mk' (And.intro j1 (And.intro j2 (And.intro j3 j4)))
          clear j1 j2 j3 j4 hnx hlen hl1'
          rcases HAL.out (a + 1) (by omega) with ⟨i1, i2⟩ | ⟨a2, i1, i3, i4, i5⟩
          · have hm1 : (-1 : Int) ≤ (a : Int) := by omega
            go_wp2_with (first | (go_at_call 27; refine (HIX.out ((a : Int) + 1) _ (by omega) (by omega) (tab_keep hb HT.out hbel.out)).mono ?_; rintro e w7 ⟨rfl, hw7⟩; rw [hto, i1]; have HB7 : Hid (Below b w w7) := (by obtain ⟨j, rfl⟩ := hw7; exact hbel.out.drewN' j); have HR7 : Hid (w7.ownsRow b 3 1 (.slice q n c) n (intL l1)) := (by obtain ⟨j, rfl⟩ := hw7; exact (by rw [hl1.out]; exact hrow.out)); clear hw7) | fail)
            go_ret
            refine ⟨_, rfl, ?_, HB7.out⟩
            rw [← i2, ← hl1e.out, hl1n.out]
            exact HR7.out
          · have hm1 : ¬ (a2 : Int) ≤ (a : Int) := by omega
            go_wp2_with (first | (go_at_call 27; refine (HIX.out ((a : Int) + 1) _ (by omega) (by omega) (tab_keep hb HT.out hbel.out)).mono ?_; rintro e w7 ⟨rfl, hw7⟩; rw [hto, i1]; have HB7 : Hid (Below b w w7) := (by obtain ⟨j, rfl⟩ := hw7; exact hbel.out.drewN' j); have HR7 : Hid (w7.ownsRow b 3 1 (.slice q n c) n (intL l1)) := (by obtain ⟨j, rfl⟩ := hw7; exact (by rw [hl1.out]; exact hrow.out)); clear hw7) | fail)
            go_roundw
            case rel => exact ⟨q, n, c, l1, (a2 : Int), rfl, rfl, Hid.mk' (.inr ⟨a2, rfl, i4, hl1e.out.trans i5⟩), hl1n, HR7, HB7⟩
            case measure =>
              simp [intOf]
              omega
      · have hinI : ¬ (a : Int) ≤ (s.size : Int) - (x.size : Int) := by omega
        have hwr1 : IntKind.i64.wrap ((s.size : Int) - (x.size : Int)) = (s.size : Int) - (x.size : Int) := by rw [IntKind.wrap_i64]; omega
        go_wp2
        go_ret
        refine ⟨_, rfl, ?_, hbel.out⟩
        rw [← HE.out a (by omega) (by omega), ← hl, hn.out]
        exact hrow.out
end Go.Proofs.YtlejfeapnnioeaaDoor
