/-
  What the document's All does: all places, by borders. Conditions: as each says.
-/
import Derived.Test.YtecoiifmeajicaaDoorFld6
import Derived.Test.YtecoiifmeajicaaDoorPlc6
import Derived.Test.YtecoiifmeajicaaDoorLitF
namespace Go.Proofs.YtecoiifmeajicaaDoor
open Go.RowKit
set_option linter.unusedVariables false
/-- the borders so far -/
structure BdT (B n i : Nat) (qv : Nat → Nat) (J : Nat → Nat) (W : World) : Prop where
  c : TblAt B 0 (n + 1) .i64 J W
  f : Thaw B W
  b : ∀ j, 1 ≤ j → j ≤ i → Lit.Bd qv j (J j)
theorem BdT.keep {B n i N : Nat} {qv J : Nat → Nat} {W W' : World} (h : BdT B n i qv J W) (hb : Below N W W') (hB : B < N) : BdT B n i qv J W' := ⟨h.c.below hb hB, h.f.below hb hB, h.b⟩
theorem BdT.drew {B n i m : Nat} {qv J : Nat → Nat} {W : World} (h : BdT B n i qv J W) : BdT B n i qv J (W.drewN m) := ⟨h.c, h.f, h.b⟩
theorem BdT.next {B n i k : Nat} {qv J : Nat → Nat} {W : World} (h : BdT B n i qv J W) (hi : i < n) (hk : Lit.Bd qv (i + 1) k) : BdT B n (i + 1) qv (upd J (i + 1) k) (W.setCell ⟨B, 0 + (i + 1), none⟩ (.int .i64 (k : Int))) :=
  ⟨h.c.set (i + 1) k (by omega), h.f.set _ _, fun j h1 h2 => by
    unfold upd
    by_cases e : j = i + 1
    · rw [if_pos e, e]; exact hk
    · rw [if_neg e]; exact h.b j h1 (by omega)⟩
theorem make_ints (W : World) (n : Nat) (hn : n ≤ 256) : (Instr.makeSlice 34 (.int .i64 ((n : Int) + 1)) (.int .i64 ((n : Int) + 1))).run Tryd.prog W = .ok (.slice (some ⟨W.heap.size, 0, none⟩) (n + 1) (n + 1)) (W.alloc (.cells (List.replicate (n + 1) (Value.int .i64 0)).toArray 3)) := by
  obtain ⟨i0, hi, hz0, hz1, hz2⟩ := infoI_parts
  have h := run_make (P := Tryd.prog) W 34 3 i0 (.int .i64 0) Tryd.underlying34 hi hz0 .i64 .i64 ((n : Int) + 1) ((n : Int) + 1) (by omega) (by omega) (by rw [hz2]; omega) (by omega)
  rw [h, show ((n : Int) + 1).toNat = n + 1 by omega, hz1, Nat.mul_one]
  have e : madeCells (Value.int .i64 0).cells (n + 1) = (List.replicate (n + 1) (Value.int .i64 0)).toArray := by
    rw [← toList_madeCells_one, Array.toArray_toList]
    rfl
  rw [e]
theorem made_tbl (W : World) (n : Nat) : TblAt W.heap.size 0 (n + 1) .i64 (fun _ => 0) (W.alloc (.cells (List.replicate (n + 1) (Value.int .i64 0)).toArray 3)) := fun b hb => cells_new _ _ _ _ _ (by
  rw [Nat.zero_add]
  simp [hb])
theorem eql_int (a b : Int) (w : World) : (binOp .eql 3 (.int .i64 a) (.int .i64 b)).run Tryd.prog w = .ok (.bool (a == b)) w := by first | rfl | simp [go_sem]
theorem eql_yes (a b : Int) (h : a = b) (w : World) : (binOp .eql 3 (.int .i64 a) (.int .i64 b)).run Tryd.prog w = .ok (.bool true) w := by rw [eql_int, beq_iff_eq.2 h]
theorem own_base {w : World} {b b' : Nat} {e : TypeId} {sz n : Nat} {v : Value} {xs : List Value} (h : w.ownsRow b' e sz v n xs) (hb : b ≤ b') : w.ownsRow b e sz v n xs := by
  refine ⟨h.1, ?_⟩
  rcases h.2 with h2 | ⟨g, cap, cur, h1, h2, h3⟩
  · exact .inl h2
  · exact .inr ⟨g, cap, cur, h1, by omega, h3⟩
theorem intv_snoc (l : List Nat) (x : Nat) : intv (l ++ [x]) = intv l ++ [.int .i64 (x : Int)] := by simp [intv]
theorem own_relI {w wr w1 : World} {v : Value} {B n : Nat} {xs : List Value} {o : Obj} (hB : B ≤ wr.heap.size) (hown : wr.ownsRow B 3 1 v n xs) (hb : Below B w wr) (hg : (wr.alloc o).grownBy w1 v.ownBlock) : Below B w w1 :=
  (hb.alloc hB o).grown hg (by simp; omega) (fun k hk => (hown.lt k hk).1)
set_option maxRecDepth 100000 in
set_option maxHeartbeats 8000000 in
theorem refAll_false (g : Nat) (p s : ByteArray) (w : World) (hp : 1 ≤ p.size ∧ p.size ≤ 256) (hs : s.size ≤ 17592186044000) (c0 : w.cell? ⟨g, 0, none⟩ = some (.string p)) (c1 : w.cell? ⟨g, 1, none⟩ = some (.bool false)) :
    Calls Tryd.prog 16 #[.pointer (some ⟨g, 0, none⟩), .string s] w fun e w' => ∃ v, e = .returned v ∧ w'.ownsRow w.heap.size 3 1 v (Lit.plL false p s).length (intv (Lit.plL false p s)) ∧ Below w.heap.size w w' := by
  obtain ⟨i0, hi, hz0, hz1, hz2⟩ := infoI_parts
  have hg : g < w.heap.size := lt_of_cell c0
  have HUE := Hid.mk' (Lit.upI_end false p s hp.1)
  have HU0 := Hid.mk' (Lit.upI_0 false p s hp.1)
  have HUY := Hid.mk' (fun i h => Lit.upI_yes false p s i h)
  have HUN := Hid.mk' (fun i h => Lit.upI_no false p s i hp.1 h)
  have HUL := Hid.mk' (fun i => Lit.upI_len false p s i hp.1)
  have HLS := Hid.mk' (fun k i h1 h2 => Lit.lg_st false p s k i h1 h2)
  have HLG0 := Hid.mk' (Lit.lg_start (Lit.qf false p) (Lit.qf false s) p.size)
  have HQL : Hid (∀ i, Lit.qf false p i < 256) := fun i => Lit.cs_lt false _ (Swar.bt_lt _ _)
  have HTL : Hid (∀ i, Swar.bt s i < 256) := fun i => Swar.bt_lt s i
  obtain ⟨n, hn⟩ : ∃ n, p.size = n := ⟨_, rfl⟩
  have HQZ : Hid (p.size = n) := hn
  have HQB : Hid (∀ i, Swar.bt p i = Lit.qf false p i) := fun i => rfl
  have hps : p.size ≤ 140737488351232 := by omega
  rw [hn] at hp HUY HUN HLS HLG0
  generalize hpl : Lit.plL false p s = PL at *
  generalize hup : Lit.upI false p s = UP at *
  generalize hqv : Lit.qf false p = qv at *
  have HST : Hid (∀ i, Swar.bt s i = Lit.qf false s i) := fun i => rfl
  generalize hts : Lit.qf false s = Ts at *
  clear hpl hup hqv hts
  have hqz := HQZ.out
  have hb1 : Below w.heap.size w w := Below.refl _ _
  have c1' := c1
  go_enter Tryd.func16, Tryd.ntmps16
  have hmk := make_ints w n hp.2
  have HT0 := Hid.mk' (made_tbl w n)
  have HF0 : Hid (Thaw w.heap.size (w.alloc (.cells (List.replicate (n + 1) (Value.int .i64 0)).toArray 3))) := thaw_new _ _ _
  have HB0 : Hid (Below w.heap.size w (w.alloc (.cells (List.replicate (n + 1) (Value.int .i64 0)).toArray 3))) := hb1.alloc hb1.size _
  have hXB : w.heap.size < (w.alloc (.cells (List.replicate (n + 1) (Value.int .i64 0)).toArray 3)).heap.size := by simp
  have hNB := hb1.size
  generalize hW2 : (w.alloc (.cells (List.replicate (n + 1) (Value.int .i64 0)).toArray 3)) = W2 at *
  clear hW2
  obtain ⟨B, hB⟩ : ∃ B, w.heap.size = B := ⟨_, rfl⟩
  rw [hB] at hmk HT0 HF0 hXB
  obtain ⟨N, hN⟩ : ∃ N, w.heap.size = N := ⟨_, rfl⟩
  rw [hN] at HB0 hg
  have hNB2 : N ≤ B := by omega
  have HNE := Hid.mk' hN
  clear hNB hB hN hb1
  go_wp2_with fail
  have HS0 : Hid (BdT B n 1 qv (fun _ => 0) W2) := ⟨HT0.out, HF0.out, fun j h1 h2 => by
    have e : j = 1 := by omega
    rw [e]
    exact Lit.bd_one qv⟩
  clear HT0 HF0 hmk
  go_loopw [8, 9] (fun kv iv wr => ∃ (i k : Nat) (J : Nat → Nat), 1 ≤ i ∧ i ≤ n ∧ kv = .int .i64 (k : Int) ∧ iv = .int .i64 (i : Int) ∧ Hid (Lit.Bd qv i k) ∧ Hid (BdT B n i qv J wr) ∧ Hid (Below N w wr) ∧ B < wr.heap.size) (fun _ iv _ => n + 1 - (intOf iv).toNat)
  case atStart => exact ⟨1, 0, fun _ => 0, by omega, hp.1, rfl, rfl, Lit.bd_one qv, HS0.out, HB0.out, hXB⟩
  case round =>
    obtain ⟨i, k, J, hi1, hin, rfl, rfl, HBD, HT, HB, hBw⟩ := hrel
    by_cases hlt : i < n
    · have hlI : (i : Int) < (n : Int) := by omega
      have hki := Lit.bd_lt qv i k HBD.out
      have ixi := idx_byte p i (by omega)
      rw [HQB.out i] at ixi
      have hqi := HQL.out i
      have HFB0 := Hid.mk' (Lit.fb_of qv qv n 1 k i ((Lit.bd_lg qv n k i (by omega)).1 HBD.out))
      go_wp2_with fail
      go_loopw [8] (fun kv wz => ∃ j : Nat, j < i ∧ kv = .int .i64 (j : Int) ∧ Hid (Lit.Fb qv qv n 1 j i) ∧ Hid (∃ m, wz = wr.drewN m)) (fun kv _ => (intOf kv).toNat)
      case atStart => exact ⟨k, hki, rfl, HFB0.out, 0, rfl⟩
      case round =>
        obtain ⟨j, hji, rfl, HFB, HW⟩ := hrel
        rename World => wz
        have ixj := idx_byte p j (by omega)
        rw [HQB.out j] at ixj
        have hqj := HQL.out j
        obtain ⟨x, hx⟩ : ∃ x, qv i = x := ⟨_, rfl⟩
        obtain ⟨y, hy⟩ : ∃ y, qv j = y := ⟨_, rfl⟩
        rw [hx] at ixi hqi
        rw [hy] at ixj hqj
        have HX := Hid.mk' hx
        have HY := Hid.mk' hy
        have cj : wz.cell? ⟨B, j, none⟩ = some (.int .i64 ((J j : Nat) : Int)) := by
          obtain ⟨m, rfl⟩ := HW.out
          have h := HT.out.c j (by omega)
          rw [Nat.zero_add] at h
          exact h
        clear hx hy
        by_cases hxy : x = y
        · subst hxy
          have hne : ((x : Int) != (x : Int)) = false := by simp
          have hee : ((x : Int) == (x : Int)) = true := by simp
          have HLN : Hid (Lit.Bd qv (i + 1) (j + 1)) := (Lit.bd_lg qv n (j + 1) (i + 1) (by omega)).2 (Lit.lg_on qv qv n 1 j i HFB.out (by omega) (by rw [HX.out, HY.out]))
          have hfin : ∀ (m : Nat), BdT B n (i + 1) qv (upd J (i + 1) (j + 1)) ((wz.drewN m).setCell ⟨B, i + 1, none⟩ (.int .i64 ((j : Int) + 1))) ∧ Below N w ((wz.drewN m).setCell ⟨B, i + 1, none⟩ (.int .i64 ((j : Int) + 1))) ∧ B < ((wz.drewN m).setCell ⟨B, i + 1, none⟩ (.int .i64 ((j : Int) + 1))).heap.size ∧ (wz.drewN m).cell? ⟨B, i + 1, none⟩ = some (.int .i64 ((J (i + 1) : Nat) : Int)) ∧ (wz.drewN m).frozen? ⟨B, i + 1, none⟩ = false := fun m => by
            obtain ⟨m1, rfl⟩ := HW.out
            have hT : BdT B n i qv J ((wr.drewN m1).drewN m) := HT.out.drew.drew
            have h1 := hT.next (by omega) HLN.out
            have h2 := hT.c (i + 1) (by omega)
            have h3 := hT.f (i + 1)
            rw [Nat.zero_add] at h1 h2
            refine ⟨by have e : (((j + 1 : Nat) : Int)) = (j : Int) + 1 := by omega
                       rw [e] at h1; exact h1, ((HB.out.drewN' m1).drewN' m).setCell (p := ⟨B, i + 1, none⟩) hNB2 _, by rw [World.size_setCell]; exact hBw, h2, h3⟩
          have HFIN := Hid.mk' hfin
          clear hfin
          by_cases hj0 : 0 < j
          · have hjI : (0 : Int) < (j : Int) := by omega
            have hjd : decide ((0 : Int) < (j : Int)) = true := decide_eq_true hjI
            go_wp2_with fail
            go_quiet (fail)
            go_wp2_with fail
            have HW4 : Hid (∃ m, wz.drewN nq = wz.drewN m) := ⟨nq, rfl⟩
            generalize wz.drewN nq = W4 at *
            go_quiet (fail)
            obtain ⟨m5, hm5⟩ : ∃ m5, W4.drewN nq = wz.drewN m5 := by obtain ⟨m, hm⟩ := HW4.out; exact ⟨m + nq, by rw [hm]; exact drew_drew _ _ _⟩
            rw [hm5]
            obtain ⟨g1, g2, g3, g4, g5⟩ := HFIN.out m5
            have HG := Hid.mk' (And.intro g1 (And.intro g2 g3))
            clear g1 g2 g3 hm5
            generalize wz.drewN m5 = W5 at *
            go_wp2_with fail
            exact ⟨⟨i + 1, j + 1, upd J (i + 1) (j + 1), by omega, by omega, by go_num, by go_num, HLN.out, HG.out.1, HG.out.2.1, HG.out.2.2⟩, by simp [intOf]; omega⟩
          · obtain rfl : j = 0 := by omega
            clear hj0
            have ixj0 : ∀ W, (Instr.index 9 (.string p) (.int .i64 0)).run Tryd.prog W = .ok (.int .u8 (x : Int)) W := ixj
            go_wp2_with fail
            go_quiet (fail)
            go_wp2_with fail
            have HW4 : Hid (∃ m, wz.drewN nq = wz.drewN m) := ⟨nq, rfl⟩
            generalize wz.drewN nq = W4 at *
            go_quiet (fail)
            obtain ⟨m5, hm5⟩ : ∃ m5, W4.drewN nq = wz.drewN m5 := by obtain ⟨m, hm⟩ := HW4.out; exact ⟨m + nq, by rw [hm]; exact drew_drew _ _ _⟩
            rw [hm5]
            obtain ⟨g1, g2, g3, g4, g5⟩ := HFIN.out m5
            have HG := Hid.mk' (And.intro g1 (And.intro g2 g3))
            clear g1 g2 g3 hm5
            generalize wz.drewN m5 = W5 at *
            go_wp2_with fail
            exact ⟨⟨i + 1, 1, upd J (i + 1) 1, by omega, by omega, rfl, by go_num, HLN.out, HG.out.1, HG.out.2.1, HG.out.2.2⟩, by simp [intOf]; omega⟩
        · by_cases hj0 : 0 < j
          · have hjI : (0 : Int) < (j : Int) := by omega
            have hjd : decide ((0 : Int) < (j : Int)) = true := decide_eq_true hjI
            have hne : ((x : Int) != (y : Int)) = true := by simp; omega
            have hbj := HT.out.b j (by omega) (by omega)
            have hlt2 := Lit.bd_lt qv j (J j) hbj
            have HNX := Hid.mk' (Lit.fb_step qv qv n 1 j i (J j) HFB.out hbj (.inr (by rw [HX.out, HY.out]; exact fun e => hxy e.symm)))
            clear hbj
            go_wp2_with fail
            go_quiet (fail)
            have HW3 : Hid (∃ m, wz.drewN nq = wr.drewN m) := by obtain ⟨m, rfl⟩ := HW.out; exact ⟨m + nq, drew_drew _ _ _⟩
            have cj3 : (wz.drewN nq).cell? ⟨B, j, none⟩ = some (.int .i64 ((J j : Nat) : Int)) := cj
            generalize wz.drewN nq = W3 at *
            go_wp2_with fail
            exact ⟨⟨J j, by omega, rfl, HNX.out, HW3.out⟩, by simp [intOf]; omega⟩
          · obtain rfl : j = 0 := by omega
            clear hj0
            have ixj0 : ∀ W, (Instr.index 9 (.string p) (.int .i64 0)).run Tryd.prog W = .ok (.int .u8 (y : Int)) W := ixj
            have hee : ((x : Int) == (y : Int)) = false := beq_eq_false_iff_ne.2 (by omega)
            have HLN : Hid (Lit.Bd qv (i + 1) 0) := (Lit.bd_lg qv n 0 (i + 1) (by omega)).2 (Lit.lg_off qv qv n 1 i HFB.out (by omega) (by rw [HX.out, HY.out]; exact fun e => hxy e.symm))
            have hfin : ∀ (m : Nat), BdT B n (i + 1) qv (upd J (i + 1) 0) ((wz.drewN m).setCell ⟨B, i + 1, none⟩ (.int .i64 0)) ∧ Below N w ((wz.drewN m).setCell ⟨B, i + 1, none⟩ (.int .i64 0)) ∧ B < ((wz.drewN m).setCell ⟨B, i + 1, none⟩ (.int .i64 0)).heap.size ∧ (wz.drewN m).cell? ⟨B, i + 1, none⟩ = some (.int .i64 ((J (i + 1) : Nat) : Int)) ∧ (wz.drewN m).frozen? ⟨B, i + 1, none⟩ = false := fun m => by
              obtain ⟨m1, rfl⟩ := HW.out
              have hT : BdT B n i qv J ((wr.drewN m1).drewN m) := HT.out.drew.drew
              have h1 := hT.next (by omega) HLN.out
              have h2 := hT.c (i + 1) (by omega)
              have h3 := hT.f (i + 1)
              rw [Nat.zero_add] at h1 h2
              exact ⟨h1, ((HB.out.drewN' m1).drewN' m).setCell (p := ⟨B, i + 1, none⟩) hNB2 _, by rw [World.size_setCell]; exact hBw, h2, h3⟩
            have HFIN := Hid.mk' hfin
            clear hfin
            go_wp2_with fail
            go_quiet (fail)
            go_wp2_with fail
            have HW4 : Hid (∃ m, wz.drewN nq = wz.drewN m) := ⟨nq, rfl⟩
            generalize wz.drewN nq = W4 at *
            go_quiet (fail)
            obtain ⟨m5, hm5⟩ : ∃ m5, W4.drewN nq = wz.drewN m5 := by obtain ⟨m, hm⟩ := HW4.out; exact ⟨m + nq, by rw [hm]; exact drew_drew _ _ _⟩
            rw [hm5]
            obtain ⟨g1, g2, g3, g4, g5⟩ := HFIN.out m5
            have HG := Hid.mk' (And.intro g1 (And.intro g2 g3))
            clear g1 g2 g3 hm5
            generalize wz.drewN m5 = W5 at *
            go_wp2_with fail
            exact ⟨⟨i + 1, 0, upd J (i + 1) 0, by omega, by omega, rfl, by go_num, HLN.out, HG.out.1, HG.out.2.1, HG.out.2.2⟩, by simp [intOf]; omega⟩
    · have hlI : ¬ (i : Int) < (n : Int) := by omega
      obtain rfl : i = n := by omega
      have hi1I : (0 : Int) < (i : Int) := by omega
      have hnd : decide ((0 : Int) < (i : Int)) = true := decide_eq_true hi1I
      clear HBD HS0 hin hlt
      have HOW0 : Hid (wr.ownsRow (B + 1) 3 1 (.slice none 0 0) (UP 0).length (intv (UP 0))) := by
        show World.ownsRow _ _ _ _ _ _ _
        rw [HU0.out]
        exact World.ownsRow_nil wr (B + 1) 3 1
      go_wp2_with fail
      rename World => wo
      go_loopw [8, 10, 11] (fun kv ov iv wz => ∃ (t k : Nat) (po : Option Addr) (co ln : Nat), t ≤ s.size ∧ k ≤ i ∧ ln ≤ t ∧ kv = .int .i64 (k : Int) ∧ ov = .slice po ln co ∧ iv = .int .i64 (t : Int) ∧ Hid ((UP t).length = ln) ∧ Hid (Lit.Lg qv Ts i 0 k t) ∧ Hid (wz.ownsRow (B + 1) 3 1 (.slice po ln co) ln (intv (UP t))) ∧ Hid (Below (B + 1) wo wz)) (fun _ _ iv _ => s.size + 1 - (intOf iv).toNat)
      case atStart => exact ⟨0, 0, none, 0, 0, by omega, by omega, by omega, rfl, rfl, rfl, by show _ = _; rw [HU0.out]; rfl, HLG0.out, by have h := HOW0.out; rw [HU0.out] at h ⊢; exact h, Below.refl _ _⟩
      case round =>
        obtain ⟨t, k2, po, co, ln, ht, hk2, hln, rfl, rfl, rfl, HLEN, HLG, HOW, HBZ⟩ := hrel
        rename World => wz
        have c1z : wz.cell? ⟨g, 1, none⟩ = some (.bool false) := (HBZ.out.cell (p := ⟨g, 1, none⟩) (by show g < B + 1; omega)).trans ((HB.out.cell (p := ⟨g, 1, none⟩) hg).trans c1)
        have HTz := Hid.mk' (HT.out.keep HBZ.out (Nat.lt_succ_self B))
        have hsz := HBZ.out.size
        by_cases hts : t < s.size
        · have htI : (t : Int) < (s.size : Int) := by omega
          have htd : decide ((t : Int) < (s.size : Int)) = true := decide_eq_true htI
          have ixt := idx_byte s t hts
          have hst1 := HST.out t
          have hbt := HTL.out t
          have HFB0 := Hid.mk' (Lit.fb_of qv Ts i 0 k2 t HLG.out)
          obtain ⟨c, hc⟩ : ∃ c, Ts t = c := ⟨_, rfl⟩
          rw [hst1, hc] at ixt hbt
          have HCT := Hid.mk' hc
          clear hst1 hc
          go_wp2_with fail
          go_loopw [8] (fun kv wy => ∃ j : Nat, j ≤ i ∧ kv = .int .i64 (j : Int) ∧ Hid (Lit.Fb qv Ts i 0 j t) ∧ wy = wz) (fun kv _ => (intOf kv).toNat)
          case atStart => exact ⟨k2, hk2, rfl, HFB0.out, rfl⟩
          case round =>
            obtain ⟨j, hji, rfl, HFB, rfl⟩ := hrel
            rename World => wz
            by_cases hj0 : 0 < j
            · have hjI : (0 : Int) < (j : Int) := by omega
              have hjd : decide ((0 : Int) < (j : Int)) = true := decide_eq_true hjI
              have hbj := HTz.out.b j (by omega) hji
              have hlt2 := Lit.bd_lt qv j (J j) hbj
              have cj := HTz.out.c j (by omega)
              rw [Nat.zero_add] at cj
              by_cases hjn : j = i
              · subst hjn
                have hee : ((j : Int) == (j : Int)) = true := by simp
                have HNX := Hid.mk' (Lit.fb_step qv Ts j 0 j t (J j) HFB.out hbj (.inl rfl))
                clear hbj
                go_wp2_with fail
                exact ⟨⟨J j, by omega, rfl, HNX.out, trivial⟩, by simp [intOf]; omega⟩
              · have hee : ((j : Int) == (i : Int)) = false := beq_eq_false_iff_ne.2 (by omega)
                have ixj := idx_byte p j (by omega)
                rw [HQB.out j] at ixj
                obtain ⟨y, hy⟩ : ∃ y, qv j = y := ⟨_, rfl⟩
                have hqj := HQL.out j
                rw [hy] at ixj hqj
                have HY := Hid.mk' hy
                clear hy
                by_cases hxy : y = c
                · subst hxy
                  have hne : ((y : Int) != (y : Int)) = false := by simp
                  have hqq : ((y : Int) == (y : Int)) = true := by simp
                  have HLN := Hid.mk' (Lit.lg_on qv Ts i 0 j t HFB.out (by omega) (by rw [HY.out, HCT.out]))
                  clear hbj cj
                  have hls := HLS.out (j + 1) (t + 1) (by omega) HLN.out
                  by_cases hkn : (j + 1) = i
                  · have hyes : UP (t + 1) = UP t ++ [t + 1 - i] := HUY.out t (hls.1 hkn)
                    have HYES := Hid.mk' hyes
                    have hge : i ≤ t + 1 := (hls.1 hkn).1
                    have HKN := Hid.mk' hkn
                    have hvl : (t : Int) + 1 - (i : Int) = ((t + 1 - i : Nat) : Int) := by omega
                    clear hls hyes hkn
                    go_wp2_with (first | (at_builtin; refine wpList_append_own _ rfl _ _ 34 rfl (B + 1) 3 i0 (.int .i64 0) 1 8 Tryd.underlying34 hi hz0 hz1 hz2 rfl (by decide) (.slice po ln co) ln (intv (UP t)) rfl (HOW.out.alloc _) ⟨wz.heap.size, 0, none⟩ 1 1 [.int .i64 ((t + 1 - i : Nat) : Int)] rfl rfl ?c1 ?c2 ?c3 ?c4 ?c5 ?_) | fail)
                    case c1 => exact cell_one_new _ _ _
                    case c2 => intro u hu; simp at hu; subst hu; rfl
                    case c3 => unfold maxLen; omega
                    case c4 => omega
                    case c5 => simp; omega
                    · intro v' w2 hown' hgrow _
                      have R2 := own_relI (by omega) HOW.out HBZ.out hgrow
                      obtain ⟨p6, c6, rfl⟩ := slice_shape hown'
                      have R1 : w2.ownsRow (B + 1) 3 1 (.slice p6 (ln + 1) c6) (ln + 1) (intv (UP (t + 1))) := by
                        rw [HYES.out, intv_snoc]
                        exact hown'
                      have HR1 := Hid.mk' R1
                      have HR2 := Hid.mk' R2
                      clear hown' hgrow R1 R2
                      go_wp2_with fail
                      exact ⟨⟨t + 1, (j + 1), p6, c6, ln + 1, by omega, by omega, by omega, by go_num, rfl, by go_num, by show _ = _; rw [HYES.out]; have := HLEN.out; simp; omega, HLN.out, HR1.out, HR2.out⟩, by simp [intOf]; omega⟩
                    · exfalso
                      have h1 := HKN.out
                      have hh : (((j : Int) + 1 : Int) == (i : Int)) = false := by with_reducible assumption
                      rw [beq_eq_false_iff_ne] at hh
                      omega
                  · have hno : UP (t + 1) = UP t := HUN.out t (fun e => hkn (hls.2 e))
                    have HNO := Hid.mk' hno
                    have hke : (((j : Int) + 1 : Int) == (i : Int)) = false := beq_eq_false_iff_ne.2 (by omega)
                    clear hls hno
                    go_wp2_with fail
                    exact ⟨⟨t + 1, (j + 1), po, co, ln, by omega, by omega, by omega, by go_num, rfl, by go_num, by show _ = _; rw [HNO.out]; exact HLEN.out, HLN.out, by show World.ownsRow _ _ _ _ _ _ _; rw [HNO.out]; exact HOW.out, HBZ.out⟩, by simp [intOf]; omega⟩
                · have hne : ((y : Int) != (c : Int)) = true := by simp; omega
                  have HNX := Hid.mk' (Lit.fb_step qv Ts i 0 j t (J j) HFB.out hbj (.inr (by rw [HY.out, HCT.out]; exact hxy)))
                  clear hbj
                  go_wp2_with fail
                  exact ⟨⟨J j, by omega, rfl, HNX.out, trivial⟩, by simp [intOf]; omega⟩
            · obtain rfl : j = 0 := by omega
              clear hj0
              have ixj := idx_byte p 0 (by omega)
              rw [HQB.out 0] at ixj
              obtain ⟨y, hy⟩ : ∃ y, qv 0 = y := ⟨_, rfl⟩
              have hqj := HQL.out 0
              rw [hy] at ixj hqj
              have ixj0 : ∀ W, (Instr.index 9 (.string p) (.int .i64 0)).run Tryd.prog W = .ok (.int .u8 (y : Int)) W := ixj
              have HY := Hid.mk' hy
              clear hy ixj
              by_cases hxy : y = c
              · subst hxy
                have hqq : ((y : Int) == (y : Int)) = true := by simp
                have HLN := Hid.mk' (Lit.lg_on qv Ts i 0 0 t HFB.out (by omega) (by rw [HY.out, HCT.out]))
                have hls := HLS.out 1 (t + 1) (by omega) HLN.out
                by_cases hkn : 1 = i
                · have hyes : UP (t + 1) = UP t ++ [t + 1 - i] := HUY.out t (hls.1 hkn)
                  have HYES := Hid.mk' hyes
                  have hge : i ≤ t + 1 := (hls.1 hkn).1
                  have HKN := Hid.mk' hkn
                  have hvl : (t : Int) + 1 - (i : Int) = ((t + 1 - i : Nat) : Int) := by omega
                  clear hls hyes hkn
                  go_wp2_with (first | (at_builtin; refine wpList_append_own _ rfl _ _ 34 rfl (B + 1) 3 i0 (.int .i64 0) 1 8 Tryd.underlying34 hi hz0 hz1 hz2 rfl (by decide) (.slice po ln co) ln (intv (UP t)) rfl (HOW.out.alloc _) ⟨wz.heap.size, 0, none⟩ 1 1 [.int .i64 ((t + 1 - i : Nat) : Int)] rfl rfl ?c1 ?c2 ?c3 ?c4 ?c5 ?_) | fail)
                  case c1 => exact cell_one_new _ _ _
                  case c2 => intro u hu; simp at hu; subst hu; rfl
                  case c3 => unfold maxLen; omega
                  case c4 => omega
                  case c5 => simp; omega
                  · intro v' w2 hown' hgrow _
                    have R2 := own_relI (by omega) HOW.out HBZ.out hgrow
                    obtain ⟨p6, c6, rfl⟩ := slice_shape hown'
                    have R1 : w2.ownsRow (B + 1) 3 1 (.slice p6 (ln + 1) c6) (ln + 1) (intv (UP (t + 1))) := by
                      rw [HYES.out, intv_snoc]
                      exact hown'
                    have HR1 := Hid.mk' R1
                    have HR2 := Hid.mk' R2
                    clear hown' hgrow R1 R2
                    go_wp2_with fail
                    exact ⟨⟨t + 1, 1, p6, c6, ln + 1, by omega, by omega, by omega, by go_num, rfl, by go_num, by show _ = _; rw [HYES.out]; have := HLEN.out; simp; omega, HLN.out, HR1.out, HR2.out⟩, by simp [intOf]; omega⟩
                  · exfalso
                    have h1 := HKN.out
                    have hh : ((1 : Int) == (i : Int)) = false := by with_reducible assumption
                    rw [beq_eq_false_iff_ne] at hh
                    omega
                · have hno : UP (t + 1) = UP t := HUN.out t (fun e => hkn (hls.2 e))
                  have HNO := Hid.mk' hno
                  have hke : ((1 : Int) == (i : Int)) = false := beq_eq_false_iff_ne.2 (by omega)
                  clear hls hno
                  go_wp2_with fail
                  exact ⟨⟨t + 1, 1, po, co, ln, by omega, by omega, by omega, by go_num, rfl, by go_num, by show _ = _; rw [HNO.out]; exact HLEN.out, HLN.out, by show World.ownsRow _ _ _ _ _ _ _; rw [HNO.out]; exact HOW.out, HBZ.out⟩, by simp [intOf]; omega⟩
              · have hqq : ((y : Int) == (c : Int)) = false := beq_eq_false_iff_ne.2 (by omega)
                have HLN := Hid.mk' (Lit.lg_off qv Ts i 0 t HFB.out (by omega) (by rw [HY.out, HCT.out]; exact hxy))
                have hls := HLS.out 0 (t + 1) (by omega) HLN.out
                have hno : UP (t + 1) = UP t := HUN.out t (fun e => by have := hls.2 e; omega)
                have HNO := Hid.mk' hno
                have h0n : ((0 : Int) == (i : Int)) = false := beq_eq_false_iff_ne.2 (by omega)
                clear hls hno
                go_wp2_with fail
                exact ⟨⟨t + 1, 0, po, co, ln, by omega, by omega, by omega, rfl, rfl, by go_num, by show _ = _; rw [HNO.out]; exact HLEN.out, HLN.out, by show World.ownsRow _ _ _ _ _ _ _; rw [HNO.out]; exact HOW.out, HBZ.out⟩, by simp [intOf]; omega⟩
        · have htI : ¬ (t : Int) < (s.size : Int) := by omega
          have htd : decide ((t : Int) < (s.size : Int)) = false := decide_eq_false htI
          obtain rfl : t = s.size := by omega
          go_wp2_with fail
          go_ret
          rw [HNE.out]
          refine ⟨_, rfl, ?_, HB.out.trans (HBZ.out.mono (by omega))⟩
          have e : PL.length = ln := by rw [← HUE.out]; exact HLEN.out
          show wz.ownsRow N 3 1 (.slice po ln co) PL.length (intv PL)
          rw [e, ← HUE.out]
          exact own_base HOW.out (by omega)
set_option maxRecDepth 100000 in
set_option maxHeartbeats 8000000 in
theorem refAll_true (g : Nat) (p s : ByteArray) (w : World) (hp : 1 ≤ p.size ∧ p.size ≤ 256) (hs : s.size ≤ 17592186044000) (c0 : w.cell? ⟨g, 0, none⟩ = some (.string p)) (c1 : w.cell? ⟨g, 1, none⟩ = some (.bool true)) :
    Calls Tryd.prog 16 #[.pointer (some ⟨g, 0, none⟩), .string s] w fun e w' => ∃ v, e = .returned v ∧ w'.ownsRow w.heap.size 3 1 v (Lit.plL true p s).length (intv (Lit.plL true p s)) ∧ Below w.heap.size w w' := by
  obtain ⟨i0, hi, hz0, hz1, hz2⟩ := infoI_parts
  have hg : g < w.heap.size := lt_of_cell c0
  have HUE := Hid.mk' (Lit.upI_end true p s hp.1)
  have HU0 := Hid.mk' (Lit.upI_0 true p s hp.1)
  have HUY := Hid.mk' (fun i h => Lit.upI_yes true p s i h)
  have HUN := Hid.mk' (fun i h => Lit.upI_no true p s i hp.1 h)
  have HUL := Hid.mk' (fun i => Lit.upI_len true p s i hp.1)
  have HLS := Hid.mk' (fun k i h1 h2 => Lit.lg_st true p s k i h1 h2)
  have HLG0 := Hid.mk' (Lit.lg_start (Lit.qf true p) (Lit.qf true s) p.size)
  have HQL : Hid (∀ i, Lit.qf true p i < 256) := fun i => Lit.cs_lt true _ (Swar.bt_lt _ _)
  have HTL : Hid (∀ i, Swar.bt s i < 256) := fun i => Swar.bt_lt s i
  obtain ⟨n, hn⟩ : ∃ n, p.size = n := ⟨_, rfl⟩
  have HQZ : Hid ((Swar.foldL p).size = n) := by show _ = _; rw [Swar.fold_size, hn]
  have HQB : Hid (∀ i, Swar.bt (Swar.foldL p) i = Lit.qf true p i) := fun i => Swar.bt_fold p i
  have hps : p.size ≤ 140737488351232 := by omega
  rw [hn] at hp HUY HUN HLS HLG0
  generalize hpl : Lit.plL true p s = PL at *
  generalize hup : Lit.upI true p s = UP at *
  generalize hqv : Lit.qf true p = qv at *
  have HST : Hid (∀ i, Swar.small (Swar.bt s i) = Lit.qf true s i) := fun i => rfl
  have HSL : Hid (∀ i, Lit.qf true s i < 256) := fun i => Lit.cs_lt true _ (Swar.bt_lt _ _)
  generalize hts : Lit.qf true s = Ts at *
  clear hpl hup hqv hts
  clear hn
  go_enter Tryd.func16, Tryd.ntmps16
  go_wp2_with fail
  refine (refFolded6_any p w hps).mono ?_
  rintro e w1 ⟨rfl, hb1⟩
  generalize Swar.foldL p = q at *
  have hqz := HQZ.out
  have c1' : w1.cell? ⟨g, 1, none⟩ = some (.bool true) := (hb1.cell (p := ⟨g, 1, none⟩) hg).trans c1
  have hmk := make_ints w1 n hp.2
  have HT0 := Hid.mk' (made_tbl w1 n)
  have HF0 : Hid (Thaw w1.heap.size (w1.alloc (.cells (List.replicate (n + 1) (Value.int .i64 0)).toArray 3))) := thaw_new _ _ _
  have HB0 : Hid (Below w.heap.size w (w1.alloc (.cells (List.replicate (n + 1) (Value.int .i64 0)).toArray 3))) := hb1.alloc hb1.size _
  have hXB : w1.heap.size < (w1.alloc (.cells (List.replicate (n + 1) (Value.int .i64 0)).toArray 3)).heap.size := by simp
  have hNB := hb1.size
  generalize hW2 : (w1.alloc (.cells (List.replicate (n + 1) (Value.int .i64 0)).toArray 3)) = W2 at *
  clear hW2
  obtain ⟨B, hB⟩ : ∃ B, w1.heap.size = B := ⟨_, rfl⟩
  rw [hB] at hmk HT0 HF0 hXB
  obtain ⟨N, hN⟩ : ∃ N, w.heap.size = N := ⟨_, rfl⟩
  rw [hN] at HB0 hg hb1
  have hNB2 : N ≤ B := by omega
  have HNE := Hid.mk' hN
  clear hNB hB hN
  go_wp2_with fail
  have HS0 : Hid (BdT B n 1 qv (fun _ => 0) W2) := ⟨HT0.out, HF0.out, fun j h1 h2 => by
    have e : j = 1 := by omega
    rw [e]
    exact Lit.bd_one qv⟩
  clear HT0 HF0 hmk
  go_loopw [8, 9] (fun kv iv wr => ∃ (i k : Nat) (J : Nat → Nat), 1 ≤ i ∧ i ≤ n ∧ kv = .int .i64 (k : Int) ∧ iv = .int .i64 (i : Int) ∧ Hid (Lit.Bd qv i k) ∧ Hid (BdT B n i qv J wr) ∧ Hid (Below N w wr) ∧ B < wr.heap.size) (fun _ iv _ => n + 1 - (intOf iv).toNat)
  case atStart => exact ⟨1, 0, fun _ => 0, by omega, hp.1, rfl, rfl, Lit.bd_one qv, HS0.out, HB0.out, hXB⟩
  case round =>
    obtain ⟨i, k, J, hi1, hin, rfl, rfl, HBD, HT, HB, hBw⟩ := hrel
    by_cases hlt : i < n
    · have hlI : (i : Int) < (n : Int) := by omega
      have hki := Lit.bd_lt qv i k HBD.out
      have ixi := idx_byte q i (by omega)
      rw [HQB.out i] at ixi
      have hqi := HQL.out i
      have HFB0 := Hid.mk' (Lit.fb_of qv qv n 1 k i ((Lit.bd_lg qv n k i (by omega)).1 HBD.out))
      go_wp2_with fail
      go_loopw [8] (fun kv wz => ∃ j : Nat, j < i ∧ kv = .int .i64 (j : Int) ∧ Hid (Lit.Fb qv qv n 1 j i) ∧ Hid (∃ m, wz = wr.drewN m)) (fun kv _ => (intOf kv).toNat)
      case atStart => exact ⟨k, hki, rfl, HFB0.out, 0, rfl⟩
      case round =>
        obtain ⟨j, hji, rfl, HFB, HW⟩ := hrel
        rename World => wz
        have ixj := idx_byte q j (by omega)
        rw [HQB.out j] at ixj
        have hqj := HQL.out j
        obtain ⟨x, hx⟩ : ∃ x, qv i = x := ⟨_, rfl⟩
        obtain ⟨y, hy⟩ : ∃ y, qv j = y := ⟨_, rfl⟩
        rw [hx] at ixi hqi
        rw [hy] at ixj hqj
        have HX := Hid.mk' hx
        have HY := Hid.mk' hy
        have cj : wz.cell? ⟨B, j, none⟩ = some (.int .i64 ((J j : Nat) : Int)) := by
          obtain ⟨m, rfl⟩ := HW.out
          have h := HT.out.c j (by omega)
          rw [Nat.zero_add] at h
          exact h
        clear hx hy
        by_cases hxy : x = y
        · subst hxy
          have hne : ((x : Int) != (x : Int)) = false := by simp
          have hee : ((x : Int) == (x : Int)) = true := by simp
          have HLN : Hid (Lit.Bd qv (i + 1) (j + 1)) := (Lit.bd_lg qv n (j + 1) (i + 1) (by omega)).2 (Lit.lg_on qv qv n 1 j i HFB.out (by omega) (by rw [HX.out, HY.out]))
          have hfin : ∀ (m : Nat), BdT B n (i + 1) qv (upd J (i + 1) (j + 1)) ((wz.drewN m).setCell ⟨B, i + 1, none⟩ (.int .i64 ((j : Int) + 1))) ∧ Below N w ((wz.drewN m).setCell ⟨B, i + 1, none⟩ (.int .i64 ((j : Int) + 1))) ∧ B < ((wz.drewN m).setCell ⟨B, i + 1, none⟩ (.int .i64 ((j : Int) + 1))).heap.size ∧ (wz.drewN m).cell? ⟨B, i + 1, none⟩ = some (.int .i64 ((J (i + 1) : Nat) : Int)) ∧ (wz.drewN m).frozen? ⟨B, i + 1, none⟩ = false := fun m => by
            obtain ⟨m1, rfl⟩ := HW.out
            have hT : BdT B n i qv J ((wr.drewN m1).drewN m) := HT.out.drew.drew
            have h1 := hT.next (by omega) HLN.out
            have h2 := hT.c (i + 1) (by omega)
            have h3 := hT.f (i + 1)
            rw [Nat.zero_add] at h1 h2
            refine ⟨by have e : (((j + 1 : Nat) : Int)) = (j : Int) + 1 := by omega
                       rw [e] at h1; exact h1, ((HB.out.drewN' m1).drewN' m).setCell (p := ⟨B, i + 1, none⟩) hNB2 _, by rw [World.size_setCell]; exact hBw, h2, h3⟩
          have HFIN := Hid.mk' hfin
          clear hfin
          by_cases hj0 : 0 < j
          · have hjI : (0 : Int) < (j : Int) := by omega
            have hjd : decide ((0 : Int) < (j : Int)) = true := decide_eq_true hjI
            go_wp2_with fail
            go_quiet (fail)
            go_wp2_with fail
            have HW4 : Hid (∃ m, wz.drewN nq = wz.drewN m) := ⟨nq, rfl⟩
            generalize wz.drewN nq = W4 at *
            go_quiet (fail)
            obtain ⟨m5, hm5⟩ : ∃ m5, W4.drewN nq = wz.drewN m5 := by obtain ⟨m, hm⟩ := HW4.out; exact ⟨m + nq, by rw [hm]; exact drew_drew _ _ _⟩
            rw [hm5]
            obtain ⟨g1, g2, g3, g4, g5⟩ := HFIN.out m5
            have HG := Hid.mk' (And.intro g1 (And.intro g2 g3))
            clear g1 g2 g3 hm5
            generalize wz.drewN m5 = W5 at *
            go_wp2_with fail
            exact ⟨⟨i + 1, j + 1, upd J (i + 1) (j + 1), by omega, by omega, by go_num, by go_num, HLN.out, HG.out.1, HG.out.2.1, HG.out.2.2⟩, by simp [intOf]; omega⟩
          · obtain rfl : j = 0 := by omega
            clear hj0
            have ixj0 : ∀ W, (Instr.index 9 (.string q) (.int .i64 0)).run Tryd.prog W = .ok (.int .u8 (x : Int)) W := ixj
            go_wp2_with fail
            go_quiet (fail)
            go_wp2_with fail
            have HW4 : Hid (∃ m, wz.drewN nq = wz.drewN m) := ⟨nq, rfl⟩
            generalize wz.drewN nq = W4 at *
            go_quiet (fail)
            obtain ⟨m5, hm5⟩ : ∃ m5, W4.drewN nq = wz.drewN m5 := by obtain ⟨m, hm⟩ := HW4.out; exact ⟨m + nq, by rw [hm]; exact drew_drew _ _ _⟩
            rw [hm5]
            obtain ⟨g1, g2, g3, g4, g5⟩ := HFIN.out m5
            have HG := Hid.mk' (And.intro g1 (And.intro g2 g3))
            clear g1 g2 g3 hm5
            generalize wz.drewN m5 = W5 at *
            go_wp2_with fail
            exact ⟨⟨i + 1, 1, upd J (i + 1) 1, by omega, by omega, rfl, by go_num, HLN.out, HG.out.1, HG.out.2.1, HG.out.2.2⟩, by simp [intOf]; omega⟩
        · by_cases hj0 : 0 < j
          · have hjI : (0 : Int) < (j : Int) := by omega
            have hjd : decide ((0 : Int) < (j : Int)) = true := decide_eq_true hjI
            have hne : ((x : Int) != (y : Int)) = true := by simp; omega
            have hbj := HT.out.b j (by omega) (by omega)
            have hlt2 := Lit.bd_lt qv j (J j) hbj
            have HNX := Hid.mk' (Lit.fb_step qv qv n 1 j i (J j) HFB.out hbj (.inr (by rw [HX.out, HY.out]; exact fun e => hxy e.symm)))
            clear hbj
            go_wp2_with fail
            go_quiet (fail)
            have HW3 : Hid (∃ m, wz.drewN nq = wr.drewN m) := by obtain ⟨m, rfl⟩ := HW.out; exact ⟨m + nq, drew_drew _ _ _⟩
            have cj3 : (wz.drewN nq).cell? ⟨B, j, none⟩ = some (.int .i64 ((J j : Nat) : Int)) := cj
            generalize wz.drewN nq = W3 at *
            go_wp2_with fail
            exact ⟨⟨J j, by omega, rfl, HNX.out, HW3.out⟩, by simp [intOf]; omega⟩
          · obtain rfl : j = 0 := by omega
            clear hj0
            have ixj0 : ∀ W, (Instr.index 9 (.string q) (.int .i64 0)).run Tryd.prog W = .ok (.int .u8 (y : Int)) W := ixj
            have hee : ((x : Int) == (y : Int)) = false := beq_eq_false_iff_ne.2 (by omega)
            have HLN : Hid (Lit.Bd qv (i + 1) 0) := (Lit.bd_lg qv n 0 (i + 1) (by omega)).2 (Lit.lg_off qv qv n 1 i HFB.out (by omega) (by rw [HX.out, HY.out]; exact fun e => hxy e.symm))
            have hfin : ∀ (m : Nat), BdT B n (i + 1) qv (upd J (i + 1) 0) ((wz.drewN m).setCell ⟨B, i + 1, none⟩ (.int .i64 0)) ∧ Below N w ((wz.drewN m).setCell ⟨B, i + 1, none⟩ (.int .i64 0)) ∧ B < ((wz.drewN m).setCell ⟨B, i + 1, none⟩ (.int .i64 0)).heap.size ∧ (wz.drewN m).cell? ⟨B, i + 1, none⟩ = some (.int .i64 ((J (i + 1) : Nat) : Int)) ∧ (wz.drewN m).frozen? ⟨B, i + 1, none⟩ = false := fun m => by
              obtain ⟨m1, rfl⟩ := HW.out
              have hT : BdT B n i qv J ((wr.drewN m1).drewN m) := HT.out.drew.drew
              have h1 := hT.next (by omega) HLN.out
              have h2 := hT.c (i + 1) (by omega)
              have h3 := hT.f (i + 1)
              rw [Nat.zero_add] at h1 h2
              exact ⟨h1, ((HB.out.drewN' m1).drewN' m).setCell (p := ⟨B, i + 1, none⟩) hNB2 _, by rw [World.size_setCell]; exact hBw, h2, h3⟩
            have HFIN := Hid.mk' hfin
            clear hfin
            go_wp2_with fail
            go_quiet (fail)
            go_wp2_with fail
            have HW4 : Hid (∃ m, wz.drewN nq = wz.drewN m) := ⟨nq, rfl⟩
            generalize wz.drewN nq = W4 at *
            go_quiet (fail)
            obtain ⟨m5, hm5⟩ : ∃ m5, W4.drewN nq = wz.drewN m5 := by obtain ⟨m, hm⟩ := HW4.out; exact ⟨m + nq, by rw [hm]; exact drew_drew _ _ _⟩
            rw [hm5]
            obtain ⟨g1, g2, g3, g4, g5⟩ := HFIN.out m5
            have HG := Hid.mk' (And.intro g1 (And.intro g2 g3))
            clear g1 g2 g3 hm5
            generalize wz.drewN m5 = W5 at *
            go_wp2_with fail
            exact ⟨⟨i + 1, 0, upd J (i + 1) 0, by omega, by omega, rfl, by go_num, HLN.out, HG.out.1, HG.out.2.1, HG.out.2.2⟩, by simp [intOf]; omega⟩
    · have hlI : ¬ (i : Int) < (n : Int) := by omega
      obtain rfl : i = n := by omega
      have hi1I : (0 : Int) < (i : Int) := by omega
      have hnd : decide ((0 : Int) < (i : Int)) = true := decide_eq_true hi1I
      clear HBD HS0 hin hlt
      have HOW0 : Hid (wr.ownsRow (B + 1) 3 1 (.slice none 0 0) (UP 0).length (intv (UP 0))) := by
        show World.ownsRow _ _ _ _ _ _ _
        rw [HU0.out]
        exact World.ownsRow_nil wr (B + 1) 3 1
      go_wp2_with fail
      rename World => wo
      go_loopw [8, 10, 11] (fun kv ov iv wz => ∃ (t k : Nat) (po : Option Addr) (co ln : Nat), t ≤ s.size ∧ k ≤ i ∧ ln ≤ t ∧ kv = .int .i64 (k : Int) ∧ ov = .slice po ln co ∧ iv = .int .i64 (t : Int) ∧ Hid ((UP t).length = ln) ∧ Hid (Lit.Lg qv Ts i 0 k t) ∧ Hid (wz.ownsRow (B + 1) 3 1 (.slice po ln co) ln (intv (UP t))) ∧ Hid (Below (B + 1) wo wz)) (fun _ _ iv _ => s.size + 1 - (intOf iv).toNat)
      case atStart => exact ⟨0, 0, none, 0, 0, by omega, by omega, by omega, rfl, rfl, rfl, by show _ = _; rw [HU0.out]; rfl, HLG0.out, by have h := HOW0.out; rw [HU0.out] at h ⊢; exact h, Below.refl _ _⟩
      case round =>
        obtain ⟨t, k2, po, co, ln, ht, hk2, hln, rfl, rfl, rfl, HLEN, HLG, HOW, HBZ⟩ := hrel
        rename World => wz
        have c1z : wz.cell? ⟨g, 1, none⟩ = some (.bool true) := (HBZ.out.cell (p := ⟨g, 1, none⟩) (by show g < B + 1; omega)).trans ((HB.out.cell (p := ⟨g, 1, none⟩) hg).trans c1)
        have HTz := Hid.mk' (HT.out.keep HBZ.out (Nat.lt_succ_self B))
        have hsz := HBZ.out.size
        by_cases hts : t < s.size
        · have htI : (t : Int) < (s.size : Int) := by omega
          have htd : decide ((t : Int) < (s.size : Int)) = true := decide_eq_true htI
          have ixt := idx_byte s t hts
          have hst1 := HST.out t
          have hbt := HTL.out t
          have HFB0 := Hid.mk' (Lit.fb_of qv Ts i 0 k2 t HLG.out)
          go_wp2_with fail
          refine (refSmall6_any (Swar.bt s t) _ hbt).mono ?_
          rintro e wz2 ⟨rfl, rfl⟩
          rename World => wz
          rw [hst1]
          obtain ⟨c, hc⟩ : ∃ c, Ts t = c := ⟨_, rfl⟩
          have hcb := HSL.out t
          rw [hc] at hcb
          rw [hc]
          have HCT := Hid.mk' hc
          clear hst1 hc ixt
          go_wp2_with fail
          go_loopw [8] (fun kv wy => ∃ j : Nat, j ≤ i ∧ kv = .int .i64 (j : Int) ∧ Hid (Lit.Fb qv Ts i 0 j t) ∧ wy = wz) (fun kv _ => (intOf kv).toNat)
          case atStart => exact ⟨k2, hk2, rfl, HFB0.out, rfl⟩
          case round =>
            obtain ⟨j, hji, rfl, HFB, rfl⟩ := hrel
            rename World => wz
            by_cases hj0 : 0 < j
            · have hjI : (0 : Int) < (j : Int) := by omega
              have hjd : decide ((0 : Int) < (j : Int)) = true := decide_eq_true hjI
              have hbj := HTz.out.b j (by omega) hji
              have hlt2 := Lit.bd_lt qv j (J j) hbj
              have cj := HTz.out.c j (by omega)
              rw [Nat.zero_add] at cj
              by_cases hjn : j = i
              · subst hjn
                have hee : ((j : Int) == (j : Int)) = true := by simp
                have HNX := Hid.mk' (Lit.fb_step qv Ts j 0 j t (J j) HFB.out hbj (.inl rfl))
                clear hbj
                go_wp2_with fail
                exact ⟨⟨J j, by omega, rfl, HNX.out, trivial⟩, by simp [intOf]; omega⟩
              · have hee : ((j : Int) == (i : Int)) = false := beq_eq_false_iff_ne.2 (by omega)
                have ixj := idx_byte q j (by omega)
                rw [HQB.out j] at ixj
                obtain ⟨y, hy⟩ : ∃ y, qv j = y := ⟨_, rfl⟩
                have hqj := HQL.out j
                rw [hy] at ixj hqj
                have HY := Hid.mk' hy
                clear hy
                by_cases hxy : y = c
                · subst hxy
                  have hne : ((y : Int) != (y : Int)) = false := by simp
                  have hqq : ((y : Int) == (y : Int)) = true := by simp
                  have HLN := Hid.mk' (Lit.lg_on qv Ts i 0 j t HFB.out (by omega) (by rw [HY.out, HCT.out]))
                  clear hbj cj
                  have hls := HLS.out (j + 1) (t + 1) (by omega) HLN.out
                  by_cases hkn : (j + 1) = i
                  · have hyes : UP (t + 1) = UP t ++ [t + 1 - i] := HUY.out t (hls.1 hkn)
                    have HYES := Hid.mk' hyes
                    have hge : i ≤ t + 1 := (hls.1 hkn).1
                    have HKN := Hid.mk' hkn
                    have hvl : (t : Int) + 1 - (i : Int) = ((t + 1 - i : Nat) : Int) := by omega
                    clear hls hyes hkn
                    go_wp2_with (first | (at_builtin; refine wpList_append_own _ rfl _ _ 34 rfl (B + 1) 3 i0 (.int .i64 0) 1 8 Tryd.underlying34 hi hz0 hz1 hz2 rfl (by decide) (.slice po ln co) ln (intv (UP t)) rfl (HOW.out.alloc _) ⟨wz.heap.size, 0, none⟩ 1 1 [.int .i64 ((t + 1 - i : Nat) : Int)] rfl rfl ?c1 ?c2 ?c3 ?c4 ?c5 ?_) | fail)
                    case c1 => exact cell_one_new _ _ _
                    case c2 => intro u hu; simp at hu; subst hu; rfl
                    case c3 => unfold maxLen; omega
                    case c4 => omega
                    case c5 => simp; omega
                    · intro v' w2 hown' hgrow _
                      have R2 := own_relI (by omega) HOW.out HBZ.out hgrow
                      obtain ⟨p6, c6, rfl⟩ := slice_shape hown'
                      have R1 : w2.ownsRow (B + 1) 3 1 (.slice p6 (ln + 1) c6) (ln + 1) (intv (UP (t + 1))) := by
                        rw [HYES.out, intv_snoc]
                        exact hown'
                      have HR1 := Hid.mk' R1
                      have HR2 := Hid.mk' R2
                      clear hown' hgrow R1 R2
                      go_wp2_with fail
                      exact ⟨⟨t + 1, (j + 1), p6, c6, ln + 1, by omega, by omega, by omega, by go_num, rfl, by go_num, by show _ = _; rw [HYES.out]; have := HLEN.out; simp; omega, HLN.out, HR1.out, HR2.out⟩, by simp [intOf]; omega⟩
                    · exfalso
                      have h1 := HKN.out
                      have hh : (((j : Int) + 1 : Int) == (i : Int)) = false := by with_reducible assumption
                      rw [beq_eq_false_iff_ne] at hh
                      omega
                  · have hno : UP (t + 1) = UP t := HUN.out t (fun e => hkn (hls.2 e))
                    have HNO := Hid.mk' hno
                    have hke : (((j : Int) + 1 : Int) == (i : Int)) = false := beq_eq_false_iff_ne.2 (by omega)
                    clear hls hno
                    go_wp2_with fail
                    exact ⟨⟨t + 1, (j + 1), po, co, ln, by omega, by omega, by omega, by go_num, rfl, by go_num, by show _ = _; rw [HNO.out]; exact HLEN.out, HLN.out, by show World.ownsRow _ _ _ _ _ _ _; rw [HNO.out]; exact HOW.out, HBZ.out⟩, by simp [intOf]; omega⟩
                · have hne : ((y : Int) != (c : Int)) = true := by simp; omega
                  have HNX := Hid.mk' (Lit.fb_step qv Ts i 0 j t (J j) HFB.out hbj (.inr (by rw [HY.out, HCT.out]; exact hxy)))
                  clear hbj
                  go_wp2_with fail
                  exact ⟨⟨J j, by omega, rfl, HNX.out, trivial⟩, by simp [intOf]; omega⟩
            · obtain rfl : j = 0 := by omega
              clear hj0
              have ixj := idx_byte q 0 (by omega)
              rw [HQB.out 0] at ixj
              obtain ⟨y, hy⟩ : ∃ y, qv 0 = y := ⟨_, rfl⟩
              have hqj := HQL.out 0
              rw [hy] at ixj hqj
              have ixj0 : ∀ W, (Instr.index 9 (.string q) (.int .i64 0)).run Tryd.prog W = .ok (.int .u8 (y : Int)) W := ixj
              have HY := Hid.mk' hy
              clear hy ixj
              by_cases hxy : y = c
              · subst hxy
                have hqq : ((y : Int) == (y : Int)) = true := by simp
                have HLN := Hid.mk' (Lit.lg_on qv Ts i 0 0 t HFB.out (by omega) (by rw [HY.out, HCT.out]))
                have hls := HLS.out 1 (t + 1) (by omega) HLN.out
                by_cases hkn : 1 = i
                · have hyes : UP (t + 1) = UP t ++ [t + 1 - i] := HUY.out t (hls.1 hkn)
                  have HYES := Hid.mk' hyes
                  have hge : i ≤ t + 1 := (hls.1 hkn).1
                  have HKN := Hid.mk' hkn
                  have hvl : (t : Int) + 1 - (i : Int) = ((t + 1 - i : Nat) : Int) := by omega
                  clear hls hyes hkn
                  go_wp2_with (first | (at_builtin; refine wpList_append_own _ rfl _ _ 34 rfl (B + 1) 3 i0 (.int .i64 0) 1 8 Tryd.underlying34 hi hz0 hz1 hz2 rfl (by decide) (.slice po ln co) ln (intv (UP t)) rfl (HOW.out.alloc _) ⟨wz.heap.size, 0, none⟩ 1 1 [.int .i64 ((t + 1 - i : Nat) : Int)] rfl rfl ?c1 ?c2 ?c3 ?c4 ?c5 ?_) | fail)
                  case c1 => exact cell_one_new _ _ _
                  case c2 => intro u hu; simp at hu; subst hu; rfl
                  case c3 => unfold maxLen; omega
                  case c4 => omega
                  case c5 => simp; omega
                  · intro v' w2 hown' hgrow _
                    have R2 := own_relI (by omega) HOW.out HBZ.out hgrow
                    obtain ⟨p6, c6, rfl⟩ := slice_shape hown'
                    have R1 : w2.ownsRow (B + 1) 3 1 (.slice p6 (ln + 1) c6) (ln + 1) (intv (UP (t + 1))) := by
                      rw [HYES.out, intv_snoc]
                      exact hown'
                    have HR1 := Hid.mk' R1
                    have HR2 := Hid.mk' R2
                    clear hown' hgrow R1 R2
                    go_wp2_with fail
                    exact ⟨⟨t + 1, 1, p6, c6, ln + 1, by omega, by omega, by omega, by go_num, rfl, by go_num, by show _ = _; rw [HYES.out]; have := HLEN.out; simp; omega, HLN.out, HR1.out, HR2.out⟩, by simp [intOf]; omega⟩
                  · exfalso
                    have h1 := HKN.out
                    have hh : ((1 : Int) == (i : Int)) = false := by with_reducible assumption
                    rw [beq_eq_false_iff_ne] at hh
                    omega
                · have hno : UP (t + 1) = UP t := HUN.out t (fun e => hkn (hls.2 e))
                  have HNO := Hid.mk' hno
                  have hke : ((1 : Int) == (i : Int)) = false := beq_eq_false_iff_ne.2 (by omega)
                  clear hls hno
                  go_wp2_with fail
                  exact ⟨⟨t + 1, 1, po, co, ln, by omega, by omega, by omega, by go_num, rfl, by go_num, by show _ = _; rw [HNO.out]; exact HLEN.out, HLN.out, by show World.ownsRow _ _ _ _ _ _ _; rw [HNO.out]; exact HOW.out, HBZ.out⟩, by simp [intOf]; omega⟩
              · have hqq : ((y : Int) == (c : Int)) = false := beq_eq_false_iff_ne.2 (by omega)
                have HLN := Hid.mk' (Lit.lg_off qv Ts i 0 t HFB.out (by omega) (by rw [HY.out, HCT.out]; exact hxy))
                have hls := HLS.out 0 (t + 1) (by omega) HLN.out
                have hno : UP (t + 1) = UP t := HUN.out t (fun e => by have := hls.2 e; omega)
                have HNO := Hid.mk' hno
                have h0n : ((0 : Int) == (i : Int)) = false := beq_eq_false_iff_ne.2 (by omega)
                clear hls hno
                go_wp2_with fail
                exact ⟨⟨t + 1, 0, po, co, ln, by omega, by omega, by omega, rfl, rfl, by go_num, by show _ = _; rw [HNO.out]; exact HLEN.out, HLN.out, by show World.ownsRow _ _ _ _ _ _ _; rw [HNO.out]; exact HOW.out, HBZ.out⟩, by simp [intOf]; omega⟩
        · have htI : ¬ (t : Int) < (s.size : Int) := by omega
          have htd : decide ((t : Int) < (s.size : Int)) = false := decide_eq_false htI
          obtain rfl : t = s.size := by omega
          go_wp2_with fail
          go_ret
          rw [HNE.out]
          refine ⟨_, rfl, ?_, HB.out.trans (HBZ.out.mono (by omega))⟩
          have e : PL.length = ln := by rw [← HUE.out]; exact HLEN.out
          show wz.ownsRow N 3 1 (.slice po ln co) PL.length (intv PL)
          rw [e, ← HUE.out]
          exact own_base HOW.out (by omega)
end Go.Proofs.YtecoiifmeajicaaDoor
