/-
  (*many.Set).All: a function that hands over all words that stand in a text. Conditions: as each says.
-/
import Derived.Test.YtlbfnchjbpioeaaMnL
import Derived.Test.YtlbfnchjbpioeaaRngN
import Derived.Sort.BigQuietIn
import Derived.Shelf.Abstract
import Derived.OwnWalkIn
import Derived.TacticsInMore
import Derived.LoopNIn
import Derived.LoopIn
namespace Mn
/-- all that All tells: the place behind a word, the word -/
def allK (W : List (List Nat)) (T : List Nat) (k : Nat) : List (Nat × Nat) := (List.range k).flatMap fun i => (wsuf W (T.take (i + 1))).map fun w => (i + 1, w)
def allF (W : List (List Nat)) (T : List Nat) : List (Nat × Nat) := allK W T T.length
theorem allK_next (W : List (List Nat)) (T : List Nat) (k : Nat) : allK W T (k + 1) = allK W T k ++ (wsuf W (T.take (k + 1))).map fun w => (k + 1, w) := by
  simp [allK, List.range_succ]
theorem allK_pre (W : List (List Nat)) (T : List Nat) : ∀ (d k : Nat), allK W T k <+: allK W T (k + d)
  | 0, k => List.prefix_refl _
  | d + 1, k => (allK_pre W T d k).trans (by rw [show k + (d + 1) = k + d + 1 by omega, allK_next]; exact List.prefix_append _ _)
theorem allF_pre (W : List (List Nat)) (T : List Nat) (k : Nat) (h : k ≤ T.length) : allK W T k <+: allF W T := by
  have := allK_pre W T (T.length - k) k
  rw [show k + (T.length - k) = T.length by omega] at this
  exact this
/-- how many are left of a chain -/
def clen (W : List (List Nat)) (u : Int) : Nat := if u = -1 then 0 else 1 + (wsuf W (W.getD u.toNat []).tail).length
theorem clen_of (W : List (List Nat)) (y : List Nat) : clen W (lw W y) = (wsuf W y).length := by
  unfold clen
  rcases lw_cases W y with ⟨h1, h2⟩ | ⟨k, x, h1, h2, h3, _, _⟩
  · rw [if_pos h1, h2]
    rfl
  · rw [h1, if_neg (by omega), h3, Int.toNat_natCast, List.getD_eq_getElem?_getD, h2]
    simp
    omega
end Mn
namespace Go.Proofs.Ytlbfnchjbpioeaa
open Go.RowKit Go.Shelf
set_option linter.unusedVariables false
attribute [local go_sem] Oper.semAt_some
def encM (x : Nat × Nat) : Array Value := #[.int .i64 (x.1 : Int), .int .i64 (x.2 : Int)]
def KpB (D : Nat → Prop) (W W' : World) : Prop := ∀ k, D k → W'.heap[k]? = W.heap[k]?
theorem KpB.t {D : Nat → Prop} {A B C : World} (h : KpB D A B) (k : KpB D B C) : KpB D A C := fun i hi => (k i hi).trans (h i hi)
theorem KpB.of_below {D : Nat → Prop} {N : Nat} {W W' : World} (hb : Below N W W') (hD : ∀ k, D k → k < N) : KpB D W W' := fun k hk => hb.block k (hD k hk)
def DM (sb g g2 Bt Bs : Nat) (k : Nat) : Prop := k = sb ∨ k = g ∨ k = g2 ∨ k = Bt ∨ k = Bs
theorem KpB.drew {D : Nat → Prop} {W W' : World} (h : KpB D W W') (j : Nat) : KpB D W (W'.drewN j) := h
theorem kp_cell {D : Nat → Prop} {W W' : World} (h : KpB D W W') {b o : Nat} (hb : D b) {v : Value} (hc : W.cell? ⟨b, o, none⟩ = some v) : W'.cell? ⟨b, o, none⟩ = some v :=
  (World.cell?_of_block (a := ⟨b, o, none⟩) (h b hb)).trans hc
theorem SetM.kp {B sb g g2 Bt Bs : Nat} {n cn m cw : Nat} {nx : Nat → Nat → Int} {ln wd wl sh : Nat → Int} {w w' : World} (h : SetM B sb g (.slice (some ⟨g2, 0, none⟩) m cw) n cn m nx ln wd wl sh w) (hk : KpB (DM sb g g2 Bt Bs) w w') : SetM B sb g (.slice (some ⟨g2, 0, none⟩) m cw) n cn m nx ln wd wl sh w' :=
  ⟨(hk sb (.inl rfl)).trans h.st, mr_kept h.nod fun k e => by simp only [Value.ownBlock, Option.some.injEq] at e; subst e; exact hk _ (.inr (.inl rfl)), mr_kept h.wrd fun k e => by simp only [Value.ownBlock, Option.some.injEq] at e; subst e; exact hk _ (.inr (.inr (.inl rfl))), h.sB⟩
theorem all_any (sb : Nat) (s : ByteArray) (w : World) :
    Calls Try.prog 19 #[.pointer (some ⟨sb, 0, none⟩), .string s] w fun e w' => e = .returned (.func (.func 35) #[] #[.pointer (some ⟨w.heap.size + 1, 0, none⟩), .pointer (some ⟨w.heap.size, 0, none⟩)]) ∧ w' = (w.alloc (.cells #[.pointer (some ⟨sb, 0, none⟩)] 25)).alloc (.cells #[.string s] 9) := by
  go_enter Try.func19, Try.ntmps19
  go_wp2
  go_ret
  exact ⟨rfl, rfl⟩
set_option maxRecDepth 100000 in
set_option maxHeartbeats 4000000 in
theorem all1_inN (q : Nat) (hq : 1 ≤ q) (l Bt Bs B sb g g2 cn cw : Nat) (W : List (List Nat)) (fold : Bool) (s : ByteArray) (hw : Wok W) (hs : s.size ≤ 1125899906842624) (J Jx : List (Nat × Nat) → World → Prop) (V : World)
    (hJb : ∀ pre X Y, J pre X → Below X.heap.size X Y → J pre Y)
    (hY : ∀ pre x X, J pre X → pre ++ [x] <+: Mn.allF W (tx fold s) → YieldAt Fence.wide (q - 1) Try.prog l (encM x) X fun e Y =>
      (e = .returned (.bool true) ∧ J (pre ++ [x]) Y ∧ KpB (DM sb g g2 Bt Bs) X Y) ∨ (e = .returned (.bool false) ∧ Jx (pre ++ [x]) Y))
    (hBt : V.cell? ⟨Bt, 0, none⟩ = some (.string s)) (hBs : V.cell? ⟨Bs, 0, none⟩ = some (.pointer (some ⟨sb, 0, none⟩)))
    (hM : SetM B sb g (.slice (some ⟨g2, 0, none⟩) W.length cw) (Mn.nsOf W).length cn W.length (fun i c => (Mn.fin (Mn.nsOf W) i (if fold then Mn.low c else c) : Int)) (fun i => (((Mn.nsOf W).getD i []).length : Int)) (fun i => Mn.lw W ((Mn.nsOf W).getD i [])) (fun j => ((W.getD j []).length : Int)) (fun j => Mn.lw W (W.getD j []).tail) V) (h0 : J [] V) :
    CallsIn Fence.wide q Try.prog 35 #[.func (.yield l) #[] #[], .pointer (some ⟨Bt, 0, none⟩), .pointer (some ⟨Bs, 0, none⟩)] V fun e Y => (∃ v, e = .returned v) ∧
      ((∃ ys, ys = Mn.allF W (tx fold s) ∧ J ys Y) ∨ (∃ pre, pre <+: Mn.allF W (tx fold s) ∧ Jx pre Y)) := by
  obtain ⟨ns, hns⟩ : ∃ ns, Mn.nsOf W = ns := ⟨_, rfl⟩
  have htr : Mn.Tr ns := by rw [← hns]; exact Mn.nsOf_tr W
  have hWn : ∀ x ∈ W, x ∈ ns := by rw [← hns]; exact Mn.nsOf_word
  have hnl := hw.ns
  have hwf := hw.few
  rw [hns] at hM hnl
  obtain ⟨n, hn⟩ : ∃ n, ns.length = n := ⟨_, rfl⟩
  obtain ⟨m, hm⟩ : ∃ m, W.length = m := ⟨_, rfl⟩
  rw [hn, hm] at hM
  rw [hn] at hnl
  rw [hm] at hwf
  obtain ⟨T, hT⟩ : ∃ T, tx fold s = T := ⟨_, rfl⟩
  have hTl : T.length = s.size := by rw [← hT]; exact tx_len fold s
  rw [hT] at hY ⊢
  have HX := Hid.mk' (And.intro htr (And.intro hWn (And.intro hT (And.intro hTl (And.intro hn hm)))))
  have HM := Hid.mk' hM
  have HJB := Hid.mk' hJb
  have HY := Hid.mk' hY
  have H0 := Hid.mk' h0
  clear hJb hY h0 hM htr hWn hT hTl hns hw
  refine callsIn_of_wp Try.func35 rfl trivial ?_ rfl
  simp only [Try.ntmps35, List.size_toArray, List.length_cons, List.length_nil, Nat.reduceAdd, Nat.reduceSub, Array.replicate_succ, Array.replicate_zero, List.push_toArray, List.append_toArray, List.nil_append, List.cons_append]
  gi_wp2
  gi_loopw [4, 9] (fun av kv wr => ∃ (k a : Nat), av = .int .i16 (a : Int) ∧ kv = .int .i64 (k : Int) ∧ k ≤ s.size ∧ a < n ∧ Hid (a = Mn.ix ns (Mn.suf ns (T.take k))) ∧ Hid (J (Mn.allK W T k) wr) ∧ Hid (KpB (DM sb g g2 Bt Bs) V wr)) (fun _ kv _ => s.size - (intOf kv).toNat)
  case atStart => exact ⟨0, 0, rfl, rfl, Nat.zero_le _, by have h3 := HX.out.1.zero; have := List.length_pos_of_mem h3; have := HX.out.2.2.2.2.1; omega, HX.out.1.ix0.symm, H0, fun _ _ => rfl⟩
  case round =>
    obtain ⟨k, a, rfl, rfl, hk, han, hai, hj, hkp⟩ := hrel
    by_cases hkn : k < s.size
    · have hkI : (k : Int) < (s.size : Int) := by omega
      obtain ⟨c, hc⟩ : ∃ c, c = (Sums.bl s).getD k 0 := ⟨_, rfl⟩
      have hc256 := byte_lt s k c hkn hc
      have hidx := idx_m s k c hkn hc
      have htk : T.take (k + 1) = T.take k ++ [Mn.lf fold c] := by
        rw [Mn.take_snoc T k (by rw [HX.out.2.2.2.1]; exact hkn)]
        have := tx_get fold s k c hkn hc
        rw [HX.out.2.2.1, List.drop_eq_getElem_cons (by rw [HX.out.2.2.2.1]; exact hkn)] at this
        simp only [List.cons.injEq] at this
        rw [List.getD_eq_getElem?_getD, List.getElem?_eq_getElem (by rw [HX.out.2.2.2.1]; exact hkn), ← this.1]
        rfl
      have hMr := HM.out.kp hkp.out
      obtain ⟨st, hst⟩ : ∃ st, Mn.suf ns (T.take (k + 1)) = st := ⟨_, rfl⟩
      have hstm : st ∈ ns := by rw [← hst]; exact Mn.suf_mem HX.out.1.zero _
      obtain ⟨x, hx⟩ : ∃ x, Mn.ix ns st = x := ⟨_, rfl⟩
      have hxn : x < n := by rw [← hx, ← HX.out.2.2.2.2.1]; exact Mn.ix_lt hstm
      have t1 := (hMr.c_nx a c han hc256).1
      have hfin : Mn.fin ns a (if fold then Mn.low c else c) = x := by
        rw [← hx, ← hst, htk, Mn.suf_step HX.out.1]
        unfold Mn.fin
        rw [hai.out, Mn.ix_getD (Mn.suf_mem HX.out.1.zero _)]
        rfl
      rw [hfin] at t1
      have t3 := (hMr.c_wd x hxn).1
      have hgx : ns.getD x [] = st := by rw [← hx]; exact Mn.ix_getD hstm
      rw [hgx, ← hst, Mn.lw_suf HX.out.2.1] at t3
      obtain ⟨y, hy⟩ : ∃ y, T.take (k + 1) = y := ⟨_, rfl⟩
      rw [hy] at t3
      obtain ⟨u, hu⟩ : ∃ u, Mn.lw W y = u := ⟨_, rfl⟩
      rw [hu] at t3
      obtain ⟨s0, s1, _, _⟩ := hMr.st0
      have b1 : wr.cell? ⟨Bt, 0, none⟩ = some (.string s) := kp_cell hkp.out (.inr (.inr (.inr (.inl rfl)))) hBt
      have b2 : wr.cell? ⟨Bs, 0, none⟩ = some (.pointer (some ⟨sb, 0, none⟩)) := kp_cell hkp.out (.inr (.inr (.inr (.inr rfl)))) hBs
      have hanI : (a : Int) < (n : Int) := by omega
      have hxnI : (x : Int) < (n : Int) := by omega
      have HK := Hid.mk' (And.intro hx (And.intro hst (And.intro hy hu)))
      clear hc htk hst hstm hx hfin hgx hy hu hMr hai
      gi_wp2
      gi_big_quiet_th (fail)
      have HJ0 : Hid (J (Mn.allK W T k) (wr.drewN nq)) := HJB.out _ _ _ hj.out ((Below.refl _ _).drewN' nq)
      have HK0 : Hid (KpB (DM sb g g2 Bt Bs) V (wr.drewN nq)) := hkp.out.drew nq
      have c1 : (wr.drewN nq).cell? ⟨Bs, 0, none⟩ = some (.pointer (some ⟨sb, 0, none⟩)) := b2
      have c2 : (wr.drewN nq).cell? ⟨sb, 0, none⟩ = some (.slice (some ⟨g, 0, none⟩) n cn) := s0
      have c3 : (wr.drewN nq).cell? ⟨g, x * 258 + 257, none⟩ = some (.int .i16 u) := t3
      generalize wr.drewN nq = w2 at *
      clear hj hkp b1 b2 t1 t3 s0 s1
      gi_wp2
      gi_loopw [6] (fun uv wx => ∃ (u : Int) (z : List Nat) (dn : List Nat), uv = .int .i16 u ∧ -1 ≤ u ∧ u < (m : Int) ∧ Hid (u = Mn.lw W z ∧ Mn.wsuf W y = dn ++ Mn.wsuf W z) ∧ Hid (J (Mn.allK W T k ++ dn.map fun w => (k + 1, w)) wx) ∧ Hid (KpB (DM sb g g2 Bt Bs) V wx)) (fun uv _ => Mn.clen W (intOf uv))
      case atStart =>
        have hlt := @Mn.lw_lt W y
        rw [HK.out.2.2.2, HX.out.2.2.2.2.2] at hlt
        exact ⟨u, y, [], rfl, hlt.1, hlt.2, ⟨HK.out.2.2.2.symm, rfl⟩, by rw [List.map_nil, List.append_nil]; exact HJ0, HK0⟩
      case round =>
        obtain ⟨u, z, dn, rfl, hu1, hu2, huz, hj, hkp⟩ := hrel
        rename World => wx
        clear HJ0 HK0 c1 c2 c3
        rcases Mn.lw_cases W z with ⟨e1, e2⟩ | ⟨v, xx, e1, e2, e3, _, _⟩
        · have hu0 : u = -1 := by rw [huz.out.1]; exact e1
          subst hu0
          have HE : Hid (Mn.allK W T (k + 1) = Mn.allK W T k ++ dn.map fun w => (k + 1, w)) := by
            have h9 := huz.out.2
            rw [e2, List.append_nil] at h9
            rw [Mn.allK_next, HK.out.2.2.1, h9]
            exact rfl
          clear e1 e2
          gi_wp2
          go_roundw
          case rel => exact ⟨k + 1, x, rfl, by simp, by omega, hxn, by rw [HK.out.2.1]; exact HK.out.1.symm, by rw [HE.out]; exact hj, hkp⟩
          case measure =>
            simp [intOf]
            omega
        · have hu0 : u = (v : Int) := by rw [huz.out.1]; exact e1
          subst hu0
          have hvm : v < m := by omega
          have hvI : (v : Int) < (m : Int) := by omega
          have hv0 : ((v : Int) == -1) = false := by simp
          have hgd : W.getD v [] = xx := by rw [List.getD_eq_getElem?_getD, e2]; rfl
          have hpre : (Mn.allK W T k ++ dn.map fun w => (k + 1, w)) ++ [(k + 1, v)] <+: Mn.allF W T := by
            refine List.IsPrefix.trans ?_ (Mn.allF_pre W T (k + 1) (by rw [HX.out.2.2.2.1]; omega))
            rw [Mn.allK_next, HK.out.2.2.1, huz.out.2, e3, List.append_assoc]
            refine (List.prefix_append_right_inj _).2 ?_
            rw [List.map_append, List.map_cons]
            refine (List.prefix_append_right_inj _).2 ?_
            exact ⟨_, rfl⟩
          have HPR := Hid.mk' (And.intro hpre e3)
          have hvw : IntKind.i64.wrap (v : Int) = (v : Int) := by
            simp only [IntKind.wrap_i64]
            omega
          obtain ⟨fn, tmps, assign, body, hyy, hR⟩ := HY.out _ (k + 1, v) wx hj.out hpre
          have HGD := Hid.mk' (And.intro hgd e1)
          dsimp only [encM] at hyy
          have e9 : ((k + 1 : Nat) : Int) = (k : Int) + 1 := by omega
          rw [e9] at hyy
          clear e9
          clear hpre e1 e2 e3 hgd
          gi_wp2
          refine hR.mono ?_
          rintro e W3 (⟨rfl, hJ3, hk3⟩ | ⟨rfl, hJx3⟩)
          · have HJ3 := Hid.mk' hJ3
            have HK3 := Hid.mk' (hkp.out.t hk3)
            have hM3 := HM.out.kp HK3.out
            have d1 : W3.cell? ⟨Bs, 0, none⟩ = some (.pointer (some ⟨sb, 0, none⟩)) := kp_cell HK3.out (.inr (.inr (.inr (.inr rfl)))) hBs
            obtain ⟨_, d2, _, _⟩ := hM3.st0
            have d3 := (hM3.c_sh v hvm).1
            obtain ⟨u3, hu3⟩ : ∃ u3, Mn.lw W (W.getD v []).tail = u3 := ⟨_, rfl⟩
            rw [hu3] at d3
            have HU3 := Hid.mk' hu3
            clear hJ3 hk3 hyy hM3 hu3
            gi_wp2
            go_roundw
            case rel =>
              have hlt := @Mn.lw_lt W (W.getD v []).tail
              rw [HU3.out, HX.out.2.2.2.2.2] at hlt
              refine ⟨u3, (W.getD v []).tail, dn ++ [v], rfl, hlt.1, hlt.2, ⟨HU3.out.symm, ?_⟩, ?_, HK3⟩
              · rw [huz.out.2, HPR.out.2, HGD.out.1]
                simp
              · rw [List.map_append, ← List.append_assoc]
                exact HJ3
            case measure =>
              have h7 : Mn.clen W u3 < Mn.clen W (v : Int) := by
                rw [← HU3.out, Mn.clen_of]
                unfold Mn.clen
                rw [if_neg (by omega), Int.toNat_natCast]
                omega
              simpa [intOf] using h7
          · have HJX := Hid.mk' hJx3
            clear hJx3
            gi_wp2
            refine bodyPost_ret (results_none rfl _ _ _) rfl ?_
            exact ⟨⟨_, rfl⟩, .inr ⟨_, HPR.out.1, HJX.out⟩⟩
    · have hkI : ¬ (k : Int) < (s.size : Int) := by omega
      have HE : Hid (Mn.allK W T k = Mn.allF W T) := by
        unfold Mn.allF
        rw [HX.out.2.2.2.1, show k = s.size by omega]
        exact rfl
      clear HY
      gi_wp2
      go_end0
      exact ⟨⟨_, rfl⟩, .inl (by rw [← HE.out]; exact hj.out)⟩
abbrev noW : Obj → Prop := fun _ => False
theorem all_seqN (q : Nat) (hq : 1 ≤ q) (Bt Bs B sb g g2 cn cw : Nat) (W : List (List Nat)) (fold : Bool) (s : ByteArray) (hw : Wok W) (hs : s.size ≤ 1125899906842624) (w : World)
    (hBt : w.cell? ⟨Bt, 0, none⟩ = some (.string s)) (hBs : w.cell? ⟨Bs, 0, none⟩ = some (.pointer (some ⟨sb, 0, none⟩)))
    (hM : SetM B sb g (.slice (some ⟨g2, 0, none⟩) W.length cw) (Mn.nsOf W).length cn W.length (fun i c => (Mn.fin (Mn.nsOf W) i (if fold then Mn.low c else c) : Int)) (fun i => (((Mn.nsOf W).getD i []).length : Int)) (fun i => Mn.lw W ((Mn.nsOf W).getD i [])) (fun j => ((W.getD j []).length : Int)) (fun j => Mn.lw W (W.getD j []).tail) w) :
    SeqN Fence.wide q Try.prog 35 #[.pointer (some ⟨Bt, 0, none⟩), .pointer (some ⟨Bs, 0, none⟩)] encM noW (KpB (DM sb g g2 Bt Bs)) (fun ys => ys = Mn.allF W (tx fold s)) (fun pre => pre <+: Mn.allF W (tx fold s)) w := fun l J Jx V hV hJ _ hY h0' => by
  have hbt := World.block_lt_of_cell? w ⟨Bt, 0, none⟩ hBt
  have hbs := World.block_lt_of_cell? w ⟨Bs, 0, none⟩ hBs
  exact all1_inN q hq l Bt Bs B sb g g2 cn cw W fold s hw hs J Jx V
    (fun pre X Y h hb => hJ pre X Y none h ⟨hb.os, hb.tape, hb.output, hb.size, fun k hk _ => hb.block k hk⟩ (fun r e => by cases e))
    hY ((hV.cell (p := ⟨Bt, 0, none⟩) hbt).trans hBt) ((hV.cell (p := ⟨Bs, 0, none⟩) hbs).trans hBs) (hM.keep hV) h0'
end Go.Proofs.Ytlbfnchjbpioeaa
