/-
  The walk of the law RecordGoes: whatever text and number it is given it returns true, and of what was there nothing turns. Conditions: a text no longer than a text can be, a number of its type.
-/
import Derived.Test.YtchhdkmflppjhaaGoC
import Derived.Test.YtchhdkmflppjhaaRcP
import Derived.Test.YtchhdkmflppjhaaRngQ
import Derived.Test.YtchhdkmflppjhaaEnF
namespace Go.Proofs.Ytchhdkmflppjhaa
open Go.RowKit Go.Shelf
set_option linter.unusedVariables false
attribute [local go_sem] Oper.semAt_some
theorem nil_funcG (fn : Fn) (first cap : Array Value) (w : World) : (binOp .eql 32 (.func fn first cap) .nilFunc).run Try.prog w = .ok (.bool false) w := by kernel_rfl
theorem txt_leG (s : ByteArray) : (if (Rec.decF s).1 = 0 then (Rec.decF s).2.1 else []).length ≤ 131072 := by
  by_cases h : (Rec.decF s).1 = 0
  · rw [if_pos h]
    obtain ⟨h1, h2, h3, _⟩ := Rec.dec_ok s h
    have hl : Rec.szF (Rec.decF s).2.1 = s.size := by rw [← Rec.pay_len, h1, Sums.bl_length]
    have := Rec.len_le (Rec.decF s).2.1
    unfold Rec.szF at hl
    omega
  · rw [if_neg h]
    exact Nat.zero_le _
set_option maxRecDepth 100000 in
set_option maxHeartbeats 4000000 in
theorem recordGoes_any (s : ByteArray) (leave : Int) (w : World) (hs : s.size ≤ 140737488351232) (hl0 : -9223372036854775808 ≤ leave) (hl1 : leave ≤ 9223372036854775807) :
    Calls Try.prog 4 #[.string s, .int .i64 leave] w fun e w' => e = .returned (.bool true) ∧ Below w.heap.size w w' := by
  refine (callsIn_wide (n := 6)).1 ?_
  obtain ⟨b, hb⟩ : ∃ b, w.heap.size = b := ⟨_, rfl⟩
  obtain ⟨R, hR⟩ : ∃ R, R = Rec.decF s := ⟨_, rfl⟩
  have hLb := txt_leG s
  rw [← hR] at hLb
  obtain ⟨E, L0, p⟩ := R
  have HR : Hid (∀ W : World, Calls Try.prog 8 #[.string s] W fun e w' => DecP E L0 p W e w') := fun W => rDecode_any s W (by omega) (E, L0, p) hR
  obtain ⟨L, hL⟩ : ∃ L, L = if E = 0 then L0 else [] := ⟨_, rfl⟩
  simp only at hLb
  rw [← hL] at hLb
  have HSEQ : Hid (∀ (q : Nat), 1 ≤ q → ∀ (Bs : Nat) (W : World), W.cell? ⟨Bs, 0, none⟩ = some (.string s) → SeqN Fence.wide q Try.prog 30 #[.pointer (some ⟨Bs, 0, none⟩)] encLn noO (KpC W.heap.size) (fun ys => ys = ixK L L.length) (fun pre => pre <+: ixK L L.length) W) := fun q hq Bs W hc => all_seqN q hq Bs s (by omega) E p L0 L hR hL hLb W hc
  have HL := Hid.mk' hL
  have hnf := nil_funcG
  clear hR hL
  refine callsIn_of_wp_marks Try.func4 rfl trivial ?_ rfl
  simp only [Try.ntmps4, List.size_toArray, List.length_cons, List.length_nil, Nat.reduceAdd, Nat.reduceSub, Array.replicate_succ, Array.replicate_zero, List.push_toArray, List.append_toArray, List.nil_append, List.cons_append]
  gi_wp2_with (first | (refine ⟨trivial, ?_⟩; gi_at_call 6; refine (callsIn_wide.2 (examples_any _)).mono ?_; rintro e w1 ⟨rfl, hb1⟩) | (refine ⟨trivial, ?_⟩; gi_at_call 8; refine (callsIn_wide.2 (HR.out _)).mono ?_; intro e w2 hd2; obtain ⟨v, rfl, hv, hb2⟩ := dec_rowG hd2; rw [← HL.out] at hv; obtain ⟨pv, cv, rfl⟩ := row_shape hv; have HV := Hid.mk' hv; have HB2 := Hid.mk' hb2; have HB1 := Hid.mk' hb1; have hst := store_lastG (P := Try.prog) ((w2.alloc (.cells #[.slice pv L.length cv] 23)).alloc (.cells #[.string s] 9)) .nilFunc (fnG w2.heap.size) 32 (w2.heap.size + 1 + 1) (by simp) rfl; clear hd2 hv hb2 hb1) | (refine ⟨trivial, ?_⟩; gi_at_call 11; refine (callsIn_wide.2 (all_any s _)).mono ?_; rintro e w' ⟨rfl, rfl⟩) | fail)
  obtain ⟨c, hc⟩ : ∃ c, w2.heap.size = c := ⟨_, rfl⟩
  rw [hc]
  obtain ⟨n, hn⟩ : ∃ n, L.length = n := ⟨_, rfl⟩
  obtain ⟨v, hv⟩ : ∃ v, Value.slice pv n cv = v := ⟨_, rfl⟩
  rw [hn] at HV ⊢
  rw [hv] at HV ⊢
  obtain ⟨W0, hW0⟩ : ∃ W0, ((((w2.alloc (.cells #[v] 23)).alloc (.cells #[.string s] 9)).alloc (.cells #[fnG c] 32)).alloc (.cells #[.int .i64 0] 3)) = W0 := ⟨_, rfl⟩
  have hz : W0.heap.size = c + 4 := by rw [← hW0, ← hc]; simp
  have hs2 : ((w.alloc (.cells #[.int .i64 leave] 3)).alloc (.cells #[.bool false] 4)).heap.size = b + 2 := by rw [← hb]; simp
  have hbs := HB1.out.size
  have hcs := HB2.out.size
  rw [hs2] at hbs
  have hbc : b + 2 ≤ c := by omega
  have hF2 : Boxed w2 b 3 (.int .i64 leave) ∧ Boxed w2 (b + 1) 4 (.bool false) ∧ Below b w w2 := by
    have h12 : Below (b + 2) ((w.alloc (.cells #[.int .i64 leave] 3)).alloc (.cells #[.bool false] 4)) w2 := by
      have h1 := HB1.out
      rw [hs2] at h1
      have h2 := HB2.out
      exact h1.trans ⟨h2.os, h2.tape, h2.output, h2.size, fun k hk => h2.block k (by omega)⟩
    refine ⟨(h12.block b (by omega)).trans ?_, (h12.block (b + 1) (by omega)).trans ?_, ?_⟩
    · rw [← hb]
      exact (Boxed.new w _ _).alloc _
    · have h9 := Boxed.new (w.alloc (.cells #[.int .i64 leave] 3)) 4 (.bool false)
      rw [World.size_alloc, hb] at h9
      exact h9
    · exact (((Below.refl b w).alloc (by omega) _).alloc (by simp; omega) _).trans ⟨h12.os, h12.tape, h12.output, h12.size, fun k hk => h12.block k (by omega)⟩
  have hG0 : Gx s L b c v leave w W0 := by
    obtain ⟨q1, q2, q3⟩ := hF2
    rw [← hW0]
    refine ⟨(((q1.alloc _).alloc _).alloc _).alloc _, (((q2.alloc _).alloc _).alloc _).alloc _, ?_, ?_, ?_, ?_, ((((q3.alloc (by omega) _).alloc (by simp; omega) _).alloc (by simp; omega) _).alloc (by simp; omega) _)⟩
    · rw [← hc]
      exact (((Boxed.new w2 _ _).alloc _).alloc _).alloc _
    · have := ((Boxed.new (w2.alloc (.cells #[v] 23)) 9 (.string s)).alloc (.cells #[fnG c] 32)).alloc (.cells #[.int .i64 0] 3)
      simpa [hc] using this
    · have := (Boxed.new ((w2.alloc (.cells #[v] 23)).alloc (.cells #[.string s] 9)) 32 (fnG c)).alloc (.cells #[.int .i64 0] 3)
      simpa [hc] using this
    · rw [hn]
      exact (((own_mono HV.out hbs).alloc _).alloc _).alloc _ |>.alloc _
  have hk0 : Boxed W0 (c + 3) 3 (.int .i64 0) := by
    have := Boxed.new (((w2.alloc (.cells #[v] 23)).alloc (.cells #[.string s] 9)).alloc (.cells #[fnG c] 32)) 3 (.int .i64 0)
    rw [← hW0]
    simpa [hc] using this
  rw [hW0]
  clear hW0 hst hF2 hs2 hbs hcs HV HB1 HB2 HR hc
  rename_i K hK
  have HKR := Hid.mk' hK
  clear hK
  rw [hn] at HSEQ
  have HN := Hid.mk' hn
  have hnb : n ≤ 131072 := by omega
  have HVV := Hid.mk' hv
  clear hn hv
  refine g_with fun a0 hfr => ?_
  have rest : ∀ (D : Nat) (W : World) (kk : Int), W0.heap.size ≤ D → Gx s L b c v leave w W → Boxed W (c + 3) 3 (.int .i64 kk) → (kk = (n : Int) ∨ (kk ≠ (n : Int) ∧ kk = leave)) → W0.heap.size ≤ W.heap.size → W.heap[D]? = some (.deferred (some [])) → K { a0 with defers := { target := .collected D, args := #[] } :: a0.defers } W := by
    intro D W kk hD hg hk hor hsz hdef
    refine HKR.out _ _ ?_
    rw [hfr]
    have ck := hk.cell
    have fk := hk.frozen
    have cw := hg.want.cell
    rw [← HVV.out] at cw
    have cl := hg.lv.cell
    have ca := hg.all.cell
    have HG := Hid.mk' (And.intro hg (And.intro hk (And.intro hsz hdef)))
    have HCA : Hid ((W.setCell ⟨c + 3, 0, none⟩ (.int .i64 0)).cell? ⟨c + 2, 0, none⟩ = some (fnG c)) := (boxG_other hg.all (by omega) _).cell
    have ca2 := HCA.out
    clear hg hk hsz hdef
    rcases hor with rfl | ⟨h1, rfl⟩
    · gi_wp2
      rename_i K2 hK2
      have HK2 := Hid.mk' hK2
      clear hK2 ck fk cw cl ca ca2
      obtain ⟨hg, hk, hsz, hdef⟩ := HG.out
      obtain ⟨W2, hW2⟩ : ∃ W2, W.setCell ⟨c + 1 + 1 + 1, 0, none⟩ (.int .i64 0) = W2 := ⟨_, rfl⟩
      have hg2 : Gx s L b c v leave w W2 := by rw [← hW2]; exact hg.setk hk (by omega) hbc
      have hk2 : Boxed W2 (c + 3) 3 (.int .i64 0) := by rw [← hW2]; exact hk.set _
      have hd2 : W2.heap[D]? = some (.deferred (some [])) := by rw [← hW2]; exact (Below.heap_setCell W ⟨c + 1 + 1 + 1, 0, none⟩ _ D (by show D ≠ c + 1 + 1 + 1; omega)).trans hdef
      have hsz2 : W0.heap.size ≤ W2.heap.size := by rw [← hW2]; simpa [World.setCell] using hsz
      rw [hW2]
      clear hg hk hsz hdef hW2 HG HCA
      refine g_with fun a2 hfr2 => ?_
      refine wpIn_rangeB rfl (by omega) (gf := 30) (lb := #[.pointer (some ⟨c + 1, 0, none⟩)]) (by rw [hfr2]; rfl) trivial (enters_of Try.func30 (by kernel_rfl) rfl)
        (HSEQ.out 5 (by omega) (c + 1) W2 hg2.txt.cell) (fun _ h => h.elim) KpC.t (fun W k o o' _ h h1 => KpC.put W k o o' h h1) (Below.refl _ _) (fun _ => rfl)
        (fun pre W => Gx s L b c v leave w W ∧ Boxed W (c + 3) 3 (.int .i64 (pre.length : Int)) ∧ W2.heap.size ≤ W.heap.size ∧ W.heap[D]? = some (.deferred (some [])))
        (fun _ _ _ => False)
        (fun pre X Y row h hg hr => ⟨h.1.ab (B := W2.heap.size) (by omega) (by omega) hg hr, boxG_ab h.2.1 hg hr, Nat.le_trans h.2.2.1 hg.size, (hg.block D (Array.getElem?_eq_some_iff.1 h.2.2.2).1 (fun e => by have h1 := (hr D e.symm).1; have h2 := (Array.getElem?_eq_some_iff.1 hd2).1; omega)).trans h.2.2.2⟩)
        (fun cd pre X Y row h hg hr => h)
        ⟨hg2, hk2, Nat.le_refl _, hd2⟩ (fun pre W h => h.2.2.1) (fun W o => KpC.new W o) (fun x bl => [(13, .int .i64 (x.1 : Int)), (14, .pointer (some ⟨bl, 0, none⟩))]) (fun x => .cells #[.int .i64 x.2.1, .string x.2.2] 35) (fun _ => rfl) (fun _ h => h) ?assign2 ?body2 ?done2 ?stop2
      case assign2 =>
        intro l pre x W K hK
        rw [hfr2] at hK ⊢
        simp only [encLn] at hK ⊢
        gi_wp2
        refine g_to hK ?_
        simp
      case stop2 => exact fun D c pre W hD hpre h => h.elim
      case done2 =>
        rintro E2 xs X hE2 rfl ⟨hg, hk, hsz, hdf⟩ hde
        refine HK2.out _ _ ?_
        rw [hfr2]
        rw [ixK_len] at hk
        have ck := hk.cell
        have cw := hg.want.cell
        rw [← HVV.out] at cw
        have cr := hg.res.cell
        have fr := hg.res.frozen
        have hnn : ((n : Int) == (n : Int)) = true := by simp
        have hDl := (Array.getElem?_eq_some_iff.1 hd2).1
        have HE := Hid.mk' (And.intro (show (X.setCell ⟨b + 1, 0, none⟩ (.bool true)).heap[E2]? = some (.deferred (some [])) from (Below.heap_setCell X ⟨b + 1, 0, none⟩ _ E2 (by show E2 ≠ b + 1; omega)).trans hde) (And.intro (show (X.setCell ⟨b + 1, 0, none⟩ (.bool true)).heap[D]? = some (.deferred (some [])) from (Below.heap_setCell X ⟨b + 1, 0, none⟩ _ D (by show D ≠ b + 1; omega)).trans hdf) (And.intro (hg.res.set (.bool true)) (hg.bel.setCell (p := ⟨b + 1, 0, none⟩) (by show b ≤ b + 1; omega) (.bool true)))))
        clear hg hk hsz hdf hde
        gi_wp2
        obtain ⟨X1, hX1⟩ : ∃ X1, X.setCell ⟨b + 1, 0, none⟩ (.bool true) = X1 := ⟨_, rfl⟩
        have HE1 := HE.out
        rw [hX1] at HE1 ⊢
        obtain ⟨e1, e2, hr1, hbl⟩ := HE1
        have f2 : (X1.putObj E2 (.deferred none)).heap[D]? = some (.deferred (some [])) := (World.putObj_heap_other (by omega)).trans e2
        have hbox : Boxed ((X1.putObj E2 (.deferred none)).putObj D (.deferred none)) (b + 1) 4 (.bool true) := (World.putObj_heap_other (by omega)).trans ((World.putObj_heap_other (by omega)).trans hr1)
        have hcb := hbox.cell
        refine ⟨by simp, .inl ⟨_, _, rfl, run_takeDeferred e1, ?_⟩⟩
        refine ⟨by simp, .inl ⟨_, _, rfl, run_takeDeferred f2, ?_⟩⟩
        refine ⟨.bool true, ?_, rfl, ?_⟩
        · simp [results, Try.f4, go_sem, hcb]
        · rw [hb]
          exact ⟨hbl.os, hbl.tape, hbl.output, by simpa using hbl.size, fun k hk => (World.putObj_heap_other (by omega)).trans ((World.putObj_heap_other (by omega)).trans (hbl.block k hk))⟩
      case body2 =>
        rintro l pre x bl W hl ⟨rl, hrl⟩ ⟨hg, hk, hsz, hdf⟩ hbl hbx hpre
        obtain ⟨hlt, rfl⟩ := ixK_add hpre
        obtain ⟨k, hkk⟩ : ∃ k, pre.length = k := ⟨_, rfl⟩
        rw [hkk] at hk hlt hbx ⊢
        have hrow := hg.row
        rw [← HVV.out, HN.out] at hrow
        obtain ⟨g, rfl, _, _⟩ := row_addr hrow (by omega)
        have e0 := (own_at hrow k hlt).1
        have e1 := (own_at hrow k hlt).2
        obtain ⟨x, t, hxt⟩ : ∃ x t, L.getD k (0, ⟨#[]⟩) = (x, t) := ⟨_, _, rfl⟩
        rw [hxt] at e0 e1 hbx ⊢
        have q0 : W.cell? ⟨bl, 0, none⟩ = some (.int .i64 x) := by simp [World.cell?, hbx]
        have q1 : W.cell? ⟨bl, 1, none⟩ = some (.string t) := by simp [World.cell?, hbx]
        have ck := hk.cell
        have fk := hk.frozen
        have cw := hg.want.cell
        rw [← HVV.out] at cw
        have ca := hg.all.cell
        have hkI : (k : Int) < (n : Int) := by omega
        have hkI2 : ¬ (n : Int) ≤ (k : Int) := by omega
        have hkB : decide ((n : Int) ≤ (k : Int)) = false := by simp; omega
        have hk0' : (0 : Int) ≤ (k : Int) := by omega
        have hkN : decide (n ≤ k) = false := decide_eq_false (by omega)
        have hq : ∀ W, (binOp .neq 35 (.agg #[.int .i64 x, .string t]) (.agg #[.int .i64 x, .string t])).run Try.prog W = .ok (.bool false) W := fun W => by rw [neq_line]; simp
        have HG := Hid.mk' (And.intro hg (And.intro hk (And.intro hsz (And.intro hdf (And.intro hkk (And.intro hlt hrl))))))
        clear hg hk hsz hrow hbx hpre hxt hkk hdf hrl
        rw [hfr2]
        apply g_act
        case e => simp [encLn]; rfl
        by_cases hle : k = 1
        · have hleB : ((k : Int) == 1) = true := by simp; omega
          have hleN : (k == 1) = true := by simp; omega
          have HLE := Hid.mk' hle
          clear hle
          gi_wp2
          refine wpIn_region_quiet_rnd (F := Fence.wide) l rfl (by kernel_rfl) (by kernel_rfl) (by kernel_rfl) ?_
          repeat (gi_big_quiet_step (fail))
          refine wpQuietIn_nil ?_
          intro _ hwq0
          obtain ⟨nq, hwq1⟩ := hwq0
          subst hwq1
          have HGY : Hid (Gx s L b c v leave w (W.drewN nq) ∧ Boxed (W.drewN nq) (c + 3) 3 (.int .i64 (k : Int)) ∧ W2.heap.size ≤ (W.drewN nq).heap.size ∧ (W.drewN nq).heap[D]? = some (.deferred (some [])) ∧ (W.drewN nq).heap[l]? = some (.loop rl) ∧ KeptW W2.heap.size noO W (W.drewN nq) ∧ KpC W2.heap.size W (W.drewN nq)) := ⟨HG.out.1.drew nq, HG.out.2.1, HG.out.2.2.1, HG.out.2.2.2.1, HG.out.2.2.2.2.2.2, ⟨Nat.le_refl _, fun _ _ _ h _ => h⟩, fun _ _ _ h _ => h⟩
          have HKL : Hid (pre.length = k) := HG.out.2.2.2.2.1
          clear ck fk cw ca e0 e1 q0 q1 HG
          generalize hYY : W.drewN nq = Y at HGY ⊢
          clear hYY
          have ck2 := HGY.out.2.1.cell
          have ca2 : ∀ o, (Y.alloc o).cell? ⟨c + 1 + 1, 0, none⟩ = some (fnG c) := fun o => (HGY.out.1.all.alloc o).cell
          gi_wp2
          rename_i K3 hK3
          have HK3 := Hid.mk' hK3
          clear hK3 ck2 ca2
          obtain ⟨W3, hW3⟩ : ∃ W3, Y.alloc (.cells #[.int .i64 0] 3) = W3 := ⟨_, rfl⟩
          obtain ⟨mb, hmb⟩ : ∃ mb, Y.heap.size = mb := ⟨_, rfl⟩
          obtain ⟨yg, yk, ys, yd, yl, ykp, ykc⟩ := HGY.out
          have hg3 : Gx s L b c v leave w W3 := by rw [← hW3]; exact yg.alloc (by omega) _
          have hk3 : Boxed W3 (c + 3) 3 (.int .i64 (k : Int)) := by rw [← hW3]; exact yk.alloc _
          have hm3 : Boxed W3 mb 3 (.int .i64 0) := by rw [← hW3, ← hmb]; exact Boxed.new Y _ _
          have hd3 : W3.heap[D]? = some (.deferred (some [])) := by rw [← hW3]; exact (Below.heap_alloc _ _ _ (Array.getElem?_eq_some_iff.1 yd).1).trans yd
          have hl3 : W3.heap[l]? = some (.loop rl) := by rw [← hW3]; exact (Below.heap_alloc _ _ _ (Array.getElem?_eq_some_iff.1 yl).1).trans yl
          have hkp3 : KeptW W2.heap.size noO W W3 := by
            rw [← hW3]
            exact ykp.trans ⟨by simp, fun i o _ h _ => (Below.heap_alloc _ _ _ (Array.getElem?_eq_some_iff.1 h).1).trans h⟩
          have hkc3 : KpC W2.heap.size W W3 := by rw [← hW3]; exact ykc.t (KpC.new Y _)
          have hmz : mb + 1 = W3.heap.size := by rw [← hW3, World.size_alloc, hmb]
          have hws : W.heap.size ≤ mb := by rw [← hmb]; exact ykp.size
          have hws2 : W2.heap.size ≤ mb := by rw [← hmb]; exact ys
          have hcm : c + 4 ≤ mb := by have := hz; omega
          have hDm : D < mb := by rw [← hmb]; exact (Array.getElem?_eq_some_iff.1 yd).1
          rw [hW3, hmb]
          clear yg yk ys yd yl ykp ykc hW3 HGY hmb
          refine g_with fun a3 hfr3 => ?_
          refine wpIn_rangeB_in (l₀ := l) (r₀ := rl) rfl hl3 (by omega) (gf := 30) (lb := #[.pointer (some ⟨c + 1, 0, none⟩)]) (by rw [hfr3]; rfl) trivial (enters_of Try.func30 (by kernel_rfl) rfl)
            (show SeqN (Fence.wide.inRound l) 3 Try.prog 30 #[.pointer (some ⟨c + 1, 0, none⟩)] encLn noO (KpC W3.heap.size) (fun ys => ys = ixK L n) (fun pre => pre <+: ixK L n) W3 from HSEQ.out 3 (by omega) (c + 1) W3 hg3.txt.cell) (fun _ h => h.elim) KpC.t (fun W k o o' _ h h1 => KpC.put W k o o' h h1) (Below.refl _ _) (fun _ => rfl)
            (fun qre X => Gx s L b c v leave w X ∧ Boxed X (c + 3) 3 (.int .i64 (k : Int)) ∧ Boxed X mb 3 (.int .i64 (qre.length : Int)) ∧ W3.heap.size ≤ X.heap.size ∧ X.heap[D]? = some (.deferred (some [])) ∧ KeptW W2.heap.size noO W X ∧ KpC W2.heap.size W X)
            (fun _ _ _ => False)
            (fun pre X Y row h hg hr => ⟨h.1.ab (B := W3.heap.size) (by omega) (by omega) hg hr, boxG_ab h.2.1 hg hr, boxG_ab h.2.2.1 hg hr, Nat.le_trans h.2.2.2.1 hg.size, (hg.block D (Array.getElem?_eq_some_iff.1 h.2.2.2.2.1).1 (fun e => by have h1 := (hr D e.symm).1; omega)).trans h.2.2.2.2.1, keptG_ab h.2.2.2.2.2.1 hg hr (by omega), h.2.2.2.2.2.2.ab hg hr⟩)
            (fun cd pre X Y row h hg hr => h)
            ⟨hg3, hk3, hm3, Nat.le_refl _, hd3, hkp3, hkc3⟩ (fun pre W h => h.2.2.2.1) (fun W o => KpC.new W o) (fun x bl => [(16, .int .i64 (x.1 : Int)), (17, .pointer (some ⟨bl, 0, none⟩))]) (fun x => .cells #[.int .i64 x.2.1, .string x.2.2] 35) (fun _ => rfl) (fun _ h => h) ?assign3 ?body3 ?done3 ?stop3
          case assign3 =>
            intro l pre x W K hK
            rw [hfr3] at hK ⊢
            simp only [encLn] at hK ⊢
            gi_wp2
            refine g_to hK ?_
            simp
          case stop3 => exact fun c pre W hpre h => h.elim
          case done3 =>
            rintro xs X rfl ⟨hg, hk, hm, hsz, hdf, hkp, hkc⟩
            refine HK3.out _ _ ?_
            rw [hfr3]
            rw [ixK_len] at hm
            have cm := hm.cell
            have cw := hg.want.cell
            rw [← HVV.out] at cw
            have ck := hk.cell
            have fk := hk.frozen
            have hnn : ((n : Int) != (n : Int)) = false := by simp
            have HX := Hid.mk' (And.intro hg (And.intro hk (And.intro hsz (And.intro hdf (And.intro hkp hkc)))))
            clear hg hk hm hsz hdf hkp hkc
            gi_wp2
            obtain ⟨hg, hk, hsz, hdf, hkp, hkc⟩ := HX.out
            exact ⟨hkp.trans (keptG_set _ _ _ _), hkc.t (KpC.set _ _ _ (.inl (by omega))), hg.setk hk (by omega) hbc, by have h9 := hk.set (.int .i64 ((k : Int) + 1)); rw [List.length_append, HKL.out]; simpa using h9, by simpa [World.setCell] using Nat.le_trans (by omega) hsz, (Below.heap_setCell X ⟨c + 1 + 1 + 1, 0, none⟩ _ D (by show D ≠ c + 1 + 1 + 1; omega)).trans hdf⟩
          case body3 =>
            rintro l2 qre y bl2 X hl2 ⟨rl2, hrl2⟩ ⟨hg, hk, hm, hsz, hdf, hkp, hkc⟩ hbl2 hbx hpre2
            obtain ⟨hlt2, rfl⟩ := ixK_add hpre2
            obtain ⟨j, hjj⟩ : ∃ j, qre.length = j := ⟨_, rfl⟩
            rw [hjj] at hm hlt2 hbx ⊢
            have hrow := hg.row
            rw [← HVV.out, HN.out] at hrow
            have e0 := (own_at hrow j hlt2).1
            have e1 := (own_at hrow j hlt2).2
            obtain ⟨x2, t2, hxt⟩ : ∃ x t, L.getD j (0, ⟨#[]⟩) = (x, t) := ⟨_, _, rfl⟩
            rw [hxt] at e0 e1 hbx ⊢
            have q0 : X.cell? ⟨bl2, 0, none⟩ = some (.int .i64 x2) := by simp [World.cell?, hbx]
            have q1 : X.cell? ⟨bl2, 1, none⟩ = some (.string t2) := by simp [World.cell?, hbx]
            have cm := hm.cell
            have fm := hm.frozen
            have cw := hg.want.cell
            rw [← HVV.out] at cw
            have hjI : (j : Int) < (n : Int) := by omega
            have hjI2 : ¬ (n : Int) ≤ (j : Int) := by omega
            have hjB : decide ((n : Int) ≤ (j : Int)) = false := by simp; omega
            have hj0' : (0 : Int) ≤ (j : Int) := by omega
            have hjN : decide (n ≤ j) = false := decide_eq_false (by omega)
            have hq2 : ∀ W, (binOp .neq 35 (.agg #[.int .i64 x2, .string t2]) (.agg #[.int .i64 x2, .string t2])).run Try.prog W = .ok (.bool false) W := fun W => by rw [neq_line]; simp
            have HX := Hid.mk' (And.intro hg (And.intro hk (And.intro hm (And.intro hsz (And.intro hdf (And.intro hkp (And.intro hkc hjj)))))))
            clear hg hk hm hsz hrow hbx hpre2 hxt hjj hdf hrl2 hkp hkc
            rw [hfr3]
            apply g_act
            case e => simp [encLn]; rfl
            gi_wp2
            refine wpIn_region_quiet_rnd (F := Fence.wide) l2 rfl (by kernel_rfl) (by kernel_rfl) (by kernel_rfl) ?_
            repeat (gi_big_quiet_step (fail))
            refine wpQuietIn_nil ?_
            intro _ hwq0
            obtain ⟨nr, hwq1⟩ := hwq0
            subst hwq1
            have cm2 : (X.drewN nr).cell? ⟨mb, 0, none⟩ = some (.int .i64 (j : Int)) := cm
            have fm2 : (X.drewN nr).frozen? ⟨mb, 0, none⟩ = false := fm
            gi_wp2
            obtain ⟨hg, hk, hm, hsz, hdf, hkp, hkc, hjj⟩ := HX.out
            exact ⟨keptG_setd _ _ _ _ _, KpC.setd _ _ _ _ (.inl (by omega)), (hg.drew nr).setk (W := X.drewN nr) hm (by omega) hbc, boxG_other (W := X.drewN nr) hk (by omega) _, by have h9 := Boxed.set (W := X.drewN nr) (.int .i64 ((j : Int) + 1)) hm; rw [List.length_append, hjj]; simpa using h9, by simpa [World.setCell] using hsz, (Below.heap_setCell (X.drewN nr) ⟨mb, 0, none⟩ _ D (by show D ≠ mb; omega)).trans hdf, hkp.trans (keptG_setd _ _ _ _ _), hkc.setw _ _ _ (by omega)⟩
        · have hleB : ((k : Int) == 1) = false := by simp; omega
          have hleN : (k == 1) = false := by simp; omega
          gi_wp2
          refine wpIn_region_quiet_rnd (F := Fence.wide) l rfl (by kernel_rfl) (by kernel_rfl) (by kernel_rfl) ?_
          repeat (gi_big_quiet_step (fail))
          refine wpQuietIn_nil ?_
          intro _ hwq0
          obtain ⟨nq, hwq1⟩ := hwq0
          subst hwq1
          have ck2 : (W.drewN nq).cell? ⟨c + 3, 0, none⟩ = some (.int .i64 (k : Int)) := ck
          have fk2 : (W.drewN nq).frozen? ⟨c + 3, 0, none⟩ = false := fk
          gi_wp2
          obtain ⟨hg, hk, hsz, hdf, hkk, hlt, hrl⟩ := HG.out
          exact ⟨keptG_setd _ _ _ _ _, KpC.setd _ _ _ _ (.inl (by omega)), (hg.drew nq).setk (W := W.drewN nq) hk (by omega) hbc, by have h9 := Boxed.set (W := W.drewN nq) (.int .i64 ((k : Int) + 1)) hk; rw [List.length_append, hkk]; simpa using h9, by simpa [World.setCell] using hsz, (Below.heap_setCell (W.drewN nq) ⟨c + 1 + 1 + 1, 0, none⟩ _ D (by show D ≠ c + 1 + 1 + 1; omega)).trans hdf⟩
    · have h1' : (kk != (n : Int)) = true := by simp; exact h1
      gi_wp2
      rename_i K2 hK2
      have HK2 := Hid.mk' hK2
      clear hK2 ck fk cw cl ca ca2
      obtain ⟨hg, hk, hsz, hdef⟩ := HG.out
      obtain ⟨W2, hW2⟩ : ∃ W2, W.setCell ⟨c + 1 + 1 + 1, 0, none⟩ (.int .i64 0) = W2 := ⟨_, rfl⟩
      have hg2 : Gx s L b c v kk w W2 := by rw [← hW2]; exact hg.setk hk (by omega) hbc
      have hk2 : Boxed W2 (c + 3) 3 (.int .i64 0) := by rw [← hW2]; exact hk.set _
      have hd2 : W2.heap[D]? = some (.deferred (some [])) := by rw [← hW2]; exact (Below.heap_setCell W ⟨c + 1 + 1 + 1, 0, none⟩ _ D (by show D ≠ c + 1 + 1 + 1; omega)).trans hdef
      have hsz2 : W0.heap.size ≤ W2.heap.size := by rw [← hW2]; simpa [World.setCell] using hsz
      rw [hW2]
      clear hg hk hsz hdef hW2 HG HCA
      refine g_with fun a2 hfr2 => ?_
      refine wpIn_rangeB rfl (by omega) (gf := 30) (lb := #[.pointer (some ⟨c + 1, 0, none⟩)]) (by rw [hfr2]; rfl) trivial (enters_of Try.func30 (by kernel_rfl) rfl)
        (HSEQ.out 5 (by omega) (c + 1) W2 hg2.txt.cell) (fun _ h => h.elim) KpC.t (fun W k o o' _ h h1 => KpC.put W k o o' h h1) (Below.refl _ _) (fun _ => rfl)
        (fun pre W => Gx s L b c v kk w W ∧ Boxed W (c + 3) 3 (.int .i64 (pre.length : Int)) ∧ W2.heap.size ≤ W.heap.size ∧ W.heap[D]? = some (.deferred (some [])))
        (fun _ _ _ => False)
        (fun pre X Y row h hg hr => ⟨h.1.ab (B := W2.heap.size) (by omega) (by omega) hg hr, boxG_ab h.2.1 hg hr, Nat.le_trans h.2.2.1 hg.size, (hg.block D (Array.getElem?_eq_some_iff.1 h.2.2.2).1 (fun e => by have h1 := (hr D e.symm).1; have h2 := (Array.getElem?_eq_some_iff.1 hd2).1; omega)).trans h.2.2.2⟩)
        (fun cd pre X Y row h hg hr => h)
        ⟨hg2, hk2, Nat.le_refl _, hd2⟩ (fun pre W h => h.2.2.1) (fun W o => KpC.new W o) (fun x bl => [(13, .int .i64 (x.1 : Int)), (14, .pointer (some ⟨bl, 0, none⟩))]) (fun x => .cells #[.int .i64 x.2.1, .string x.2.2] 35) (fun _ => rfl) (fun _ h => h) ?assign2 ?body2 ?done2 ?stop2
      case assign2 =>
        intro l pre x W K hK
        rw [hfr2] at hK ⊢
        simp only [encLn] at hK ⊢
        gi_wp2
        refine g_to hK ?_
        simp
      case stop2 => exact fun D c pre W hD hpre h => h.elim
      case done2 =>
        rintro E2 xs X hE2 rfl ⟨hg, hk, hsz, hdf⟩ hde
        refine HK2.out _ _ ?_
        rw [hfr2]
        rw [ixK_len] at hk
        have ck := hk.cell
        have cw := hg.want.cell
        rw [← HVV.out] at cw
        have cr := hg.res.cell
        have fr := hg.res.frozen
        have hnn : ((n : Int) == (n : Int)) = true := by simp
        have hDl := (Array.getElem?_eq_some_iff.1 hd2).1
        have HE := Hid.mk' (And.intro (show (X.setCell ⟨b + 1, 0, none⟩ (.bool true)).heap[E2]? = some (.deferred (some [])) from (Below.heap_setCell X ⟨b + 1, 0, none⟩ _ E2 (by show E2 ≠ b + 1; omega)).trans hde) (And.intro (show (X.setCell ⟨b + 1, 0, none⟩ (.bool true)).heap[D]? = some (.deferred (some [])) from (Below.heap_setCell X ⟨b + 1, 0, none⟩ _ D (by show D ≠ b + 1; omega)).trans hdf) (And.intro (hg.res.set (.bool true)) (hg.bel.setCell (p := ⟨b + 1, 0, none⟩) (by show b ≤ b + 1; omega) (.bool true)))))
        clear hg hk hsz hdf hde
        gi_wp2
        obtain ⟨X1, hX1⟩ : ∃ X1, X.setCell ⟨b + 1, 0, none⟩ (.bool true) = X1 := ⟨_, rfl⟩
        have HE1 := HE.out
        rw [hX1] at HE1 ⊢
        obtain ⟨e1, e2, hr1, hbl⟩ := HE1
        have f2 : (X1.putObj E2 (.deferred none)).heap[D]? = some (.deferred (some [])) := (World.putObj_heap_other (by omega)).trans e2
        have hbox : Boxed ((X1.putObj E2 (.deferred none)).putObj D (.deferred none)) (b + 1) 4 (.bool true) := (World.putObj_heap_other (by omega)).trans ((World.putObj_heap_other (by omega)).trans hr1)
        have hcb := hbox.cell
        refine ⟨by simp, .inl ⟨_, _, rfl, run_takeDeferred e1, ?_⟩⟩
        refine ⟨by simp, .inl ⟨_, _, rfl, run_takeDeferred f2, ?_⟩⟩
        refine ⟨.bool true, ?_, rfl, ?_⟩
        · simp [results, Try.f4, go_sem, hcb]
        · rw [hb]
          exact ⟨hbl.os, hbl.tape, hbl.output, by simpa using hbl.size, fun k hk => (World.putObj_heap_other (by omega)).trans ((World.putObj_heap_other (by omega)).trans (hbl.block k hk))⟩
      case body2 =>
        rintro l pre x bl W hl ⟨rl, hrl⟩ ⟨hg, hk, hsz, hdf⟩ hbl hbx hpre
        obtain ⟨hlt, rfl⟩ := ixK_add hpre
        obtain ⟨k, hkk⟩ : ∃ k, pre.length = k := ⟨_, rfl⟩
        rw [hkk] at hk hlt hbx ⊢
        have hrow := hg.row
        rw [← HVV.out, HN.out] at hrow
        obtain ⟨g, rfl, _, _⟩ := row_addr hrow (by omega)
        have e0 := (own_at hrow k hlt).1
        have e1 := (own_at hrow k hlt).2
        obtain ⟨x, t, hxt⟩ : ∃ x t, L.getD k (0, ⟨#[]⟩) = (x, t) := ⟨_, _, rfl⟩
        rw [hxt] at e0 e1 hbx ⊢
        have q0 : W.cell? ⟨bl, 0, none⟩ = some (.int .i64 x) := by simp [World.cell?, hbx]
        have q1 : W.cell? ⟨bl, 1, none⟩ = some (.string t) := by simp [World.cell?, hbx]
        have ck := hk.cell
        have fk := hk.frozen
        have cw := hg.want.cell
        rw [← HVV.out] at cw
        have ca := hg.all.cell
        have hkI : (k : Int) < (n : Int) := by omega
        have hkI2 : ¬ (n : Int) ≤ (k : Int) := by omega
        have hkB : decide ((n : Int) ≤ (k : Int)) = false := by simp; omega
        have hk0' : (0 : Int) ≤ (k : Int) := by omega
        have hkN : decide (n ≤ k) = false := decide_eq_false (by omega)
        have hq : ∀ W, (binOp .neq 35 (.agg #[.int .i64 x, .string t]) (.agg #[.int .i64 x, .string t])).run Try.prog W = .ok (.bool false) W := fun W => by rw [neq_line]; simp
        have HG := Hid.mk' (And.intro hg (And.intro hk (And.intro hsz (And.intro hdf (And.intro hkk (And.intro hlt hrl))))))
        clear hg hk hsz hrow hbx hpre hxt hkk hdf hrl
        rw [hfr2]
        apply g_act
        case e => simp [encLn]; rfl
        by_cases hle : k = 1
        · have hleB : ((k : Int) == 1) = true := by simp; omega
          have hleN : (k == 1) = true := by simp; omega
          have HLE := Hid.mk' hle
          clear hle
          gi_wp2
          refine wpIn_region_quiet_rnd (F := Fence.wide) l rfl (by kernel_rfl) (by kernel_rfl) (by kernel_rfl) ?_
          repeat (gi_big_quiet_step (fail))
          refine wpQuietIn_nil ?_
          intro _ hwq0
          obtain ⟨nq, hwq1⟩ := hwq0
          subst hwq1
          have HGY : Hid (Gx s L b c v kk w (W.drewN nq) ∧ Boxed (W.drewN nq) (c + 3) 3 (.int .i64 (k : Int)) ∧ W2.heap.size ≤ (W.drewN nq).heap.size ∧ (W.drewN nq).heap[D]? = some (.deferred (some [])) ∧ (W.drewN nq).heap[l]? = some (.loop rl) ∧ KeptW W2.heap.size noO W (W.drewN nq) ∧ KpC W2.heap.size W (W.drewN nq)) := ⟨HG.out.1.drew nq, HG.out.2.1, HG.out.2.2.1, HG.out.2.2.2.1, HG.out.2.2.2.2.2.2, ⟨Nat.le_refl _, fun _ _ _ h _ => h⟩, fun _ _ _ h _ => h⟩
          have HKL : Hid (pre.length = k) := HG.out.2.2.2.2.1
          clear ck fk cw ca e0 e1 q0 q1 HG
          generalize hYY : W.drewN nq = Y at HGY ⊢
          clear hYY
          have ck2 := HGY.out.2.1.cell
          have ca2 : ∀ o, (Y.alloc o).cell? ⟨c + 1 + 1, 0, none⟩ = some (fnG c) := fun o => (HGY.out.1.all.alloc o).cell
          gi_wp2
          rename_i K3 hK3
          have HK3 := Hid.mk' hK3
          clear hK3 ck2 ca2
          obtain ⟨W3, hW3⟩ : ∃ W3, Y.alloc (.cells #[.int .i64 0] 3) = W3 := ⟨_, rfl⟩
          obtain ⟨mb, hmb⟩ : ∃ mb, Y.heap.size = mb := ⟨_, rfl⟩
          obtain ⟨yg, yk, ys, yd, yl, ykp, ykc⟩ := HGY.out
          have hg3 : Gx s L b c v kk w W3 := by rw [← hW3]; exact yg.alloc (by omega) _
          have hk3 : Boxed W3 (c + 3) 3 (.int .i64 (k : Int)) := by rw [← hW3]; exact yk.alloc _
          have hm3 : Boxed W3 mb 3 (.int .i64 0) := by rw [← hW3, ← hmb]; exact Boxed.new Y _ _
          have hd3 : W3.heap[D]? = some (.deferred (some [])) := by rw [← hW3]; exact (Below.heap_alloc _ _ _ (Array.getElem?_eq_some_iff.1 yd).1).trans yd
          have hl3 : W3.heap[l]? = some (.loop rl) := by rw [← hW3]; exact (Below.heap_alloc _ _ _ (Array.getElem?_eq_some_iff.1 yl).1).trans yl
          have hkp3 : KeptW W2.heap.size noO W W3 := by
            rw [← hW3]
            exact ykp.trans ⟨by simp, fun i o _ h _ => (Below.heap_alloc _ _ _ (Array.getElem?_eq_some_iff.1 h).1).trans h⟩
          have hkc3 : KpC W2.heap.size W W3 := by rw [← hW3]; exact ykc.t (KpC.new Y _)
          have hmz : mb + 1 = W3.heap.size := by rw [← hW3, World.size_alloc, hmb]
          have hws : W.heap.size ≤ mb := by rw [← hmb]; exact ykp.size
          have hws2 : W2.heap.size ≤ mb := by rw [← hmb]; exact ys
          have hcm : c + 4 ≤ mb := by have := hz; omega
          have hDm : D < mb := by rw [← hmb]; exact (Array.getElem?_eq_some_iff.1 yd).1
          rw [hW3, hmb]
          clear yg yk ys yd yl ykp ykc hW3 HGY hmb
          refine g_with fun a3 hfr3 => ?_
          refine wpIn_rangeB_in (l₀ := l) (r₀ := rl) rfl hl3 (by omega) (gf := 30) (lb := #[.pointer (some ⟨c + 1, 0, none⟩)]) (by rw [hfr3]; rfl) trivial (enters_of Try.func30 (by kernel_rfl) rfl)
            (show SeqN (Fence.wide.inRound l) 3 Try.prog 30 #[.pointer (some ⟨c + 1, 0, none⟩)] encLn noO (KpC W3.heap.size) (fun ys => ys = ixK L n) (fun pre => pre <+: ixK L n) W3 from HSEQ.out 3 (by omega) (c + 1) W3 hg3.txt.cell) (fun _ h => h.elim) KpC.t (fun W k o o' _ h h1 => KpC.put W k o o' h h1) (Below.refl _ _) (fun _ => rfl)
            (fun qre X => Gx s L b c v kk w X ∧ Boxed X (c + 3) 3 (.int .i64 (k : Int)) ∧ Boxed X mb 3 (.int .i64 (qre.length : Int)) ∧ W3.heap.size ≤ X.heap.size ∧ X.heap[D]? = some (.deferred (some [])) ∧ KeptW W2.heap.size noO W X ∧ KpC W2.heap.size W X)
            (fun _ _ _ => False)
            (fun pre X Y row h hg hr => ⟨h.1.ab (B := W3.heap.size) (by omega) (by omega) hg hr, boxG_ab h.2.1 hg hr, boxG_ab h.2.2.1 hg hr, Nat.le_trans h.2.2.2.1 hg.size, (hg.block D (Array.getElem?_eq_some_iff.1 h.2.2.2.2.1).1 (fun e => by have h1 := (hr D e.symm).1; omega)).trans h.2.2.2.2.1, keptG_ab h.2.2.2.2.2.1 hg hr (by omega), h.2.2.2.2.2.2.ab hg hr⟩)
            (fun cd pre X Y row h hg hr => h)
            ⟨hg3, hk3, hm3, Nat.le_refl _, hd3, hkp3, hkc3⟩ (fun pre W h => h.2.2.2.1) (fun W o => KpC.new W o) (fun x bl => [(16, .int .i64 (x.1 : Int)), (17, .pointer (some ⟨bl, 0, none⟩))]) (fun x => .cells #[.int .i64 x.2.1, .string x.2.2] 35) (fun _ => rfl) (fun _ h => h) ?assign3 ?body3 ?done3 ?stop3
          case assign3 =>
            intro l pre x W K hK
            rw [hfr3] at hK ⊢
            simp only [encLn] at hK ⊢
            gi_wp2
            refine g_to hK ?_
            simp
          case stop3 => exact fun c pre W hpre h => h.elim
          case done3 =>
            rintro xs X rfl ⟨hg, hk, hm, hsz, hdf, hkp, hkc⟩
            refine HK3.out _ _ ?_
            rw [hfr3]
            rw [ixK_len] at hm
            have cm := hm.cell
            have cw := hg.want.cell
            rw [← HVV.out] at cw
            have ck := hk.cell
            have fk := hk.frozen
            have hnn : ((n : Int) != (n : Int)) = false := by simp
            have HX := Hid.mk' (And.intro hg (And.intro hk (And.intro hsz (And.intro hdf (And.intro hkp hkc)))))
            clear hg hk hm hsz hdf hkp hkc
            gi_wp2
            obtain ⟨hg, hk, hsz, hdf, hkp, hkc⟩ := HX.out
            exact ⟨hkp.trans (keptG_set _ _ _ _), hkc.t (KpC.set _ _ _ (.inl (by omega))), hg.setk hk (by omega) hbc, by have h9 := hk.set (.int .i64 ((k : Int) + 1)); rw [List.length_append, HKL.out]; simpa using h9, by simpa [World.setCell] using Nat.le_trans (by omega) hsz, (Below.heap_setCell X ⟨c + 1 + 1 + 1, 0, none⟩ _ D (by show D ≠ c + 1 + 1 + 1; omega)).trans hdf⟩
          case body3 =>
            rintro l2 qre y bl2 X hl2 ⟨rl2, hrl2⟩ ⟨hg, hk, hm, hsz, hdf, hkp, hkc⟩ hbl2 hbx hpre2
            obtain ⟨hlt2, rfl⟩ := ixK_add hpre2
            obtain ⟨j, hjj⟩ : ∃ j, qre.length = j := ⟨_, rfl⟩
            rw [hjj] at hm hlt2 hbx ⊢
            have hrow := hg.row
            rw [← HVV.out, HN.out] at hrow
            have e0 := (own_at hrow j hlt2).1
            have e1 := (own_at hrow j hlt2).2
            obtain ⟨x2, t2, hxt⟩ : ∃ x t, L.getD j (0, ⟨#[]⟩) = (x, t) := ⟨_, _, rfl⟩
            rw [hxt] at e0 e1 hbx ⊢
            have q0 : X.cell? ⟨bl2, 0, none⟩ = some (.int .i64 x2) := by simp [World.cell?, hbx]
            have q1 : X.cell? ⟨bl2, 1, none⟩ = some (.string t2) := by simp [World.cell?, hbx]
            have cm := hm.cell
            have fm := hm.frozen
            have cw := hg.want.cell
            rw [← HVV.out] at cw
            have hjI : (j : Int) < (n : Int) := by omega
            have hjI2 : ¬ (n : Int) ≤ (j : Int) := by omega
            have hjB : decide ((n : Int) ≤ (j : Int)) = false := by simp; omega
            have hj0' : (0 : Int) ≤ (j : Int) := by omega
            have hjN : decide (n ≤ j) = false := decide_eq_false (by omega)
            have hq2 : ∀ W, (binOp .neq 35 (.agg #[.int .i64 x2, .string t2]) (.agg #[.int .i64 x2, .string t2])).run Try.prog W = .ok (.bool false) W := fun W => by rw [neq_line]; simp
            have HX := Hid.mk' (And.intro hg (And.intro hk (And.intro hm (And.intro hsz (And.intro hdf (And.intro hkp (And.intro hkc hjj)))))))
            clear hg hk hm hsz hrow hbx hpre2 hxt hjj hdf hrl2 hkp hkc
            rw [hfr3]
            apply g_act
            case e => simp [encLn]; rfl
            gi_wp2
            refine wpIn_region_quiet_rnd (F := Fence.wide) l2 rfl (by kernel_rfl) (by kernel_rfl) (by kernel_rfl) ?_
            repeat (gi_big_quiet_step (fail))
            refine wpQuietIn_nil ?_
            intro _ hwq0
            obtain ⟨nr, hwq1⟩ := hwq0
            subst hwq1
            have cm2 : (X.drewN nr).cell? ⟨mb, 0, none⟩ = some (.int .i64 (j : Int)) := cm
            have fm2 : (X.drewN nr).frozen? ⟨mb, 0, none⟩ = false := fm
            gi_wp2
            obtain ⟨hg, hk, hm, hsz, hdf, hkp, hkc, hjj⟩ := HX.out
            exact ⟨keptG_setd _ _ _ _ _, KpC.setd _ _ _ _ (.inl (by omega)), (hg.drew nr).setk (W := X.drewN nr) hm (by omega) hbc, boxG_other (W := X.drewN nr) hk (by omega) _, by have h9 := Boxed.set (W := X.drewN nr) (.int .i64 ((j : Int) + 1)) hm; rw [List.length_append, hjj]; simpa using h9, by simpa [World.setCell] using hsz, (Below.heap_setCell (X.drewN nr) ⟨mb, 0, none⟩ _ D (by show D ≠ mb; omega)).trans hdf, hkp.trans (keptG_setd _ _ _ _ _), hkc.setw _ _ _ (by omega)⟩
        · have hleB : ((k : Int) == 1) = false := by simp; omega
          have hleN : (k == 1) = false := by simp; omega
          gi_wp2
          refine wpIn_region_quiet_rnd (F := Fence.wide) l rfl (by kernel_rfl) (by kernel_rfl) (by kernel_rfl) ?_
          repeat (gi_big_quiet_step (fail))
          refine wpQuietIn_nil ?_
          intro _ hwq0
          obtain ⟨nq, hwq1⟩ := hwq0
          subst hwq1
          have ck2 : (W.drewN nq).cell? ⟨c + 3, 0, none⟩ = some (.int .i64 (k : Int)) := ck
          have fk2 : (W.drewN nq).frozen? ⟨c + 3, 0, none⟩ = false := fk
          gi_wp2
          obtain ⟨hg, hk, hsz, hdf, hkk, hlt, hrl⟩ := HG.out
          exact ⟨keptG_setd _ _ _ _ _, KpC.setd _ _ _ _ (.inl (by omega)), (hg.drew nq).setk (W := W.drewN nq) hk (by omega) hbc, by have h9 := Boxed.set (W := W.drewN nq) (.int .i64 ((k : Int) + 1)) hk; rw [List.length_append, hkk]; simpa using h9, by simpa [World.setCell] using hsz, (Below.heap_setCell (W.drewN nq) ⟨c + 1 + 1 + 1, 0, none⟩ _ D (by show D ≠ c + 1 + 1 + 1; omega)).trans hdf⟩
  refine wpIn_rangeB rfl (by omega) (gf := 30) (lb := #[.pointer (some ⟨c + 1, 0, none⟩)]) (by rw [hfr]; rfl) trivial (enters_of Try.func30 (by kernel_rfl) rfl)
    (HSEQ.out 5 (by omega) (c + 1) W0 hG0.txt.cell) (fun _ h => h.elim) KpC.t (fun W k o o' _ h h1 => KpC.put W k o o' h h1) (Below.refl _ _) (fun _ => rfl)
    (fun pre W => Gx s L b c v leave w W ∧ Boxed W (c + 3) 3 (.int .i64 (pre.length : Int)) ∧ W0.heap.size ≤ W.heap.size)
    (fun cd pre W => cd = .exit 0 ∧ Gx s L b c v leave w W ∧ Boxed W (c + 3) 3 (.int .i64 (pre.length : Int)) ∧ W0.heap.size ≤ W.heap.size ∧ (pre.length : Int) = leave)
    (fun pre X Y row h hg hr => ⟨h.1.ab (B := W0.heap.size) (by omega) (by omega) hg hr, boxG_ab h.2.1 hg hr, Nat.le_trans h.2.2 hg.size⟩)
    (fun cd pre X Y row h hg hr => ⟨h.1, h.2.1.ab (B := W0.heap.size) (by omega) (by omega) hg hr, boxG_ab h.2.2.1 hg hr, Nat.le_trans h.2.2.2.1 hg.size, h.2.2.2.2⟩)
    ⟨hG0, hk0, Nat.le_refl _⟩ (fun pre W h => h.2.2) (fun W o => KpC.new W o) (fun x bl => [(11, .int .i64 (x.1 : Int)), (12, .pointer (some ⟨bl, 0, none⟩))]) (fun x => .cells #[.int .i64 x.2.1, .string x.2.2] 35) (fun _ => rfl) (fun _ h => h) ?assign1 ?body1 ?done1 ?stop1
  case assign1 =>
    intro l pre x W K hK
    rw [hfr] at hK ⊢
    simp only [encLn] at hK ⊢
    gi_wp2
    refine g_to hK ?_
    simp
  case done1 =>
    rintro D xs W hD rfl ⟨hg, hk, hsz⟩ hdf
    rw [ixK_len] at hk
    exact rest D W _ hD hg hk (.inl rfl) hsz hdf
  case stop1 =>
    rintro D cd pre W hD hpre ⟨rfl, hg, hk, hsz, hle⟩ hdf
    have hor : (pre.length : Int) = (n : Int) ∨ ((pre.length : Int) ≠ (n : Int) ∧ (pre.length : Int) = leave) := by omega
    have HR := Hid.mk' (rest D W _ hD hg hk hor hsz hdf)
    clear hg hk hsz hdf hor hle
    gi_wp2
    exact HR.out
  case body1 =>
    rintro l pre x bl W hl ⟨rl, hrl⟩ ⟨hg, hk, hsz⟩ hbl hbx hpre
    obtain ⟨hlt, rfl⟩ := ixK_add hpre
    obtain ⟨k, hkk⟩ : ∃ k, pre.length = k := ⟨_, rfl⟩
    rw [hkk] at hk hlt hbx ⊢
    have hrow := hg.row
    rw [← HVV.out, HN.out] at hrow
    obtain ⟨g, rfl, _, _⟩ := row_addr hrow (by omega)
    have e0 := (own_at hrow k hlt).1
    have e1 := (own_at hrow k hlt).2
    obtain ⟨x, t, hxt⟩ : ∃ x t, L.getD k (0, ⟨#[]⟩) = (x, t) := ⟨_, _, rfl⟩
    rw [hxt] at e0 e1 hbx ⊢
    have q0 : W.cell? ⟨bl, 0, none⟩ = some (.int .i64 x) := by simp [World.cell?, hbx]
    have q1 : W.cell? ⟨bl, 1, none⟩ = some (.string t) := by simp [World.cell?, hbx]
    have ck := hk.cell
    have fk := hk.frozen
    have cw := hg.want.cell
    rw [← HVV.out] at cw
    have cl := hg.lv.cell
    have hkI : (k : Int) < (n : Int) := by omega
    have hkI2 : ¬ (n : Int) ≤ (k : Int) := by omega
    have hkB : decide ((n : Int) ≤ (k : Int)) = false := by simp; omega
    have hk0' : (0 : Int) ≤ (k : Int) := by omega
    have hkN : decide (n ≤ k) = false := decide_eq_false (by omega)
    have hq : ∀ W, (binOp .neq 35 (.agg #[.int .i64 x, .string t]) (.agg #[.int .i64 x, .string t])).run Try.prog W = .ok (.bool false) W := fun W => by rw [neq_line]; simp
    have HG := Hid.mk' (And.intro hg (And.intro hk (And.intro hsz (And.intro hkk hlt))))
    clear hg hk hsz hrow hbx hpre hxt hkk
    rw [hfr]
    apply g_act
    case e => simp [encLn]; rfl
    by_cases hle : (k : Int) + 1 = leave
    · subst hle
      gi_wp2
      refine wpIn_region_quiet_rnd (F := Fence.wide) l rfl (by kernel_rfl) (by kernel_rfl) (by kernel_rfl) ?_
      repeat (gi_big_quiet_step (fail))
      refine wpQuietIn_nil ?_
      intro _ hwq0
      obtain ⟨nq, hwq1⟩ := hwq0
      subst hwq1
      have ck2 : (W.drewN nq).cell? ⟨c + 3, 0, none⟩ = some (.int .i64 (k : Int)) := ck
      have fk2 : (W.drewN nq).frozen? ⟨c + 3, 0, none⟩ = false := fk
      have cl2 : ((W.drewN nq).setCell ⟨c + 3, 0, none⟩ (.int .i64 ((k : Int) + 1))).cell? ⟨b, 0, none⟩ = some (.int .i64 ((k : Int) + 1)) := (boxG_other (HG.out.1.drew nq).lv (by omega) _).cell
      have ck3 : ((W.drewN nq).setCell ⟨c + 3, 0, none⟩ (.int .i64 ((k : Int) + 1))).cell? ⟨c + 3, 0, none⟩ = some (.int .i64 ((k : Int) + 1)) := (Boxed.set (W := W.drewN nq) (.int .i64 ((k : Int) + 1)) HG.out.2.1).cell
      gi_wp2
      obtain ⟨hg, hk, hsz, hkk, hlt⟩ := HG.out
      exact ⟨keptG_setd _ _ _ _ _, rfl, (hg.drew nq).setk (W := W.drewN nq) hk (by omega) hbc, by have h9 := Boxed.set (W := W.drewN nq) (.int .i64 ((k : Int) + 1)) hk; rw [List.length_append, hkk]; simpa using h9, by simpa [World.setCell] using hsz, by rw [List.length_append, hkk]; simp⟩
    · have hleB : ((k : Int) + 1 == leave) = false := by simp; exact hle
      gi_wp2
      refine wpIn_region_quiet_rnd (F := Fence.wide) l rfl (by kernel_rfl) (by kernel_rfl) (by kernel_rfl) ?_
      repeat (gi_big_quiet_step (fail))
      refine wpQuietIn_nil ?_
      intro _ hwq0
      obtain ⟨nq, hwq1⟩ := hwq0
      subst hwq1
      have ck2 : (W.drewN nq).cell? ⟨c + 3, 0, none⟩ = some (.int .i64 (k : Int)) := ck
      have fk2 : (W.drewN nq).frozen? ⟨c + 3, 0, none⟩ = false := fk
      have cl2 : ((W.drewN nq).setCell ⟨c + 3, 0, none⟩ (.int .i64 ((k : Int) + 1))).cell? ⟨b, 0, none⟩ = some (.int .i64 leave) := (boxG_other (HG.out.1.drew nq).lv (by omega) _).cell
      have ck3 : ((W.drewN nq).setCell ⟨c + 3, 0, none⟩ (.int .i64 ((k : Int) + 1))).cell? ⟨c + 3, 0, none⟩ = some (.int .i64 ((k : Int) + 1)) := (Boxed.set (W := W.drewN nq) (.int .i64 ((k : Int) + 1)) HG.out.2.1).cell
      gi_wp2
      obtain ⟨hg, hk, hsz, hkk, hlt⟩ := HG.out
      exact ⟨keptG_setd _ _ _ _ _, KpC.setd _ _ _ _ (.inl (by omega)), (hg.drew nq).setk (W := W.drewN nq) hk (by omega) hbc, by have h9 := Boxed.set (W := W.drewN nq) (.int .i64 ((k : Int) + 1)) hk; rw [List.length_append, hkk]; simpa using h9, by simpa [World.setCell] using hsz⟩
end Go.Proofs.Ytchhdkmflppjhaa
