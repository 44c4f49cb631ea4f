/-
  (*many.Set).First, (*many.Set).Any. Conditions: as each says.
-/
import Derived.Test.YtlbfnchjbpioeaaMnJ
import Derived.Test.YtlbfnchjbpioeaaMnK
import Derived.Lib.MinMax
namespace Go.Proofs.Ytlbfnchjbpioeaa
open Go.RowKit
set_option linter.unusedVariables false
def fstV (R : Nat × Int) : Value := if R.2 = -1 then .tuple #[.int .i64 0, .int .i64 0, .bool false] else .tuple #[.int .i64 (R.1 : Int), .int .i64 R.2, .bool true]
/-- what is known of words that are right -/
structure Wok (W : List (List Nat)) : Prop where
  nod : W.Nodup
  len : ∀ x ∈ W, 1 ≤ x.length ∧ x.length ≤ 256
  few : W.length ≤ 64
  pos : 0 < W.length
theorem Wok.ns {W : List (List Nat)} (h : Wok W) : (Mn.nsOf W).length ≤ 32000 := by
  have := Mn.nsOf_len 256 W (fun x hx => (h.len x hx).2)
  have h2 := h.few
  have : W.length * 256 ≤ 64 * 256 := Nat.mul_le_mul_right _ h2
  omega
theorem Wok.of {fold : Bool} {L : List ByteArray} (h : Mn.Good fold L) : Wok (Mn.wds fold L) :=
  ⟨h.nodup, fun x hx => ⟨(h.len x hx).1, (h.len x hx).2.1⟩, by rw [Mn.wds_len]; exact h.few, by rw [Mn.wds_len]; exact h.some_⟩
def tx (fold : Bool) (s : ByteArray) : List Nat := (Sums.bl s).map (Mn.lf fold)
theorem tx_len (fold : Bool) (s : ByteArray) : (tx fold s).length = s.size := by rw [tx, List.length_map, Sums.bl_length]
theorem tx_get (fold : Bool) (s : ByteArray) (k c : Nat) (hk : k < s.size) (hc : c = (Sums.bl s).getD k 0) : (tx fold s).drop k = Mn.lf fold c :: (tx fold s).drop (k + 1) := by
  rw [List.drop_eq_getElem_cons (by rw [tx_len]; exact hk)]
  congr 1
  unfold tx
  rw [List.getElem_map, hc, List.getD_eq_getElem?_getD, List.getElem?_eq_getElem (by rw [Sums.bl_length]; exact hk)]
  rfl
theorem byte_lt (s : ByteArray) (k c : Nat) (hk : k < s.size) (hc : c = (Sums.bl s).getD k 0) : c < 256 := by
  rw [hc, List.getD_eq_getElem?_getD, List.getElem?_eq_getElem (by rw [Sums.bl_length]; exact hk)]
  exact Sums.bl_byt s _ (List.getElem_mem _)
theorem fstF_take (ns W : List (List Nat)) (b : Nat) (r st : List Nat) (k p : Nat) (f : Int) (st2 : List Nat) (h : Mn.suf ns (st ++ [b]) = st2) : Mn.fstF ns W (b :: r) st k p f = if f ≠ -1 ∧ p < k + 1 - st2.length then (p, f) else if Mn.lw W st2 = -1 then Mn.fstF ns W r st2 (k + 1) p f else if f = -1 ∨ k + 1 - (W.getD (Mn.lw W st2).toNat []).length ≤ p then Mn.fstF ns W r st2 (k + 1) (k + 1 - (W.getD (Mn.lw W st2).toNat []).length) (Mn.lw W st2) else Mn.fstF ns W r st2 (k + 1) p f := by
  subst h
  rw [Mn.fstF]
set_option maxRecDepth 100000 in
set_option maxHeartbeats 4000000 in
theorem firstM_any (B sb : Nat) (W : List (List Nat)) (fold : Bool) (s : ByteArray) (frm : Int) (w : World) (h : ManyM B sb W fold w) (hw : Wok W) (hs : s.size ≤ 1125899906842624) (h1 : -9223372036854775808 ≤ frm) (h2 : frm ≤ 9223372036854775807) :
    Calls Try.prog 18 #[.pointer (some ⟨sb, 0, none⟩), .string s, .int .i64 frm] w fun e w' => e = .returned (fstV (Mn.fstF (Mn.nsOf W) W ((tx fold s).drop frm.toNat) [] frm.toNat 0 (-1))) ∧ ∃ n, w' = w.drewN n := by
  obtain ⟨g, cn, g2, cw, h⟩ := h
  obtain ⟨ns, hns⟩ : ∃ ns, Mn.nsOf W = ns := ⟨_, rfl⟩
  have htr : Mn.Tr ns := by rw [← hns]; exact Mn.nsOf_tr W
  have hWn : ∀ x ∈ W, x ∈ ns := by rw [← hns]; exact Mn.nsOf_word
  have hnl := hw.ns
  have hwf := hw.few
  have hwl := hw.len
  rw [hns] at h hnl ⊢
  obtain ⟨n, hn⟩ : ∃ n, ns.length = n := ⟨_, rfl⟩
  obtain ⟨m, hm⟩ : ∃ m, W.length = m := ⟨_, rfl⟩
  rw [hn, hm] at h
  rw [hn] at hnl
  rw [hm] at hwf
  obtain ⟨k0, hk0⟩ : ∃ k0, frm.toNat = k0 := ⟨_, rfl⟩
  obtain ⟨R, hR⟩ : ∃ R, Mn.fstF ns W ((tx fold s).drop k0) [] k0 0 (-1) = R := ⟨_, rfl⟩
  rw [hk0, hR]
  have hmx : max frm 0 = (k0 : Int) := by omega
  have hmx2 : max 0 frm = (k0 : Int) := by omega
  have hk0b : (k0 : Int) ≤ 9223372036854775807 := by omega
  have HX := Hid.mk' (And.intro htr (And.intro hWn (And.intro hwl (And.intro hn hm))))
  have HH := Hid.mk' h
  have HR := Hid.mk' hR
  clear h htr hWn hwl hns hR hw hk0
  go_enter Try.func18, Try.ntmps18
  go_wp2
  go_loopw [9, 10, 11, 12] (fun av pv fv kv wr => ∃ (st : List Nat) (a p k : Nat) (f : Int), av = .int .i16 (a : Int) ∧ pv = .int .i64 (p : Int) ∧ fv = .int .i16 f ∧ kv = .int .i64 (k : Int) ∧ k0 ≤ k ∧ (k ≤ s.size ∨ k = k0) ∧ a < n ∧ p ≤ k ∧ -1 ≤ f ∧ f < (m : Int) ∧ Hid (Mn.fstF ns W ((tx fold s).drop k) st k p f = R ∧ st ∈ ns ∧ a = Mn.ix ns st ∧ st.length ≤ k) ∧ Hid (∃ j, wr = w.drewN j)) (fun _ _ _ kv _ => s.size - (intOf kv).toNat)
  case atStart => exact ⟨[], 0, 0, k0, -1, rfl, rfl, rfl, rfl, Nat.le_refl _, .inr rfl, by have h3 := HX.out.1.zero; have := List.length_pos_of_mem h3; have := HX.out.2.2.2.1; omega, Nat.zero_le _, by omega, by omega, ⟨HR.out, HX.out.1.zero, HX.out.1.ix0.symm, Nat.zero_le _⟩, ⟨0, rfl⟩⟩
  case round =>
    obtain ⟨st, a, p, k, f, rfl, rfl, rfl, rfl, hk0k, hks, han, hpk, hf1, hf2, hrun, hwr⟩ := hrel
    have hrel2 : SetM B sb g (.slice (some ⟨g2, 0, none⟩) m cw) n cn m (fun i c => (Mn.fin ns i (if fold then Mn.low c else c) : Int)) (fun i => ((ns.getD i []).length : Int)) (fun i => Mn.lw W (ns.getD i [])) (fun j => ((W.getD j []).length : Int)) (fun j => Mn.lw W (W.getD j []).tail) wr := by
      obtain ⟨j, rfl⟩ := hwr.out
      exact HH.out.drew j
    by_cases hkn : k < s.size
    · have hkI : (k : Int) < (s.size : Int) := by omega
      obtain ⟨c, hc⟩ : ∃ c, c = (Sums.bl s).getD k 0 := ⟨_, rfl⟩
      have hc256 := byte_lt s k c hkn hc
      have hidx := idx_m s k c hkn hc
      have htx := tx_get fold s k c hkn hc
      obtain ⟨st2, hst2⟩ : ∃ st2, Mn.suf ns (st ++ [Mn.lf fold c]) = st2 := ⟨_, rfl⟩
      have hst2m : st2 ∈ ns := by rw [← hst2]; exact Mn.suf_mem HX.out.1.zero _
      have hst2l : st2.length ≤ k + 1 := by
        rw [← hst2]
        have := Mn.suf_len ns (st ++ [Mn.lf fold c])
        have := hrun.out.2.2.2
        simp at *
        omega
      obtain ⟨x, hx⟩ : ∃ x, Mn.ix ns st2 = x := ⟨_, rfl⟩
      have hxn : x < n := by rw [← hx, ← HX.out.2.2.2.1]; exact Mn.ix_lt hst2m
      have hfin : Mn.fin ns a (if fold then Mn.low c else c) = x := by
        rw [← hx, ← hst2]
        unfold Mn.fin
        rw [hrun.out.2.2.1, Mn.ix_getD hrun.out.2.1]
        rfl
      have t1 := (hrel2.c_nx a c han hc256).1
      rw [hfin] at t1
      have t2 := hrel2.c_ln x hxn
      have t3 := (hrel2.c_wd x hxn).1
      have hgx : ns.getD x [] = st2 := by rw [← hx]; exact Mn.ix_getD hst2m
      rw [hgx] at t2 t3
      obtain ⟨l2, hl2⟩ : ∃ l2, st2.length = l2 := ⟨_, rfl⟩
      obtain ⟨u, hu⟩ : ∃ u, Mn.lw W st2 = u := ⟨_, rfl⟩
      rw [hl2] at t2 hst2l
      rw [hu] at t3
      obtain ⟨s0, s1, _, _⟩ := hrel2.st0
      have hult := @Mn.lw_lt W st2
      rw [hu, HX.out.2.2.2.2] at hult
      have hsx : Mn.fstF ns W ((tx fold s).drop k) st k p f = if f ≠ -1 ∧ p < k + 1 - l2 then (p, f) else if u = -1 then Mn.fstF ns W ((tx fold s).drop (k + 1)) st2 (k + 1) p f else if f = -1 ∨ k + 1 - (W.getD u.toNat []).length ≤ p then Mn.fstF ns W ((tx fold s).drop (k + 1)) st2 (k + 1) (k + 1 - (W.getD u.toNat []).length) u else Mn.fstF ns W ((tx fold s).drop (k + 1)) st2 (k + 1) p f := by
        rw [htx, fstF_take ns W _ _ st k p f st2 hst2, hl2, hu]
      rw [hrun.out.1] at hsx
      have hxst : Hid (st2 ∈ ns ∧ x = Mn.ix ns st2 ∧ st2.length ≤ k + 1) := ⟨hst2m, hx.symm, by rw [hl2]; exact hst2l⟩
      have hanI : (a : Int) < (n : Int) := by omega
      have hxnI : (x : Int) < (n : Int) := by omega
      have HSX := Hid.mk' hsx
      have hcase : u = -1 ∨ ∃ q l : Nat, u = (q : Int) ∧ q < m ∧ (W.getD q []).length = l ∧ l ≤ l2 ∧ 1 ≤ l := by
        rcases Mn.lw_cases W st2 with ⟨e, _⟩ | ⟨q, y, e, hy, _, hsf, _⟩
        · exact .inl (by rw [← hu]; exact e)
        · have hg : W.getD q [] = y := by rw [List.getD_eq_getElem?_getD, hy]; rfl
          refine .inr ⟨q, y.length, by rw [← hu]; exact e, by rw [← HX.out.2.2.2.2]; exact (List.getElem?_eq_some_iff.1 hy).1, by rw [hg], by rw [← hl2]; exact hsf.length_le, (HX.out.2.2.1 y (List.mem_of_getElem? hy)).1⟩
      have HRUN := hrun
      have HREL := Hid.mk' hrel2
      clear hc htx hst2 hst2m hx hfin hgx hl2 hu hsx hrun hrel2
      go_upto_region 5 with fail
      go_cut [9] (fun av wc => av = .int .i16 (x : Int) ∧ Hid (∃ j, wc = wr.drewN j))
      case first =>
        go_quiet (fail)
        go_wp2
        go_meet
        exact ⟨rfl, ⟨nq, rfl⟩⟩
      case rest =>
        obtain ⟨rfl, hwc⟩ := hcut
        rename World => w2
        have HW2 : Hid (∃ j, w2 = w.drewN j) := by
          obtain ⟨j, rfl⟩ := hwc.out
          obtain ⟨i, rfl⟩ := hwr.out
          exact ⟨i + j, World.drewN_drewN _ _ _⟩
        have HR2 : Hid (SetM B sb g (.slice (some ⟨g2, 0, none⟩) m cw) n cn m (fun i c => (Mn.fin ns i (if fold then Mn.low c else c) : Int)) (fun i => ((ns.getD i []).length : Int)) (fun i => Mn.lw W (ns.getD i [])) (fun j => ((W.getD j []).length : Int)) (fun j => Mn.lw W (W.getD j []).tail) w2) := by
          obtain ⟨j, rfl⟩ := hwc.out
          exact HREL.out.drew j
        have t2' : w2.cell? ⟨g, x * 258 + 256, none⟩ = some (.int .i64 (l2 : Int)) := by
          obtain ⟨j, rfl⟩ := hwc.out
          exact t2
        have t3' : w2.cell? ⟨g, x * 258 + 257, none⟩ = some (.int .i16 u) := by
          obtain ⟨j, rfl⟩ := hwc.out
          exact t3
        obtain ⟨s0', s1', _, _⟩ := HR2.out.st0
        clear hwc t1 t2 t3 s0 s1 hidx hwr HREL
        by_cases hf0 : f = -1
        · subst hf0
          rcases hcase with rfl | ⟨q, l, rfl, hq, hql, hll, hl1⟩
          · have e9 : R = Mn.fstF ns W ((tx fold s).drop (k + 1)) st2 (k + 1) p (-1) := by
              have := HSX.out
              simpa using this
            have HE := Hid.mk' e9
            clear e9
            go_wp2
            go_roundw
            case rel => exact ⟨st2, x, p, k + 1, -1, rfl, rfl, rfl, by simp, by omega, by omega, hxn, by omega, by omega, by omega, ⟨HE.out.symm, hxst.out⟩, HW2⟩
            case measure =>
              simp [intOf]
              omega
          · have hqI : (q : Int) < (m : Int) := by omega
            have hq0 : ((q : Int) == -1) = false := by simp
            obtain ⟨d, hd⟩ : ∃ d, k + 1 - l = d := ⟨_, rfl⟩
            have hdI : (k : Int) + 1 - (l : Int) = (d : Int) := by omega
            have e9 : R = Mn.fstF ns W ((tx fold s).drop (k + 1)) st2 (k + 1) d (q : Int) := by
              have := HSX.out
              rw [Int.toNat_natCast, hql, hd, if_neg (fun h => h.1 rfl), if_neg (by omega), if_pos (.inl rfl)] at this
              exact this
            have HE := Hid.mk' e9
            have t4 := HR2.out.c_wl q hq
            rw [hql] at t4
            clear hd hql e9
            go_wp2
            go_quiet (fail)
            go_upto_region 11 with fail
            have t3'' : (w2.drewN nq).cell? ⟨g, x * 258 + 257, none⟩ = some (.int .i16 (q : Int)) := t3'
            have HW3 : Hid (∃ j, w2.drewN nq = w.drewN j) := by
              obtain ⟨j, rfl⟩ := HW2.out
              exact ⟨j + nq, World.drewN_drewN _ _ _⟩
            generalize w2.drewN nq = w3 at *
            go_quiet (fail)
            go_wp2
            go_roundw
            case rel =>
              refine ⟨st2, x, d, k + 1, (q : Int), rfl, rfl, rfl, by simp, by omega, by omega, hxn, by omega, by omega, by omega, ⟨HE.out.symm, hxst.out⟩, ?_⟩
              obtain ⟨j, rfl⟩ := HW3.out
              exact ⟨j + nq, World.drewN_drewN _ _ _⟩
            case measure =>
              simp [intOf]
              omega
        · have hfb : (f == -1) = false := by simp; exact hf0
          obtain ⟨e2, he2⟩ : ∃ e2, k + 1 - l2 = e2 := ⟨_, rfl⟩
          have he2I : (k : Int) + 1 - (l2 : Int) = (e2 : Int) := by omega
          rw [he2] at HSX
          by_cases hA : p < e2
          · have hAI : (p : Int) < (e2 : Int) := by omega
            have hAB : decide ((p : Int) < (e2 : Int)) = true := by simp; omega
            have hAN : decide (p < e2) = true := by simp; omega
            have HE : Hid (R = (p, f)) := by
              rw [HSX.out, if_pos ⟨hf0, hA⟩]
              exact rfl
            have HF := Hid.mk' hf0
            have hfw : IntKind.i64.wrap f = f := by
              simp only [IntKind.wrap_i64]
              omega
            clear he2 hf0
            go_wp2
            go_ret3
            rw [HE.out]
            refine ⟨?_, HW2.out⟩
            unfold fstV
            rw [if_neg HF.out]
            rfl
          · have hAI : ¬ (p : Int) < (e2 : Int) := by omega
            have hAB : decide ((p : Int) < (e2 : Int)) = false := by simp; omega
            have hAN : decide (p < e2) = false := by simp; omega
            rcases hcase with rfl | ⟨q, l, rfl, hq, hql, hll, hl1⟩
            · have HE : Hid (R = Mn.fstF ns W ((tx fold s).drop (k + 1)) st2 (k + 1) p f) := by
                have := HSX.out
                rw [if_neg (fun h => hA h.2), if_pos rfl] at this
                exact this
              have HF := Hid.mk' hf0
              clear he2 hf0
              go_wp2
              go_roundw
              case rel => exact ⟨st2, x, p, k + 1, f, rfl, rfl, rfl, by simp, by omega, by omega, hxn, by omega, hf1, hf2, ⟨HE.out.symm, hxst.out⟩, HW2⟩
              case measure =>
                simp [intOf]
                omega
            · have hqI : (q : Int) < (m : Int) := by omega
              have hq0 : ((q : Int) == -1) = false := by simp
              obtain ⟨d, hd⟩ : ∃ d, k + 1 - l = d := ⟨_, rfl⟩
              have hdI : (k : Int) + 1 - (l : Int) = (d : Int) := by omega
              have t4 := HR2.out.c_wl q hq
              rw [hql] at t4
              rw [Int.toNat_natCast, hql, hd, if_neg (fun h => hA h.2), if_neg (by omega)] at HSX
              have HF := Hid.mk' hf0
              by_cases hdp : d ≤ p
              · have hdpI : (d : Int) ≤ (p : Int) := by omega
                have hdpB : decide ((d : Int) ≤ (p : Int)) = true := by simp; omega
                have hdpN : decide (d ≤ p) = true := by simp; omega
                have HE : Hid (R = Mn.fstF ns W ((tx fold s).drop (k + 1)) st2 (k + 1) d (q : Int)) := by
                  have := HSX.out
                  rw [if_pos (.inr hdp)] at this
                  exact this
                clear hd hql he2 hf0
                go_wp2
                go_quiet (fail)
                go_upto_region 11 with fail
                have t3'' : (w2.drewN nq).cell? ⟨g, x * 258 + 257, none⟩ = some (.int .i16 (q : Int)) := t3'
                have HW3 : Hid (∃ j, w2.drewN nq = w.drewN j) := by
                  obtain ⟨j, rfl⟩ := HW2.out
                  exact ⟨j + nq, World.drewN_drewN _ _ _⟩
                generalize w2.drewN nq = w3 at *
                go_quiet (fail)
                go_wp2
                go_roundw
                case rel =>
                  refine ⟨st2, x, d, k + 1, (q : Int), rfl, rfl, rfl, by simp, by omega, by omega, hxn, by omega, by omega, by omega, ⟨HE.out.symm, hxst.out⟩, ?_⟩
                  obtain ⟨j, rfl⟩ := HW3.out
                  exact ⟨j + nq, World.drewN_drewN _ _ _⟩
                case measure =>
                  simp [intOf]
                  omega
              · have hdpI : ¬ (d : Int) ≤ (p : Int) := by omega
                have hdpB : decide ((d : Int) ≤ (p : Int)) = false := by simp; omega
                have hdpN : decide (d ≤ p) = false := by simp; omega
                have HE : Hid (R = Mn.fstF ns W ((tx fold s).drop (k + 1)) st2 (k + 1) p f) := by
                  have := HSX.out
                  rw [if_neg (fun h => by rcases h with h | h; exact hf0 h; exact hdp h)] at this
                  exact this
                clear hd hql he2 hf0
                go_wp2
                go_quiet (fail)
                go_wp2
                go_roundw
                case rel =>
                  refine ⟨st2, x, p, k + 1, f, rfl, rfl, rfl, by simp, by omega, by omega, hxn, by omega, hf1, hf2, ⟨HE.out.symm, hxst.out⟩, ?_⟩
                  obtain ⟨j, rfl⟩ := HW2.out
                  exact ⟨j + nq, World.drewN_drewN _ _ _⟩
                case measure =>
                  simp [intOf]
                  omega
    · have hkI : ¬ (k : Int) < (s.size : Int) := by omega
      have HE : Hid (R = (p, f)) := by
        have := hrun.out.1
        rw [List.drop_eq_nil_of_le (by rw [tx_len]; omega)] at this
        exact this.symm
      clear hrel2
      by_cases hf0 : f = -1
      · subst hf0
        go_wp2
        go_ret3
        rw [HE.out]
        exact ⟨rfl, hwr.out⟩
      · have hfb : (f == -1) = false := by simp; exact hf0
        have HF := Hid.mk' hf0
        have hfw : IntKind.i64.wrap f = f := by
          simp only [IntKind.wrap_i64]
          omega
        clear hf0
        go_wp2
        go_ret3
        rw [HE.out]
        refine ⟨?_, hwr.out⟩
        unfold fstV
        rw [if_neg HF.out]
        rfl
set_option maxRecDepth 100000 in
theorem anyOf_any (B sb : Nat) (W : List (List Nat)) (fold : Bool) (s : ByteArray) (w : World) (h : ManyM B sb W fold w) (hw : Wok W) (hs : s.size ≤ 1125899906842624) :
    Calls Try.prog 24 #[.pointer (some ⟨sb, 0, none⟩), .string s] w fun e w' => e = .returned (.bool (decide ((Mn.fstF (Mn.nsOf W) W (tx fold s) [] 0 0 (-1)).2 ≠ -1))) ∧ ∃ n, w' = w.drewN n := by
  have HF := Hid.mk' (firstM_any B sb W fold s 0 w h hw hs (by omega) (by omega))
  have e0 : (tx fold s).drop (0 : Int).toNat = tx fold s := rfl
  rw [e0] at HF
  have e1 : (0 : Int).toNat = 0 := rfl
  rw [e1] at HF
  obtain ⟨R, hR⟩ : ∃ R, Mn.fstF (Mn.nsOf W) W (tx fold s) [] 0 0 (-1) = R := ⟨_, rfl⟩
  rw [hR] at HF ⊢
  clear hR e0 e1 h hw
  obtain ⟨p, f⟩ := R
  unfold fstV at HF
  by_cases hf : f = -1
  · rw [if_pos hf] at HF
    have HFF := Hid.mk' hf
    clear hf
    go_enter Try.func24, Try.ntmps24
    go_wp2_with (first | (go_at_call 18; refine HF.out.mono ?_; rintro e w1 ⟨rfl, nd, rfl⟩) | fail)
    go_ret
    refine ⟨?_, nd, rfl⟩
    rw [decide_eq_false (fun h => h HFF.out)]
    rfl
  · rw [if_neg hf] at HF
    have HFF := Hid.mk' hf
    clear hf
    go_enter Try.func24, Try.ntmps24
    go_wp2_with (first | (go_at_call 18; refine HF.out.mono ?_; rintro e w1 ⟨rfl, nd, rfl⟩) | fail)
    go_ret
    refine ⟨?_, nd, rfl⟩
    rw [decide_eq_true HFF.out]
    rfl
end Go.Proofs.Ytlbfnchjbpioeaa
