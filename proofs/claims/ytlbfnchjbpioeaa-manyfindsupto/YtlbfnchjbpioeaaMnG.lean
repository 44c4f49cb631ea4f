/-
  (*many.Set).join: the beginnings are gone over in width. Conditions: as it says.
-/
import Derived.Test.YtlbfnchjbpioeaaMnF
namespace Go.Proofs.Ytlbfnchjbpioeaa
open Go.RowKit
set_option linter.unusedVariables false
def Jn (B sb g : Nat) (wv : Value) (n cn m : Nat) (ns W : List (List Nat)) (gt : Nat) (w0 : World) (Q : List (List Nat)) (gu cu q k b : Nat) (w : World) : Prop :=
  Jm B sb g wv n cn m (fun i c => (Mn.nxQ ns Q k b i c : Int)) (fun i => ((ns.getD i []).length : Int)) (Mn.wdQ ns W Q) (fun j => ((W.getD j []).length : Int)) (Mn.shQ W Q) gt (fun i => (Mn.tlQ ns Q i : Int)) gu cu q (fun i => (Mn.ix ns (Q.getD i []) : Int)) w0 w ∧ Mn.Bf ns Q k b ∧ q = Q.length
def EndM (B sb g : Nat) (wv : Value) (cn : Nat) (ns W : List (List Nat)) (w : World) : Prop :=
  SetM B sb g wv ns.length cn W.length (fun i c => (Mn.fin ns i c : Int)) (fun i => ((ns.getD i []).length : Int)) (fun i => Mn.lw W (ns.getD i [])) (fun j => ((W.getD j []).length : Int)) (fun j => Mn.lw W (W.getD j []).tail) w
set_option maxRecDepth 100000 in
set_option maxHeartbeats 4000000 in
theorem join_any (B sb g cn : Nat) (wv : Value) (ns W : List (List Nat)) (w0 : World) (h : TrieM B sb g wv cn ns W w0) (htr : Mn.Tr ns) (hWn : ∀ x ∈ W, x ∈ ns) (hnd : W.Nodup) (h0 : [] ∉ W) (hbt : ∀ s c, s ++ [c] ∈ ns → c < 256) (hn : ns.length ≤ 32000) (hm : W.length ≤ 64) (hm0 : 0 < W.length) (hB : B ≤ w0.heap.size) :
    Calls Try.prog 39 #[.pointer (some ⟨sb, 0, none⟩)] w0 fun e w' => e = .returned (.tuple #[]) ∧ EndM B sb g wv cn ns W w' ∧ Below B w0 w' := by
  obtain ⟨n, hnn⟩ : ∃ n, ns.length = n := ⟨_, rfl⟩
  obtain ⟨m, hmm⟩ : ∃ m, W.length = m := ⟨_, rfl⟩
  unfold TrieM at h
  obtain ⟨g2, cw, rfl⟩ := h.wform hm0
  rw [hnn, hmm] at h
  rw [hnn] at hn
  rw [hmm] at hm hm0 ⊢
  obtain ⟨gt, hgt⟩ : ∃ gt, w0.heap.size = gt := ⟨_, rfl⟩
  obtain ⟨s0, s1, s2, s3⟩ := h.st0
  have hmk := make_tls n (by omega)
  obtain ⟨w2, hw2⟩ : ∃ w2, (w0.alloc (.cells (rowV (fun _ => .int .i16 0) (n * 1)).toArray 76)).alloc (.cells #[.int .i16 0] 76) = w2 := ⟨_, rfl⟩
  have hst : Jn B sb g (.slice (some ⟨g2, 0, none⟩) m cw) n cn m ns W gt w0 [[]] (gt + 1) 1 1 0 0 w2 := by
    have hb2 : Below w0.heap.size w0 w2 := by rw [← hw2]; exact ((Below.refl _ _).alloc (Nat.le_refl _) _).alloc (by simp) _
    refine ⟨⟨(h.keep hb2).congr (fun i c _ _ => by rw [Mn.nxQ_start]) (fun _ _ => rfl) (fun i _ => by rw [Mn.wdQ_start h0]) (fun _ _ => rfl) (fun j hj => by rw [Mn.shQ_start h0 j (by omega)]), ?_, ?_, ?_, by omega⟩, Mn.Bf.start htr, rfl⟩
    · refine ⟨by rw [rowV_len], .inr ⟨gt, n, (rowV (fun _ => .int .i16 0) (n * 1)).toArray, rfl, by omega, ?_, Nat.le_refl _, by unfold maxLen; omega, by simp [rowV_len], ?_⟩⟩
      · rw [← hw2, ← hgt, Below.heap_alloc _ _ _ (by simp)]
        exact heap_alloc_new w0 _
      · rw [List.toList_toArray, List.take_of_length_le (by rw [rowV_len]; exact Nat.le_refl _)]
        exact rowV_congr fun j _ => by rw [Mn.tlQ_start htr]; rfl
    · refine ⟨by rw [rowV_len], .inr ⟨gt + 1, 1, #[.int .i16 0], rfl, Nat.le_refl _, ?_, Nat.le_refl _, by unfold maxLen; omega, rfl, ?_⟩⟩
      · rw [← hw2, ← hgt]
        have := heap_alloc_new (w0.alloc (.cells (rowV (fun _ => .int .i16 0) (n * 1)).toArray 76)) (.cells #[.int .i16 0] 76)
        simpa using this
      · simp only [rowV, List.range, List.range.loop, List.map_cons, List.map_nil]
        show [Value.int .i16 0] = [Value.int .i16 (Mn.ix ns [] : Nat)]
        rw [htr.ix0]
        rfl
    · exact ⟨hb2.os, hb2.tape, hb2.output, hb2.size, fun k hk => hb2.block k (by omega)⟩
  have HST := Hid.mk' hst
  have HX := Hid.mk' (And.intro htr (And.intro hWn (And.intro hnd (And.intro h0 (And.intro hbt (And.intro hnn hmm))))))
  rw [hgt] at hB
  rw [Nat.mul_one] at hw2
  simp only [Nat.mul_one] at hmk
  clear hst h htr hWn hnd h0 hbt
  go_enter Try.func39, Try.ntmps39
  go_wp2
  clear hw2 s0 s1 s2 s3 hmk
  go_loopw [3, 4] (fun qv kv wr => ∃ (Q : List (List Nat)) (k gu cu q : Nat), qv = .slice (some ⟨gu, 0, none⟩) q cu ∧ kv = .int .i64 (k : Int) ∧ k ≤ q ∧ q ≤ n ∧ Hid (Jn B sb g (.slice (some ⟨g2, 0, none⟩) m cw) n cn m ns W gt w0 Q gu cu q k 0 wr)) (fun _ kv _ => n + 1 - (intOf kv).toNat)
  case atStart => exact ⟨[[]], 0, gt + 1, 1, 1, rfl, rfl, by omega, by have := HX.out.1.zero; have := List.length_pos_of_mem this; have := HX.out.2.2.2.2.2.1; omega, HST⟩
  case round =>
    obtain ⟨Q, k, gu, cu, q, rfl, rfl, hkq, hqn, hjn⟩ := hrel
    rename World => wo
    clear HST
    by_cases hkl : k < q
    · have hklI : (k : Int) < (q : Int) := by omega
      have hkb : k < 32000 := by omega
      obtain ⟨a, ha⟩ : ∃ a, Q[k]? = some a := ⟨_, List.getElem?_eq_getElem (by have := hjn.out.2.2; omega)⟩
      have hain : a ∈ ns := hjn.out.2.1.sub a (List.mem_of_getElem? ha)
      have hqk := hjn.out.1.c_qu k hkl
      have hgd : Q.getD k [] = a := by rw [List.getD_eq_getElem?_getD, ha]; rfl
      rw [hgd] at hqk
      obtain ⟨ia, hia⟩ : ∃ ia, Mn.ix ns a = ia := ⟨_, rfl⟩
      rw [hia] at hqk
      have hian : ia < n := by rw [← hia, ← HX.out.2.2.2.2.2.1]; exact Mn.ix_lt hain
      have HA := Hid.mk' (And.intro hia (And.intro hain ha))
      clear hgd ha hain hia
      go_wp2
      go_loopw [3, 26] (fun qv bv wr => ∃ (Q : List (List Nat)) (b gu cu q : Nat), qv = .slice (some ⟨gu, 0, none⟩) q cu ∧ bv = .int .i64 (b : Int) ∧ b ≤ 256 ∧ q ≤ n ∧ Hid (Jn B sb g (.slice (some ⟨g2, 0, none⟩) m cw) n cn m ns W gt w0 Q gu cu q k b wr ∧ Q[k]? = some a)) (fun _ bv _ => 256 - (intOf bv).toNat)
      case atStart => exact ⟨Q, 0, gu, cu, q, rfl, rfl, by omega, hqn, ⟨hjn.out, HA.out.2.2⟩⟩
      case round =>
        clear hjn hqk hkl hklI hkq hqn
        obtain ⟨Q, b, gu, cu, q, rfl, rfl, hb, hqn, hjn⟩ := hrel
        by_cases hb2 : b < 256
        · have hbI : (b : Int) < 256 := by omega
          obtain ⟨x, hx⟩ : ∃ x, Mn.ix ns (a ++ [b]) = x := ⟨_, rfl⟩
          obtain ⟨T, hT⟩ : ∃ T, Mn.ix ns (Mn.gq ns a b) = T := ⟨_, rfl⟩
          have hTn : T < n := by rw [← hT, ← HX.out.2.2.2.2.2.1]; exact Mn.ix_lt (Mn.gq_mem HX.out.1)
          have HXT := Hid.mk' (And.intro hx hT)
          have hianI : (ia : Int) < (n : Int) := by omega
          clear hx hT
          go_upto_if 30 with fail
          go_cut [7] (fun tv wc => tv = .int .i16 (T : Int) ∧ Hid (∃ j, wc = wr.drewN j))
          case first =>
            by_cases ha0 : a = []
            · have hia0 : ia = 0 := by rw [← HA.out.1, ha0]; exact HX.out.1.ix0
              have hiaI : ((ia : Int) == 0) = true := by rw [hia0]; rfl
              have hT0 : T = 0 := by
                rw [← HXT.out.2]
                unfold Mn.gq
                rw [if_pos ha0]
                exact HX.out.1.ix0
              have HT0 := Hid.mk' hT0
              clear hT0 hia0
              go_wp2
              go_meet
              exact ⟨by rw [HT0.out]; rfl, ⟨0, rfl⟩⟩
            · have hia0 : ((ia : Int) == 0) = false := by
                have := HX.out.1.pos HA.out.2.1 ha0
                rw [HA.out.1] at this
                simp
                omega
              obtain ⟨it, hit⟩ : ∃ it, Mn.ix ns (Mn.suf ns a.tail) = it := ⟨_, rfl⟩
              have hitn : it < n := by rw [← hit, ← HX.out.2.2.2.2.2.1]; exact Mn.ix_lt (Mn.suf_mem HX.out.1.zero _)
              have t1 := (hjn.out.1.1.c_tl ia hian).1
              have e1 := Mn.tlQ_at hjn.out.1.2.1 hjn.out.2
              rw [HA.out.1, hit] at e1
              rw [e1] at t1
              have t2 := (hjn.out.1.1.set.c_nx it b hitn hb2).1
              have e2 := Mn.nxQ_tail HX.out.1 hjn.out.1.2.1 hjn.out.2 ha0
              rw [hit, HXT.out.2] at e2
              rw [e2] at t2
              obtain ⟨s0, _, _, _⟩ := hjn.out.1.1.set.st0
              have hitI : (it : Int) < (n : Int) := by omega
              clear e1 e2 hit ha0
              go_wp2
              go_quiet (fail)
              go_wp2
              go_meet
              exact ⟨rfl, ⟨nq, rfl⟩⟩
          case rest =>
            obtain ⟨rfl, hwc⟩ := hcut
            rename World => wq
            have HJ : Hid (Jn B sb g (.slice (some ⟨g2, 0, none⟩) m cw) n cn m ns W gt w0 Q gu cu q k b wq ∧ Q[k]? = some a) := by
              obtain ⟨j, rfl⟩ := hwc.out
              exact ⟨⟨hjn.out.1.1.drew j, hjn.out.1.2⟩, hjn.out.2⟩
            clear hwc hjn
            obtain ⟨s0, _, _, _⟩ := HJ.out.1.1.set.st0
            obtain ⟨c1, c2⟩ := HJ.out.1.1.set.c_nx ia b hian hb2
            have e1 := Mn.nxQ_raw HJ.out.1.2.1 HJ.out.2
            rw [HA.out.1, HXT.out.1] at e1
            rw [e1] at c1
            clear e1
            by_cases hch : a ++ [b] ∈ ns
            · have hx0 : ((x : Int) == 0) = false := by
                have := HX.out.1.pos hch (by simp)
                rw [HXT.out.1] at this
                simp
                omega
              have hxn : x < n := by rw [← HXT.out.1, ← HX.out.2.2.2.2.2.1]; exact Mn.ix_lt hch
              have hxI : (x : Int) < (n : Int) := by omega
              obtain ⟨t1, t2⟩ := HJ.out.1.1.c_tl x hxn
              have HCH := Hid.mk' hch
              clear hch
              go_upto_region 16 with fail
              obtain ⟨w5, hw5⟩ : ∃ w5, wq.setCell ⟨gt, x, none⟩ (.int .i16 (T : Int)) = w5 := ⟨_, rfl⟩
              rw [hw5]
              have HJ5 := Hid.mk' (HJ.out.1.1.put_tl x hxn (T : Int))
              rw [hw5] at HJ5
              clear hw5 s0 c1 c2 t1 t2
              obtain ⟨s0, _, _, _⟩ := HJ5.out.set.st0
              obtain ⟨c1, _⟩ := HJ5.out.set.c_wd T hTn
              have e1 := Mn.wdQ_at (W := W) HX.out.1 HJ.out.1.2.1 HJ.out.2
              rw [HXT.out.2] at e1
              obtain ⟨L, hL⟩ : ∃ L, Mn.lw W (Mn.gq ns a b) = L := ⟨_, rfl⟩
              rw [e1, hL] at c1
              have HLL := Hid.mk' hL
              have hTI : (T : Int) < (n : Int) := by omega
              have e2 := Mn.wdQ_own (W := W) HJ.out.1.2.1 HJ.out.2 HCH.out
              rw [HXT.out.1] at e2
              obtain ⟨i0, hi, hz0, hz1, hz2⟩ := info_parts infoH
              have hq1 : q < n := by
                have h1 := (HJ.out.1.2.1.push HJ.out.2 HCH.out).len
                rw [List.length_append, List.length_singleton, ← HJ.out.1.2.2, HX.out.2.2.2.2.2.1] at h1
                omega
              clear e1 hL
              by_cases hwd : a ++ [b] ∈ W
              · obtain ⟨q2, k1, k2, k3⟩ := Mn.ixw_mem hwd
                have hq2 : q2 < m := by rw [← HX.out.2.2.2.2.2.2]; exact (List.getElem?_eq_some_iff.1 k2).1
                have HIN := Hid.mk' (inherit_some w5 HJ5.out.set x q2 L hxn hn hq2 hm (e2.trans k1))
                have HP6 := Hid.mk' (HJ5.out.put_sh q2 hq2 L)
                have HK := Hid.mk' (And.intro hwd k1)
                clear e2 k1 k2 k3 hwd
                go_wp2_with (first | (go_at_call 50; refine HIN.out.mono ?_; rintro e w6 ⟨rfl, hw6⟩; have HJ6 := HP6; rw [← hw6] at HJ6; have hsz6 : B ≤ w6.heap.size := (by have := HJ6.out.bel.size; omega); have hgt6 : gt + 1 ≤ w6.heap.size := (HJ6.out.tls.lt gt rfl).2; clear hw6) | (at_builtin; refine wpList_append_lies _ rfl _ _ 104 rfl (gt + 1) 76 i0 (.int .i16 0) 1 2 Try.underlying104 hi hz0 hz1 hz2 rfl (by decide) (.slice (some ⟨gu, 0, none⟩) q cu) q _ rfl (by exact HJ6.out.que.alloc _) ⟨w6.heap.size, 0, none⟩ 1 1 [.int .i16 (x : Int)] rfl rfl (h1_news _ _ _) (h1_one _) (by omega) (by unfold maxLen; omega) (by omega) (by simp; omega) (w6.heap.size + 1) (by simp) ?_; intro g7 c7 w7 hown7 hgrow7 _ _; have HJ7 := Hid.mk' (HJ6.out.push (F' := fun i => (Mn.ix ns ((Q ++ [a ++ [b]]).getD i []) : Int)) hsz6 hown7 hgrow7 (fun i hi => by rw [Mn.getD_app (by have := HJ.out.1.2.2; omega)]) (by rw [HJ.out.1.2.2, Mn.getD_last, HXT.out.1])); clear hown7 hgrow7) | fail)
                go_roundw
                case rel =>
                  refine ⟨Q ++ [a ++ [b]], b + 1, g7, c7, q + 1, rfl, by simp, by omega, by omega, ⟨⟨HJ7.out.congr (fun i c hi hc => ?_) (fun i hi => ?_) (fun j hj => ?_) (fun i hi => ?_) (fun _ _ => rfl), HJ.out.1.2.1.push HJ.out.2 HCH.out, by rw [List.length_append, List.length_singleton, HJ.out.1.2.2]⟩, ?_⟩⟩
                  · rw [Mn.nxQ_push HX.out.1 HJ.out.1.2.1 HJ.out.2 HCH.out (by have := HX.out.2.2.2.2.2.1; omega)]
                  · rw [Mn.wdQ_push HX.out.1 HX.out.2.1 HJ.out.1.2.1 HJ.out.2 HCH.out (by have := HX.out.2.2.2.2.2.1; omega), if_neg (fun h => h.2 HK.out.1)]
                  · rw [Mn.shQ_push HX.out.1 HX.out.2.2.1 HX.out.2.1 (by have := HX.out.2.2.2.2.2.2; omega), HK.out.2, HLL.out]
                    by_cases e : j = q2
                    · rw [if_pos e, if_pos (by omega)]
                    · rw [if_neg e, if_neg (by omega)]
                  · rw [Mn.tlQ_push HX.out.1 HJ.out.1.2.1 HJ.out.2 HCH.out (by have := HX.out.2.2.2.2.2.1; omega), HXT.out.1, HXT.out.2]
                    split <;> rfl
                  · rw [List.getElem?_append_left (List.getElem?_eq_some_iff.1 HJ.out.2).1]
                    exact HJ.out.2
                case measure =>
                  simp [intOf]
                  omega
              · have HIN := Hid.mk' (inherit_none w5 HJ5.out.set x L hxn hn (e2.trans (Mn.ixw_not hwd)))
                have HP6 := Hid.mk' (HJ5.out.put_wd x hxn L)
                have HK := Hid.mk' hwd
                clear e2 hwd
                go_wp2_with (first | (go_at_call 50; refine HIN.out.mono ?_; rintro e w6 ⟨rfl, hw6⟩; have HJ6 := HP6; rw [← hw6] at HJ6; have hsz6 : B ≤ w6.heap.size := (by have := HJ6.out.bel.size; omega); have hgt6 : gt + 1 ≤ w6.heap.size := (HJ6.out.tls.lt gt rfl).2; clear hw6) | (at_builtin; refine wpList_append_lies _ rfl _ _ 104 rfl (gt + 1) 76 i0 (.int .i16 0) 1 2 Try.underlying104 hi hz0 hz1 hz2 rfl (by decide) (.slice (some ⟨gu, 0, none⟩) q cu) q _ rfl (by exact HJ6.out.que.alloc _) ⟨w6.heap.size, 0, none⟩ 1 1 [.int .i16 (x : Int)] rfl rfl (h1_news _ _ _) (h1_one _) (by omega) (by unfold maxLen; omega) (by omega) (by simp; omega) (w6.heap.size + 1) (by simp) ?_; intro g7 c7 w7 hown7 hgrow7 _ _; have HJ7 := Hid.mk' (HJ6.out.push (F' := fun i => (Mn.ix ns ((Q ++ [a ++ [b]]).getD i []) : Int)) hsz6 hown7 hgrow7 (fun i hi => by rw [Mn.getD_app (by have := HJ.out.1.2.2; omega)]) (by rw [HJ.out.1.2.2, Mn.getD_last, HXT.out.1])); clear hown7 hgrow7) | fail)
                go_roundw
                case rel =>
                  refine ⟨Q ++ [a ++ [b]], b + 1, g7, c7, q + 1, rfl, by simp, by omega, by omega, ⟨⟨HJ7.out.congr (fun i c hi hc => ?_) (fun i hi => ?_) (fun j hj => ?_) (fun i hi => ?_) (fun _ _ => rfl), HJ.out.1.2.1.push HJ.out.2 HCH.out, by rw [List.length_append, List.length_singleton, HJ.out.1.2.2]⟩, ?_⟩⟩
                  · rw [Mn.nxQ_push HX.out.1 HJ.out.1.2.1 HJ.out.2 HCH.out (by have := HX.out.2.2.2.2.2.1; omega)]
                  · rw [Mn.wdQ_push HX.out.1 HX.out.2.1 HJ.out.1.2.1 HJ.out.2 HCH.out (by have := HX.out.2.2.2.2.2.1; omega), HXT.out.1, HLL.out]
                    by_cases e : i = x
                    · rw [if_pos e, if_pos ⟨e, HK.out⟩]
                    · rw [if_neg e, if_neg (fun h => e h.1)]
                  · rw [Mn.shQ_push HX.out.1 HX.out.2.2.1 HX.out.2.1 (by have := HX.out.2.2.2.2.2.2; omega), Mn.ixw_not HK.out, if_neg (by omega)]
                  · rw [Mn.tlQ_push HX.out.1 HJ.out.1.2.1 HJ.out.2 HCH.out (by have := HX.out.2.2.2.2.2.1; omega), HXT.out.1, HXT.out.2]
                    split <;> rfl
                  · rw [List.getElem?_append_left (List.getElem?_eq_some_iff.1 HJ.out.2).1]
                    exact HJ.out.2
                case measure =>
                  simp [intOf]
                  omega
            · have hx0 : x = 0 := by rw [← HXT.out.1]; exact Mn.ix_not hch
              rw [hx0] at c1
              have HCH := Hid.mk' (And.intro hch hx0)
              have HP := Hid.mk' (HJ.out.1.1.put_nx ia b hian hb2 (T : Int))
              clear hch hx0
              go_wp2
              go_roundw
              case rel =>
                refine ⟨Q, b + 1, gu, cu, q, rfl, by simp, by omega, hqn, ⟨⟨HP.out.congr (fun i c hi hc => ?_) (fun _ _ => rfl) (fun _ _ => rfl) (fun _ _ => rfl) (fun _ _ => rfl), HJ.out.1.2.1.skip HJ.out.2 HCH.out.1, HJ.out.1.2.2⟩, HJ.out.2⟩⟩
                rw [Mn.nxQ_skip HX.out.1 HJ.out.1.2.1 HJ.out.2 HCH.out.1 (by have := HX.out.2.2.2.2.2.1; omega), HA.out.1, HXT.out.2]
                split <;> rfl
              case measure =>
                simp [intOf]
                omega
        · have hbe : b = 256 := by omega
          have hbI : ¬ (b : Int) < 256 := by omega
          have HBE := Hid.mk' hbe
          clear hbe
          go_wp2
          go_roundw
          case rel =>
            have hkq : k < q := by
              have := (List.getElem?_eq_some_iff.1 hjn.out.2).1
              rw [← hjn.out.1.2.2] at this
              exact this
            have h9 := hjn.out.1
            rw [HBE.out] at h9
            exact ⟨Q, k + 1, gu, cu, q, rfl, by simp, by omega, hqn, ⟨h9.1.congr (fun i c hi hc => by rw [Mn.nxQ_turn hjn.out.2 i c hc]) (fun _ _ => rfl) (fun _ _ => rfl) (fun _ _ => rfl) (fun _ _ => rfl), h9.2.1.turn HX.out.2.2.2.2.1 hjn.out.2, h9.2.2⟩⟩
          case measure =>
            have hkq : k < q := by
              have := (List.getElem?_eq_some_iff.1 hjn.out.2).1
              rw [← hjn.out.1.2.2] at this
              exact this
            simp [intOf]
            omega
    · have hke : k = q := by omega
      have hklI : ¬ (k : Int) < (q : Int) := by omega
      have HKE := Hid.mk' hke
      clear hke
      go_wp2
      go_end0
      have h9 := hjn.out
      rw [HKE.out] at h9
      have hbf := h9.2.1
      have hql := h9.2.2
      rw [hql] at hbf
      refine ⟨rfl, ?_, h9.1.bel⟩
      unfold EndM
      rw [HX.out.2.2.2.2.2.1, HX.out.2.2.2.2.2.2]
      refine h9.1.set.congr (fun i c hi hc => ?_) (fun _ _ => rfl) (fun i hi => ?_) (fun _ _ => rfl) (fun j hj => ?_)
      · rw [hql, Mn.nxQ_done HX.out.1 hbf (by have := HX.out.2.2.2.2.2.1; omega)]
      · rw [Mn.wdQ_done HX.out.1 hbf (by have := HX.out.2.2.2.2.2.1; omega)]
      · rw [Mn.shQ_done HX.out.1 HX.out.2.1 hbf (by have := HX.out.2.2.2.2.2.2; omega)]
end Go.Proofs.Ytlbfnchjbpioeaa
