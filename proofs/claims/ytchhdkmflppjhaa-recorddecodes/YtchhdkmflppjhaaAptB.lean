/-
  The law's 'apart' of three lists of lines: all are written full, grown, and read as they were left. Conditions: as it says.
-/
import Derived.Test.YtchhdkmflppjhaaApt
namespace Go.Proofs.Ytchhdkmflppjhaa
open Go.RowKit
set_option linter.unusedVariables false
set_option linter.unusedSimpArgs false
theorem st_cell {V : World} {gl i : Nat} {X : Nat → Value} {t : TypeId} (h : V.heap[gl]? = some (.cells #[X 0, X 1, X 2] t (0, 0))) (hi : i < 3) : V.cell? ⟨gl, i, none⟩ = some (X i) := by
  have hh : i = 0 ∨ i = 1 ∨ i = 2 := by omega
  rcases hh with rfl | rfl | rfl <;> simp [World.cell?, h]
def cwA (F : Nat → List Rec.Ln) (i k j : Nat) : List Rec.Ln := if j < i then fulA j (F j).length else if j = i then fulA i k ++ (F i).drop k else F j
theorem cwA_len (F : Nat → List Rec.Ln) (i k j : Nat) (hk : k ≤ (F i).length) : (cwA F i k j).length = (F j).length := by
  unfold cwA
  by_cases h1 : j < i
  · rw [if_pos h1]
    simp [fulA]
  · rw [if_neg h1]
    by_cases h2 : j = i
    · subst h2
      simp [fulA]
      omega
    · rw [if_neg h2]
theorem cwA_zero (F : Nat → List Rec.Ln) (j : Nat) : cwA F 0 0 j = F j := by
  unfold cwA
  rw [if_neg (by omega)]
  by_cases h2 : j = 0
  · subst h2
    simp [fulA]
  · rw [if_neg h2]
theorem cwA_row (F : Nat → List Rec.Ln) (i j : Nat) : cwA F i (F i).length j = cwA F (i + 1) 0 j := by
  unfold cwA
  by_cases h1 : j < i
  · rw [if_pos h1, if_pos (by omega)]
  · rw [if_neg h1]
    by_cases h2 : j = i
    · subst h2
      rw [if_pos rfl, if_pos (by omega)]
      simp
    · rw [if_neg h2, if_neg (by omega)]
      by_cases h3 : j = i + 1
      · subst h3
        simp [fulA]
      · rw [if_neg h3]
theorem cwA_next (F : Nat → List Rec.Ln) (i k : Nat) (hk : k < (F i).length) (j : Nat) : (if j = i then (cwA F i k i).set k (mkA i) else cwA F i k j) = cwA F i (k + 1) j := by
  by_cases h2 : j = i
  · subst h2
    rw [if_pos rfl]
    unfold cwA
    rw [if_neg (by omega), if_pos rfl, if_neg (by omega), if_pos rfl]
    have hl : (fulA j k).length = k := fulA_len j k
    have e : fulA j (k + 1) = fulA j k ++ [mkA j] := by unfold fulA; rw [List.replicate_succ']
    rw [List.set_append_right _ _ (by omega), hl, Nat.sub_self, e, List.append_assoc]
    congr 1
    rw [List.drop_eq_getElem_cons hk]
    rfl
  · rw [if_neg h2]
    unfold cwA
    by_cases h1 : j < i
    · rw [if_pos h1, if_pos h1]
    · rw [if_neg h1, if_neg h1, if_neg h2, if_neg h2]
theorem cwA_full (F : Nat → List Rec.Ln) (n i : Nat) (hi : i < n) : cwA F n 0 i = fulA i (F i).length := by
  unfold cwA
  rw [if_pos hi]
theorem Sa1.drewN {B gl : Nat} {X : Nat → Value} {C : Nat → List Rec.Ln} {V0 V : World} (h : Sa1 B gl X C V0 V) (e : Nat) : Sa1 B gl X C V0 (V.drewN e) := ⟨h.st, h.each, h.apart, h.lo, h.bel.drewN e⟩
theorem lrow_at {V : World} {B n c : Nat} {p : Option Addr} {f : Nat → Value} (h : V.ownsRow B 23 1 (.slice p n c) n (rwA f n)) (hn : 0 < n) : ∃ g, p = some ⟨g, 0, none⟩ ∧ ∀ i, i < n → V.cell? ⟨g, i, none⟩ = some (f i) := by
  rcases h.2 with ⟨h1, h2⟩ | ⟨g, cap, cur, h1, hb, hg, _⟩
  · omega
  · cases h1
    refine ⟨g, rfl, fun i hi => ?_⟩
    have := h.cells (g := g) rfl i (f i) (rwA_get f n i hi)
    rw [Addr.add_lit, Nat.zero_add] at this
    exact this
theorem row_own {w : World} {base n size c : Nat} {e : TypeId} {p : Option Addr} {xs : List Value} (h : w.ownsRow base e size (.slice p n c) n xs) (hn : 0 < n) : ∃ g, p = some ⟨g, 0, none⟩ ∧ (Value.slice p n c).ownBlock = some g := by
  rcases h.2 with ⟨h1, h2⟩ | ⟨g, cap, cur, h1, hb, hg, _⟩
  · omega
  · cases h1
    exact ⟨g, rfl, rfl⟩
theorem infoSlL : (Try.prog.info? 23).map (fun i => (i.zero, i.size, i.bytes)) = some (some (.slice none 0 0), 1, 24) := by kernel_rfl
theorem run_append_oneL {P : Program} (w : World) (base : Nat) (t ty e : TypeId) (i : TypeInfo) (z : Value) (bytes : Nat) (ht : P.underlying t = some (.slice e)) (hi : P.info? e = some i) (hz : i.zero = some z)
    (hsize : i.size = 2) (hby : i.bytes = bytes) (hzs : z.cells.size = 2)
    (v : Value) (n : Nat) (xs : List Value) (hown : w.ownsRow base e 2 v n xs) (a : Addr) (x y : Value) (hnews : ∀ j u, [x, y][j]? = some u → w.cell? (a.add j) = some u) (h1 : ∀ u ∈ [x, y], u.oneCell' = true)
    (h63 : n + 1 ≤ maxLen) (hbytes : (n + 1) * bytes ≤ 140737488355328) (hbase : base ≤ w.heap.size) :
    ∃ v' w', (Builtin.append_ #[t, t] ty #[v, .slice (some a) 1 1]).run P w = .ok v' w' ∧ w'.ownsRow base e 2 v' (n + 1) (xs ++ [x, y]) ∧ ((v'.ownBlock = v.ownBlock ∧ w.grownBy w' v.ownBlock) ∨ (v'.ownBlock = some w.heap.size ∧ w.grownBy w' none)) := by
  obtain ⟨v', w', hr, h2, h3, h4, h5⟩ := run_append_own_at (P := P) w base t ty e i z 2 bytes ht hi hz hsize hby hzs (by decide) v n xs hown a 1 1 [x, y] rfl hnews h1 h63 hbytes hbase
  refine ⟨v', w', hr, h2, ?_⟩
  rcases h5 with h5 | h5
  · exact .inl ⟨h5, h3⟩
  refine .inr ⟨h5, ?_⟩
  rcases hown.2 with ⟨rfl, rfl⟩ | ⟨g, cap, cur, rfl, hbg, hg, hnc, hcm, hcs, htake⟩
  · exact h3
  · have hgl := (Array.getElem?_eq_some_iff.1 hg).1
    by_cases hroom : n + 1 ≤ cap
    · have hfit : n * i.size + [x, y].length ≤ cur.size := by rw [hsize, hcs]; simp; omega
      have hr2 := run_append_room (P := P) w t ty e i ht hi g n cap cur hg a 1 1 [x, y] (by rw [hsize]; rfl) hnews h1 hroom hfit
      rw [hr] at hr2
      simp only [Result.ok.injEq] at hr2
      rw [hr2.1] at h5
      simp [Value.ownBlock] at h5
      omega
    · have holds : ∀ j u, xs[j]? = some u → w.cell? ((⟨g, 0, none⟩ : Addr).add j) = some u := hown.cells (g := g) rfl
      have hr2 := run_append_grow (P := P) w t ty e i z ht hi hz ⟨g, 0, none⟩ n cap xs (by rw [hsize]; exact hown.1) holds a 1 1 [x, y] (by rw [hsize]; rfl) hnews (by omega) (by simp only [maxLen] at h63; omega) (growslice_fits (by omega) (by rw [hby]; exact hbytes))
      rw [hr] at hr2
      simp only [Result.ok.injEq] at hr2
      rw [hr2.2]
      exact ⟨rfl, rfl, rfl, by simp, fun k hk _ => Below.heap_alloc w.drew _ k hk⟩
theorem wpList_append_oneL {P : Program} {w : World} {ops : Array Oper} {rest : List Oper} {o : Oper} {a : Act} {Q : Exit → Act → World → Prop} (hgd : o.guard = none) (s x : Operand) (t : TypeId)
    (ho : o.op = .call { callee := .builtin .append, args := #[s, x], argTypes := #[t, t] })
    (base : Nat) (e : TypeId) (i : TypeInfo) (z : Value) (bytes : Nat) (ht : P.underlying t = some (.slice e)) (hi : P.info? e = some i) (hz : i.zero = some z) (hsize : i.size = 2) (hby : i.bytes = bytes) (hzs : z.cells.size = 2)
    (v : Value) (n : Nat) (xs : List Value) (hs : a.eval s = v) (hown : w.ownsRow base e 2 v n xs) (ad : Addr) (u y : Value) (hx : a.eval x = .slice (some ad) 1 1) (hnews : ∀ j z, [u, y][j]? = some z → w.cell? (ad.add j) = some z) (h1 : ∀ z ∈ [u, y], z.oneCell' = true)
    (h63 : n + 1 ≤ maxLen) (hbytes : (n + 1) * bytes ≤ 140737488355328) (hbase : base ≤ w.heap.size)
    (h : ∀ v' w', w'.ownsRow base e 2 v' (n + 1) (xs ++ [u, y]) → ((v'.ownBlock = v.ownBlock ∧ w.grownBy w' v.ownBlock) ∨ (v'.ownBlock = some w.heap.size ∧ w.grownBy w' none)) → wpList P ops Q rest (a.put o.dst v') w') :
    wpList P ops Q (o :: rest) a w := by
  refine wpList_plain hgd fun K hK => ?_
  obtain ⟨v', w', hr, h2, h3⟩ := run_append_oneL (P := P) w base t o.type e i z bytes ht hi hz hsize hby hzs v n xs hown ad u y hnews h1 h63 hbytes hbase
  unfold Oper.wp execOp
  simp only [ho, resolve, invoke, builtin, Sem.run_bind, Sem.run_pure, Result.andThen_ok, List.map_toArray, List.map_cons, List.map_nil, hs, hx, hr]
  exact hK _ _ (h v' w' h2 h3)
set_option maxRecDepth 100000 in
set_option maxHeartbeats 2000000 in
theorem apart_any (B gl : Nat) (X : Nat → Value) (F : Nat → List Rec.Ln) (V : World) (h : Sa1 B gl X F V V) (hF : ∀ i, i < 3 → (F i).length ≤ 131072) (hB : B ≤ V.heap.size) :
    Calls Try.prog 10 #[.slice (some ⟨gl, 0, none⟩) 3 3] V fun e w' => e = .returned (.bool true) ∧ Svd X V w' := by
  have HH : Hid (Sa1 B gl X (fun j => cwA F 0 0 j) V V) := Hid.mk' (by simp only [cwA_zero]; exact h)
  have HF := Hid.mk' hF
  have HB := Hid.mk' hB
  clear h hF hB
  go_enter Try.func10, Try.ntmps10
  go_wp2_with fail
  go_loopw [3, 4] (fun iv kv wr => ∃ i : Nat, iv = .int .i64 (i : Int) ∧ i ≤ 3 ∧ Hid (Sa1 B gl X (fun j => cwA F i 0 j) V wr)) (fun iv kv _ => 3 - (intOf iv).toNat)
  case atStart => exact ⟨0, rfl, by omega, HH⟩
  case round =>
    obtain ⟨i, rfl, hi, hst⟩ := hrel
    rename World => wr
    clear HH
    by_cases hin : i < 3
    · have hinI : (i : Int) < 3 := by omega
      have HX : Hid (∃ p c, X i = .slice p (F i).length c) := by
        obtain ⟨p, c, h9⟩ := row_shape (hst.out.each i hin)
        rw [cwA_len F i 0 i (Nat.zero_le _)] at h9
        exact ⟨p, c, h9⟩
      obtain ⟨px, cx, hxx⟩ := HX.out
      obtain ⟨m, hm⟩ : ∃ m, (F i).length = m := ⟨_, rfl⟩
      have hm64 : m ≤ 131072 := by rw [← hm]; exact HF.out i hin
      have HXX := Hid.mk' hxx
      have HM := Hid.mk' hm
      rw [hm] at HXX
      clear HX hxx hm
      go_wp2_with fail
      go_loopw [4] (fun kv wx => ∃ k : Nat, kv = .int .i64 (k : Int) ∧ k ≤ m ∧ Hid (Sa1 B gl X (fun j => cwA F i k j) V wx)) (fun kv _ => m - (intOf kv).toNat)
      case atStart => exact ⟨0, rfl, by omega, hst⟩
      case round =>
        obtain ⟨k, rfl, hk, hsx⟩ := hrel
        rename World => wx
        have x1 : wx.cell? ⟨gl, i, none⟩ = some (.slice px m cx) := by rw [← HXX.out]; exact st_cell hsx.out.st hin
        by_cases hkm : k < m
        · have hkI : (k : Int) < (m : Int) := by omega
          have hrow : wx.ownsRow B 35 2 (X i) (cwA F i k i).length (lnV (cwA F i k i)) := hsx.out.each i hin
          rw [cwA_len F i k i (by rw [HM.out]; exact hk), HM.out, HXX.out] at hrow
          obtain ⟨gx, rfl, hob⟩ := row_own hrow (by omega)
          have x2 := (own_at hrow k hkm).1
          have x3 := (own_at hrow k hkm).2
          have f2 := hrow.frozenAt (k * 2)
          have f3 := hrow.frozenAt (k * 2 + 1)
          have HPUT : Hid (Sa1 B gl X (fun j => cwA F i (k + 1) j) V ((wx.setCell ⟨gx, k * 2, none⟩ (.int .i64 (-100 - (i : Int)))).setCell ⟨gx, k * 2 + 1, none⟩ (.string ⟨#[]⟩))) := by
            have h9 := hsx.out.put (k := k) hin (by rw [HXX.out]; exact hob) (mkA i)
            simp only [cwA_next F i k (by rw [HM.out]; exact hkm)] at h9
            exact h9
          clear hrow hob hsx
          go_wp2_with fail
          go_roundw
          case rel => exact ⟨k + 1, by simp, by omega, HPUT⟩
          case measure =>
            simp [intOf]
            omega
        · have e9 : m = k := by omega
          subst e9
          have hkI : ¬ (m : Int) < (m : Int) := by omega
          have HN : Hid (Sa1 B gl X (fun j => cwA F (i + 1) 0 j) V wx) := Hid.mk' (by
            have h9 := hsx.out
            simp only [← HM.out, cwA_row] at h9
            exact h9)
          clear hsx
          go_wp2_with fail
          go_roundw
          case rel => exact ⟨i + 1, by simp, by omega, HN⟩
          case measure =>
            simp [intOf]
            omega
    · have e9 : i = 3 := by omega
      have hinI : ¬ (i : Int) < 3 := by omega
      have HS2 : Hid (Sa2 B gl X (fun j => (F j).length) V 0 (.slice none 0 0) (fun _ => .slice none 0 0) wr) := Hid.mk' (hst.out.settled (fun j hj => cwA_full F i j (by omega)))
      clear e9
      have HLEN : Hid (∀ j, j < 3 → (fun j => (F j).length) j ≤ 131072) := HF
      generalize (fun j => (F j).length) = len at HS2 HLEN
      obtain ⟨i1, j1, j2, j3, j4⟩ := info_parts infoSlL
      have HJ := Hid.mk' (And.intro j1 (And.intro j2 (And.intro j3 j4)))
      obtain ⟨i3, q1, q2, q3, q4⟩ := info_parts infoLn
      have HQ := Hid.mk' (And.intro q1 (And.intro q2 (And.intro q3 q4)))
      clear hst j1 j2 j3 j4 q1 q2 q3 q4
      go_wp2_with fail
      go_loopw [5, 6, 7, 8] (fun vlv iv lv kv wr => ∃ (i : Nat) (pl : Option Addr) (cl : Nat) (zs : Nat → Value), vlv = .slice pl (20 * i) cl ∧ iv = .int .i64 (i : Int) ∧ i ≤ 3 ∧ Hid (Sa2 B gl X len V i (.slice pl (20 * i) cl) zs wr)) (fun vlv iv lv kv _ => 3 - (intOf iv).toNat)
      case atStart => exact ⟨0, none, 0, fun _ => .slice none 0 0, rfl, rfl, by omega, HS2⟩
      case round =>
        obtain ⟨i, pl, cl, zs, rfl, rfl, hi, hst⟩ := hrel
        rename World => wr
        clear HS2
        by_cases hin : i < 3
        · have hinI : (i : Int) < 3 := by omega
          obtain ⟨px, cx, hxx⟩ := row_shape (hst.out.rest i (Nat.le_refl _) hin)
          obtain ⟨m, hm⟩ : ∃ m, len i = m := ⟨_, rfl⟩
          have hm64 : m ≤ 131072 := by rw [← hm]; exact HLEN.out i hin
          have HS3 := Hid.mk' (hst.out.take hin)
          rw [hm] at hxx HS3
          have d1 := st_cell hst.out.st hin
          rw [hxx] at d1 HS3
          obtain ⟨q, hq⟩ : ∃ q, 20 * i = q := ⟨_, rfl⟩
          rw [hq] at HS3 ⊢
          have HQE := Hid.mk' hq
          have hqb : q ≤ 60 := by omega
          clear hst hxx hm hq
          go_wp2_with fail
          clear d1
          go_loopw [5, 7, 8] (fun vlv lv kv wx => ∃ (k r : Nat) (p : Option Addr) (c : Nat) (pl : Option Addr) (cl : Nat) (zs : Nat → Value), vlv = .slice pl (q + k) cl ∧ lv = .slice p r c ∧ kv = .int .i64 (k : Int) ∧ k ≤ 20 ∧ r ≤ 131072 + k ∧ Hid (Sa3 B gl X len V i (q + k) r (.slice p r c) (.slice pl (q + k) cl) zs wx)) (fun vlv lv kv _ => 20 - (intOf kv).toNat)
          case atStart => exact ⟨0, m, px, cx, pl, cl, zs, rfl, rfl, rfl, by omega, by omega, HS3⟩
          case round =>
            obtain ⟨k, r, p, c, pl, cl, zs, rfl, rfl, rfl, hk, hr, hst⟩ := hrel
            rename World => wx
            clear HS3
            by_cases hk12 : k < 20
            · have hkI : (k : Int) < 20 := by omega
              have hszx := Nat.le_trans (Nat.le_refl _) hst.out.bel.size
              have hsB := HB.out
              have HKE : Hid (∀ (W : World) (vl' : Value), W.ownsRow V.heap.size 23 1 vl' (q + k + 1) (rwA zs (q + k) ++ [.slice p r c]) → (wx.alloc (.cells #[.slice p r c] 23)).grownBy W (Value.slice pl (q + k) cl).ownBlock → Sa3 B gl X len V i (q + k + 1) r (.slice p r c) vl' (fun j => if j = q + k then .slice p r c else zs j) W) := fun W vl' h1 h2 => hst.out.keep (by have := HQE.out; omega) (by omega) h1 h2
              obtain ⟨qk, hqk⟩ : ∃ qk, q + k = qk := ⟨_, rfl⟩
              have HQK := Hid.mk' hqk
              rw [hqk] at HKE hst ⊢
              have hqk2 : qk ≤ 80 := by omega
              have HLR := Hid.mk' hst.out.lrow
              clear hqk hst
              go_upto_region 17 with (first
                | (at_builtin; refine wpList_append_own_at _ rfl _ _ 29 rfl V.heap.size 23 i1 (.slice none 0 0) 1 24 Try.underlying29 HJ.out.1 HJ.out.2.1 HJ.out.2.2.1 HJ.out.2.2.2 rfl (by decide) _ _ _ rfl (HLR.out.alloc _) ⟨wx.heap.size, 0, none⟩ 1 1 [.slice p r c] rfl rfl (cell_one_new _ _ _) (by intro x hx; simp at hx; subst hx; rfl) (by unfold maxLen; omega) (by omega) (by simp only [World.size_alloc]; omega) ?_; intro v6 w6 ho6 hg6 _ hat6; obtain ⟨p6, c6, rfl⟩ := row_shape ho6; have HB6 := Hid.mk' (HKE.out w6 _ ho6 hg6); clear ho6 hg6 hat6)
                | fail)
              have hszZ := HB6.out.bel.size
              clear HKE HLR hszx
              go_wp2_with (first
                | (at_builtin; refine wpList_append_oneL rfl _ _ 23 rfl B 35 i3 _ 24 Try.underlying23 HQ.out.1 HQ.out.2.1 HQ.out.2.2.1 HQ.out.2.2.2 rfl _ _ _ rfl (HB6.out.hand.alloc _) ⟨w6.heap.size, 0, none⟩ (.int .i64 (-100 - (i : Int))) (.string ⟨#[]⟩) rfl (World.news_of_block (cs := #[.int .i64 (-100 - (i : Int)), .string ⟨#[]⟩]) (t := 35) (fr := (0, 0)) (heap_alloc_new _ _)) (ln_one _ _) (by unfold maxLen; omega) (by omega) (by simp only [World.size_alloc]; omega) ?_; intro v7 w7 ho7 hat7; obtain ⟨p7, c7, rfl⟩ := row_shape ho7; have HB7 := Hid.mk' (HB6.out.more hsB ho7 (by rw [World.size_alloc] at hat7; exact hat7)); clear ho7 hat7)
                | fail)
              go_roundw
              case rel => exact ⟨k + 1, r + 1, p7, c7, p6, c6, _, by rw [show q + (k + 1) = qk + 1 by have := HQK.out; omega], rfl, by simp, by omega, by omega, by rw [show q + (k + 1) = qk + 1 by have := HQK.out; omega]; exact HB7⟩
              case measure =>
                simp [intOf]
                omega
            · have e9 : k = 20 := by omega
              subst e9
              have HN : Hid (Sa2 B gl X len V (i + 1) (.slice pl (20 * (i + 1)) cl) zs wx) := Hid.mk' (by
                have h9 := hst.out
                rw [show q + 20 = 20 * (i + 1) by have := HQE.out; omega] at h9
                exact h9.leave)
              have HQ2 : Hid (q + 20 = 20 * (i + 1)) := by have := HQE.out; unfold Hid; omega
              clear hst
              go_wp2_with fail
              go_roundw
              case rel => exact ⟨i + 1, pl, cl, zs, by rw [HQ2.out], by simp, by omega, HN⟩
              case measure =>
                simp [intOf]
                omega
        · have e9 : 20 * i = 60 := by omega
          have hinI : ¬ (i : Int) < 3 := by omega
          rw [e9] at hst ⊢
          have HROW : Hid (wr.ownsRow V.heap.size 23 1 (.slice pl 60 cl) 60 (rwA zs 60)) := Hid.mk' (by have h9 := hst.out.lrow; rw [e9] at h9; exact h9)
          have HKP : Hid (∀ j, j < 60 → KpA B wr (mkA (j / 20)) (zs j) (fun _ _ => True)) := fun j hj => (hst.out.kept j (by omega)).mono (fun _ _ _ _ => trivial) (fun g' r' hB hcs _ => ⟨hcs, fun t _ hc => hc⟩)
          have HBY : Hid (Svd X V wr) := Hid.mk' hst.out.bel
          clear hst e9 hin
          go_wp2_with fail
          go_loopw [9, 10] (fun jv tv wy => ∃ j e : Nat, jv = .int .i64 (j : Int) ∧ j ≤ 60 ∧ wy = wr.drewN e) (fun jv tv _ => 60 - (intOf jv).toNat)
          case atStart => exact ⟨0, 0, rfl, by omega, rfl⟩
          case round =>
            obtain ⟨j, e, rfl, hj, rfl⟩ := hrel
            by_cases hjq : j < 60
            · have hjI : (j : Int) < 60 := by omega
              obtain ⟨g9, hpl, hcl⟩ := lrow_at HROW.out (by omega)
              obtain ⟨p, c, r, hz, hr, hor⟩ := HKP.out j hjq
              have e3 := hcl j hjq
              rw [hz] at e3
              have HOR := Hid.mk' hor
              obtain ⟨d, hd⟩ : ∃ d, j / 20 = d := ⟨_, rfl⟩
              have hdv : Int.tdiv (j : Int) 20 = (d : Int) := by
                rw [Int.tdiv_eq_ediv_of_nonneg (by omega)]
                omega
              have hdb : d ≤ 3 := by omega
              rw [hd] at HOR
              subst hpl
              have HE3 := Hid.mk' hcl
              clear hcl hz hor hd
              go_wp2_with fail
              go_loopw [10] (fun tv wz => ∃ t e : Nat, tv = .int .i64 (t : Int) ∧ t ≤ r ∧ wz = wr.drewN e) (fun tv _ => r - (intOf tv).toNat)
              case atStart => exact ⟨0, e, rfl, by omega, rfl⟩
              case round =>
                obtain ⟨t, e, rfl, ht, rfl⟩ := hrel
                by_cases htr : t < r
                · have htI : (t : Int) < (r : Int) := by omega
                  rcases HOR.out with h0 | ⟨gz, hpz, _, _, hcz, _⟩
                  · omega
                  · have e4 : wr.cell? ⟨gz, t * 2, none⟩ = some (.int .i64 (-100 - (d : Int))) := (hcz t htr).1
                    have e5 : wr.cell? ⟨gz, t * 2 + 1, none⟩ = some (.string ⟨#[]⟩) := (hcz t htr).2
                    have hnn : ∀ W, (binOp .neq 35 (.agg #[.int .i64 (-100 - (d : Int)), .string ⟨#[]⟩]) (.agg #[.int .i64 (-100 - (d : Int)), .string ⟨#[]⟩])).run Try.prog W = .ok (.bool false) W := fun W => by rw [neq_line]; simp
                    subst hpz
                    clear hcz
                    have t0 : (0 : Int) ≤ (t : Int) := by omega
                    have HTR := Hid.mk' htr
                    go_wp2_with fail
                    go_roundw
                    case rel => exact ⟨t + 1, e, by go_num, HTR.out, rfl⟩
                    case measure => have := HTR.out; simp [intOf]; omega
                · have e9 : r = t := by omega
                  subst e9
                  have htI : ¬ (r : Int) < (r : Int) := by omega
                  go_wp2_with fail
                  go_roundw
                  case rel => exact ⟨j + 1, e, by simp, by omega, rfl⟩
                  case measure =>
                    simp [intOf]
                    omega
            · have e9 : j = 60 := by omega
              subst e9
              go_wp2_with fail
              go_ret
              exact ⟨rfl, HBY.out.drewN e⟩
end Go.Proofs.Ytchhdkmflppjhaa
