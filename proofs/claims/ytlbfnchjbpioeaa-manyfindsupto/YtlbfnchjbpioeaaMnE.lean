/-
  (*many.Set).add: a word is put in with its beginnings. Conditions: as it says.
-/
import Derived.Test.YtlbfnchjbpioeaaMnD
import Derived.Deep.RegionHeld3
import Derived.Great.BuildSlice
import Derived.Deep.AppendLies
import Derived.Deep.QuietTactic
import Derived.BigQuiet
import Derived.Deep.DeepCutAuto
import Derived.Deep.CutBlock
namespace Go.Proofs.Ytlbfnchjbpioeaa
open Go.RowKit
set_option linter.unusedVariables false
theorem idx_m (s : ByteArray) (i c : Nat) (hi : i < s.size) (hc : c = (Sums.bl s).getD i 0) (W : World) : (Instr.index 9 (.string s) (.int .i64 (i : Int))).run Try.prog W = .ok (.int .u8 (c : Int)) W := by
  rw [run_index_string W 9 _ .i64 (i : Int) Try.underlying9, dif_pos ⟨by omega, by omega⟩]
  simp only [Int.toNat_natCast]
  rw [hc, Sums.bl_get s i hi]
def TrieM (B sb g : Nat) (wv : Value) (cn : Nat) (ns W : List (List Nat)) (w : World) : Prop :=
  SetM B sb g wv ns.length cn W.length (fun i c => (Mn.raw ns i c : Int)) (fun i => ((ns.getD i []).length : Int)) (fun i => Mn.ixw W (ns.getD i [])) (fun j => ((W.getD j []).length : Int)) (fun _ => -1) w
def ndZ : Array Value := Array.replicate 256 (.int .i16 0) ++ #[.int .i64 0, .int .i16 0]
theorem infoN : (Try.prog.info? 79).map (fun i => (i.zero, i.size, i.bytes)) = some (some (.agg ndZ), 258, 528) := by kernel_rfl
theorem infoW : (Try.prog.info? 82).map (fun i => (i.zero, i.size, i.bytes)) = some (some (.agg #[.int .i64 0, .int .i16 0]), 2, 16) := by kernel_rfl
theorem ndZ_size : ndZ.size = 258 := by simp [ndZ]
theorem zero_node (w : World) : (zeroValue 79).run Try.prog w = .ok (.agg ndZ) w := by
  obtain ⟨i0, hi, hz0, hz1, hz2⟩ := info_parts infoN
  simp [zeroValue, typeInfo, hi, hz0]
/-- the cells of a new node -/
def ndN (l v : Int) : Array Value := (ndZ.setIfInBounds 256 (.int .i64 l)).setIfInBounds 257 (.int .i16 v)
theorem ndN_at (l v : Int) (j : Nat) (hj : j < 258) : (ndN l v)[j]? = some (if j < 256 then .int .i16 0 else if j = 256 then .int .i64 l else .int .i16 v) := by
  unfold ndN
  have hs := ndZ_size
  rw [Array.getElem?_setIfInBounds]
  by_cases h1 : 257 = j
  · subst h1
    simp [hs]
  · rw [if_neg h1, Array.getElem?_setIfInBounds]
    by_cases h2 : 256 = j
    · subst h2
      simp [hs]
    · rw [if_neg h2, if_pos (by omega)]
      unfold ndZ
      rw [Array.getElem?_append_left (by simp; omega), Array.getElem?_replicate, if_pos (by omega)]
theorem ndN_size (l v : Int) : (ndN l v).size = 258 := by simp [ndN, ndZ_size]
theorem ndN_list (l v : Int) : (ndN l v).toList = rowV (fun j => if j < 256 then .int .i16 0 else if j = 256 then .int .i64 l else .int .i16 v) 258 := by
  apply List.ext_getElem?
  intro j
  by_cases hj : j < 258
  · rw [rowV_get _ _ _ hj, Array.getElem?_toList, ndN_at l v j hj]
  · rw [List.getElem?_eq_none (by rw [Array.length_toList, ndN_size]; omega), List.getElem?_eq_none (by rw [rowV_len]; omega)]
theorem ndN_one (l v : Int) : ∀ u ∈ (ndN l v).toList, u.oneCell' = true := by
  intro u hu
  rw [ndN_list] at hu
  simp only [rowV, List.mem_map, List.mem_range] at hu
  obtain ⟨j, _, rfl⟩ := hu
  split
  · rfl
  · split <;> rfl
theorem bs_node (cs : Array Value) (h : cs.size = 258) (w : World) : (Instr.buildSlice 66 1 #[(0, .agg cs)]).run Try.prog w = .ok (.slice (some ⟨w.heap.size, 0, none⟩) 1 1) (w.alloc (.cells cs 79)) := by
  obtain ⟨i0, hi, hz0, hz1, hz2⟩ := info_parts infoN
  refine run_buildSlice w 66 79 1 _ cs i0 (.agg ndZ) Try.underlying66 hi hz0 (by rw [hz1]; decide) (by rw [hz1]; decide) ?_
  rw [hz1]
  have := Great.fill_whole (s := 258) (by omega) [.agg cs] ((Array.range (1 * 258)).map ((Value.agg ndZ).cells[· % (Value.agg ndZ).cells.size]!)) (fun v hv => by simp at hv; rw [hv]; exact h) (by simp)
  simpa [Value.cells] using this
theorem fill_node {i0 : TypeInfo} (hz1 : i0.size = 258) (cs : Array Value) (h : cs.size = 258) : Instr.fill (fun i => some (i * i0.size, i0.size)) ((Array.range (1 * i0.size)).map ((Value.agg ndZ).cells[· % (Value.agg ndZ).cells.size]!)) [(0, .agg cs)] = some cs := by
  rw [hz1]
  have := Great.fill_whole (s := 258) (by omega) [.agg cs] ((Array.range (1 * 258)).map ((Value.agg ndZ).cells[· % (Value.agg ndZ).cells.size]!)) (fun v hv => by simp at hv; rw [hv]; exact h) (by simp)
  simpa [Value.cells] using this
theorem ndF_grow {nx nx' : Nat → Nat → Int} {ln wd ln' wd' : Nat → Int} {n : Nat} {l v : Int} (h1 : ∀ i, i < n → ∀ c, c < 256 → nx i c = nx' i c) (h2 : ∀ i, i < n → ln i = ln' i) (h3 : ∀ i, i < n → wd i = wd' i) (h4 : ∀ c, c < 256 → nx' n c = 0) (h5 : ln' n = l) (h6 : wd' n = v) :
    rowV (ndF nx ln wd) (n * 258) ++ (ndN l v).toList = rowV (ndF nx' ln' wd') ((n + 1) * 258) := by
  rw [show (n + 1) * 258 = n * 258 + 258 by omega, rowV_add, ndN_list]
  congr 1
  · refine rowV_congr fun j hj => ?_
    unfold ndF
    split
    · rw [h1 _ (by omega) _ (by assumption)]
    · split
      · rw [h2 _ (by omega)]
      · rw [h3 _ (by omega)]
  · refine rowV_congr fun j hj => ?_
    unfold ndF
    rw [show (n * 258 + j) % 258 = j by omega, show (n * 258 + j) / 258 = n by omega]
    split
    · rw [h4 _ (by assumption)]
    · split
      · rw [h5]
      · rw [h6]
section
variable {B sb g : Nat} {wv : Value} {n cn m : Nat} {nx : Nat → Nat → Int} {ln wd wl sh : Nat → Int} {w w5 : World}
theorem set_two {w : World} {b : Nat} {f0 f1 x : Value} {t : TypeId} (h : w.heap[b]? = some (.cells #[f0, f1] t (0, 0))) : (w.setCell ⟨b, 0, none⟩ x).heap[b]? = some (.cells #[x, f1] t (0, 0)) ∧ (w.setCell ⟨b, 1, none⟩ x).heap[b]? = some (.cells #[f0, x] t (0, 0)) := by
  simp [World.setCell, Array.getElem?_modify, h]
theorem two_cells {w : World} {b : Nat} {f0 f1 : Value} {t : TypeId} (h : w.heap[b]? = some (.cells #[f0, f1] t (0, 0))) : w.cell? ⟨b, 0, none⟩ = some f0 ∧ w.cell? ⟨b, 1, none⟩ = some f1 ∧ w.frozen? ⟨b, 0, none⟩ = false ∧ w.frozen? ⟨b, 1, none⟩ = false := by
  simp [World.cell?, World.frozen?, h]
theorem SetM.grow_node (h : SetM B sb g wv n cn m nx ln wd wl sh w) {o : Obj} {g5 cap5 : Nat} {nx' : Nat → Nat → Int} {ln' wd' : Nat → Int} {xs : List Value} (ho : w5.ownsRow B 79 258 (.slice (some ⟨g5, 0, none⟩) (n + 1) cap5) (n + 1) xs) (hxs : xs = rowV (ndF nx' ln' wd') ((n + 1) * 258)) (hg : (w.alloc o).grownBy w5 (Value.slice (some ⟨g, 0, none⟩) n cn).ownBlock) :
    w5.heap[sb]? = some (.cells #[.slice (some ⟨g, 0, none⟩) n cn, wv] 69 (0, 0)) ∧ SetM B sb g5 wv (n + 1) cap5 m nx' ln' wd' wl sh (w5.setCell ⟨sb, 0, none⟩ (.slice (some ⟨g5, 0, none⟩) (n + 1) cap5)) := by
  have hst := mr_cells_apart h.st h.nod (by decide) hg
  subst hxs
  refine ⟨hst, (set_two hst).1, mr_set ho (mr_other ho hst (by decide)) _ _, ?_, h.sB⟩
  have hw5 := mr_apart h.wrd h.nod (by decide) hg
  exact mr_set hw5 (mr_other hw5 hst (by decide)) _ _
theorem SetM.grow_word (h : SetM B sb g wv n cn m nx ln wd wl sh w) {o : Obj} {g5 cap5 : Nat} {wl' sh' : Nat → Int} {xs : List Value} (ho : w5.ownsRow B 82 2 (.slice (some ⟨g5, 0, none⟩) (m + 1) cap5) (m + 1) xs) (hxs : xs = rowV (wrF wl' sh') ((m + 1) * 2)) (hg : (w.alloc o).grownBy w5 wv.ownBlock) :
    w5.heap[sb]? = some (.cells #[.slice (some ⟨g, 0, none⟩) n cn, wv] 69 (0, 0)) ∧ SetM B sb g (.slice (some ⟨g5, 0, none⟩) (m + 1) cap5) n cn (m + 1) nx ln wd wl' sh' (w5.setCell ⟨sb, 1, none⟩ (.slice (some ⟨g5, 0, none⟩) (m + 1) cap5)) := by
  have hst := mr_cells_apart h.st h.wrd (by decide) hg
  subst hxs
  have hn5 := mr_apart h.nod h.wrd (by decide) hg
  exact ⟨hst, (set_two hst).2, mr_set hn5 (mr_other hn5 hst (by decide)) _ _, mr_set ho (mr_other ho hst (by decide)) _ _, h.sB⟩
theorem wrF_grow {wl wl' sh sh' : Nat → Int} {m : Nat} {l v : Int} (h1 : ∀ j, j < m → wl j = wl' j) (h2 : ∀ j, j < m → sh j = sh' j) (h3 : wl' m = l) (h4 : sh' m = v) : rowV (wrF wl sh) (m * 2) ++ [.int .i64 l, .int .i16 v] = rowV (wrF wl' sh') ((m + 1) * 2) := by
  rw [show (m + 1) * 2 = m * 2 + 2 by omega, rowV_add]
  congr 1
  · refine rowV_congr fun j hj => ?_
    unfold wrF
    split
    · rw [h1 _ (by omega)]
    · rw [h2 _ (by omega)]
  · simp only [rowV, List.range, List.range.loop, List.map_cons, List.map_nil]
    rw [Nat.add_zero, wrF_wl, wrF_sh, h3, h4]
end
set_option maxRecDepth 100000 in
set_option maxHeartbeats 2000000 in
theorem add_any (B sb g cn : Nat) (wv : Value) (ns W : List (List Nat)) (t : ByteArray) (w0 : World) (h : TrieM B sb g wv cn ns W w0) (htr : Mn.Tr ns) (hWn : ∀ x ∈ W, x ∈ ns) (hnew : Sums.bl t ∉ W) (h1 : 1 ≤ t.size) (h2 : t.size ≤ 256) (hlen : ns.length + 256 ≤ 32000) (hm : W.length < 64) (hB : B ≤ w0.heap.size) :
    Calls Try.prog 38 #[.pointer (some ⟨sb, 0, none⟩), .string t] w0 fun e w' => e = .returned (.tuple #[]) ∧ ∃ g' cn' wv', TrieM B sb g' wv' cn' (Mn.addP ns (Sums.bl t) t.size) (W ++ [Sums.bl t]) w' ∧ Below B w0 w' := by
  have hsl := Sums.bl_length t
  obtain ⟨T, hT⟩ : ∃ T, Sums.bl t = T := ⟨_, rfl⟩
  have HT := Hid.mk' hT
  rw [hT] at hsl hnew
  have HI := Hid.mk' (fun (i c : Nat) (hi : i < t.size) (hc : c = T.getD i 0) => idx_m t i c hi (by rw [HT.out]; exact hc))
  have HTB : Hid (∀ z ∈ T, z < 256) := by rw [← hT]; exact Sums.bl_byt t
  rw [hT]
  have HX := Hid.mk' (And.intro htr (And.intro hWn (And.intro hnew hsl)))
  have HST := Hid.mk' h
  clear h hT htr hWn hnew hsl
  go_enter Try.func38, Try.ntmps38
  go_wp2
  go_loopw [4, 9] (fun av kv wr => ∃ (k a g cn : Nat), av = .int .i16 (a : Int) ∧ kv = .int .i64 (k : Int) ∧ k ≤ t.size ∧ a = Mn.ix (Mn.addP ns T k) (T.take k) ∧ Hid (TrieM B sb g wv cn (Mn.addP ns T k) W wr ∧ Below B w0 wr)) (fun _ kv _ => t.size - (intOf kv).toNat)
  case atStart => exact ⟨0, 0, g, cn, rfl, rfl, Nat.zero_le _, by rw [List.take_zero]; exact HX.out.1.ix0.symm, ⟨HST.out, Below.refl _ _⟩⟩
  case round =>
    obtain ⟨k, a, g, cn, rfl, rfl, hk, ha, htm⟩ := hrel
    clear HST
    obtain ⟨nk, hnk⟩ : ∃ nk, Mn.addP ns T k = nk := ⟨_, rfl⟩
    rw [hnk] at ha htm
    obtain ⟨tr, tin⟩ := Mn.addP_tr HX.out.1 T k (by rw [HX.out.2.2.2]; exact hk)
    have tl := Mn.addP_len ns T k
    rw [hnk] at tr tin tl
    obtain ⟨n, hn⟩ : ∃ n, nk.length = n := ⟨_, rfl⟩
    have han : a < n := by rw [ha, ← hn]; exact Mn.ix_lt tin
    obtain ⟨s0, s1, s2, s3⟩ := htm.out.1.st0
    rw [hn] at s0 tl
    have HA := Hid.mk' (And.intro ha (And.intro hnk (And.intro tr (And.intro tin hn))))
    clear ha hnk tr tin hn
    by_cases hkt : k < t.size
    · have hktI : (k : Int) < (t.size : Int) := by omega
      obtain ⟨c, hc⟩ : ∃ c, c = T.getD k 0 := ⟨_, rfl⟩
      have hc256 : c < 256 := by
        rw [hc, List.getD_eq_getElem?_getD, List.getElem?_eq_getElem (by rw [HX.out.2.2.2]; exact hkt)]
        exact HTB.out _ (List.getElem_mem _)
      have hidx := HI.out k c hkt hc
      have htake : T.take (k + 1) = T.take k ++ [c] := by rw [hc]; exact Mn.take_snoc T k (by rw [HX.out.2.2.2]; exact hkt)
      have hraw : Mn.raw nk a c = Mn.ix nk (T.take (k + 1)) := by
        unfold Mn.raw
        rw [HA.out.1, Mn.ix_getD HA.out.2.2.2.1, htake]
      obtain ⟨c1, c2⟩ := SetM.c_nx htm.out.1 a c (by rw [HA.out.2.2.2.2]; exact han) hc256
      rw [hraw] at c1
      have HC := Hid.mk' (And.intro hc htake)
      have hanI : (a : Int) < (n : Int) := by omega
      have hcI : (c : Int) < 256 := by omega
      clear hc htake hraw
      by_cases hin : T.take (k + 1) ∈ nk
      · obtain ⟨x, hx⟩ : ∃ x, Mn.ix nk (T.take (k + 1)) = x := ⟨_, rfl⟩
        have hx0 : ((x : Int) == 0) = false := by
          have := HA.out.2.2.1.pos hin (by rw [HC.out.2]; simp)
          simp
          omega
        have hxn : x < n := by rw [← hx, ← HA.out.2.2.2.2]; exact Mn.ix_lt hin
        rw [hx] at c1
        have HXX := Hid.mk' (And.intro hx hin)
        clear hx hin
        go_wp2
        go_quiet (fail)
        go_wp2
        go_roundw
        case rel =>
          have e : Mn.addP ns T (k + 1) = nk := by
            unfold Mn.addP
            rw [HA.out.2.1, if_pos HXX.out.2]
          refine ⟨k + 1, x, g, cn, rfl, by simp, by omega, by rw [e]; exact HXX.out.1.symm, ?_⟩
          rw [e]
          exact ⟨SetM.drew htm.out.1 nq, htm.out.2.drewN' nq⟩
        case measure =>
          simp [intOf]
          omega
      · have hx := Mn.ix_not hin
        rw [hx] at c1
        have HXX := Hid.mk' hin
        clear hx hin
        have hnw : IntKind.i16.wrap (n : Int) = (n : Int) := by
          simp only [IntKind.wrap, IntKind.bits, IntKind.signed]
          simp
          omega
        go_wp2
        go_quiet (fail)
        go_upto_region 7 with fail
        go_cut [6] (fun nv wc => nv = .int .i16 (n : Int) ∧ Hid (∃ j, wc = (wr.drewN j).setCell ⟨g, a * 258 + c, none⟩ (.int .i16 (n : Int))))
        case first =>
          have t0 : (wr.drewN nq).cell? ⟨sb, 0, none⟩ = some (.slice (some ⟨g, 0, none⟩) n cn) := s0
          have t1 : (wr.drewN nq).cell? ⟨g, a * 258 + c, none⟩ = some (.int .i16 0) := c1
          have t2 : (wr.drewN nq).frozen? ⟨g, a * 258 + c, none⟩ = false := c2
          go_region
          all_goals
            go_wp2_with fail
            go_meet
            exact ⟨rfl, ⟨nq + 1, rfl⟩⟩
        case rest =>
          obtain ⟨rfl, hwc⟩ := hcut
          rename World => w4
          have hs4 : SetM B sb g wv n cn W.length (fun x y => if x = a ∧ y = c then (n : Int) else (Mn.raw nk x y : Int)) (fun i => ((nk.getD i []).length : Int)) (fun i => Mn.ixw W (nk.getD i [])) (fun j => ((W.getD j []).length : Int)) (fun _ => -1) w4 ∧ Below B w0 w4 := by
            obtain ⟨j, rfl⟩ := hwc.out
            have h9 : SetM B sb g wv n cn W.length (fun i c => (Mn.raw nk i c : Int)) (fun i => ((nk.getD i []).length : Int)) (fun i => Mn.ixw W (nk.getD i [])) (fun j => ((W.getD j []).length : Int)) (fun _ => -1) wr := by
              have := htm.out.1
              unfold TrieM at this
              rw [HA.out.2.2.2.2] at this
              exact this
            exact ⟨(h9.drew j).put_nx a c han hc256 _, mb_set (htm.out.2.drewN' j) h9.gB.1 _ _⟩
          obtain ⟨s0, s1, s2, s3⟩ := hs4.1.st0
          have HS4 := Hid.mk' hs4
          have hsz4 : B ≤ w4.heap.size := Nat.le_trans hB hs4.2.size
          have hs4l : sb < w4.heap.size := hs4.1.lt
          clear hs4 hwc htm c1 c2
          have HGR : Hid (rowV (ndF (fun x y => if x = a ∧ y = c then (n : Int) else (Mn.raw nk x y : Int)) (fun i => ((nk.getD i []).length : Int)) (fun i => Mn.ixw W (nk.getD i []))) (n * 258) ++ (ndN ((k : Int) + 1) (-1)).toList = rowV (ndF (fun i c => (Mn.raw (nk ++ [T.take (k + 1)]) i c : Int)) (fun i => (((nk ++ [T.take (k + 1)]).getD i []).length : Int)) (fun i => Mn.ixw W ((nk ++ [T.take (k + 1)]).getD i []))) ((n + 1) * 258)) := by
            have ha2 : T.take (k + 1) = nk.getD a [] ++ [c] := by rw [HA.out.1, Mn.ix_getD HA.out.2.2.2.1]; exact HC.out.2
            have hnl := HA.out.2.2.2.2
            have hnin := HXX.out
            refine ndF_grow (fun i hi c2 hc2 => ?_) (fun i hi => ?_) (fun i hi => ?_) (fun c2 hc2 => ?_) ?_ ?_
            · rw [ha2] at hnin ⊢
              rw [Mn.raw_snoc HA.out.2.2.1 (by omega) hnin (by omega)]
              split
              · rw [hnl]
              · rfl
            · rw [Mn.getD_app (by omega)]
            · rw [Mn.getD_app (by omega)]
            · rw [← hnl, Mn.raw_new HA.out.2.2.1 hnin]
              rfl
            · rw [← hnl, Mn.getD_last, List.length_take, HX.out.2.2.2]
              omega
            · rw [← hnl, Mn.getD_last]
              refine Mn.ixw_not fun hw => hnin ?_
              have := HX.out.2.1 _ hw
              rw [← HA.out.2.1, Mn.addP_mem]
              exact .inl this
          have hzr := zero_node
          obtain ⟨Z, hZ⟩ : ∃ Z, ndZ = Z := ⟨_, rfl⟩
          have hZs : Z.size = 258 := by rw [← hZ]; exact ndZ_size
          rw [hZ] at hzr
          have HZ := Hid.mk' hZ
          clear hZ
          have hbs := fun w => bs_node ((Z.setIfInBounds 256 (.int .i64 ((k : Int) + 1))).setIfInBounds 257 (.int .i16 (-1))) (by simp [hZs]) w
          obtain ⟨i0, hi, hz0, hz1, hz2⟩ := info_parts infoN
          have hnews : ((Z.setIfInBounds 256 (.int .i64 ((k : Int) + 1))).setIfInBounds 257 (.int .i16 (-1))) = ndN ((k : Int) + 1) (-1) := by
            unfold ndN
            rw [HZ.out]
          obtain ⟨cs, hcs⟩ : ∃ cs, ((Z.setIfInBounds 256 (.int .i64 ((k : Int) + 1))).setIfInBounds 257 (.int .i16 (-1))) = cs := ⟨_, rfl⟩
          have HCS := Hid.mk' (hcs.symm.trans hnews)
          have hcsz : cs.size = 258 := by rw [← hcs]; simp [hZs]
          rw [hcs] at hbs
          clear hnews hbs
          go_wp2_with (first | (refine wpList_buildSlice rfl 66 79 1 _ rfl cs i0 (.agg ndZ) Try.underlying66 hi hz0 (by rw [hz1]; decide) (by rw [hz1]; decide) (by rw [Array.toList_map]; exact fill_node hz1 cs hcsz) ?_) | (at_builtin; refine wpList_append_lies _ rfl _ _ 66 rfl B 79 i0 (.agg ndZ) 258 528 Try.underlying66 hi hz0 hz1 hz2 ndZ_size (by decide) (.slice (some ⟨g, 0, none⟩) n cn) n _ rfl (by exact HS4.out.1.nod.alloc _) ⟨w4.heap.size, 0, none⟩ 1 1 cs.toList rfl (by rw [HCS.out, Array.length_toList, ndN_size]) (World.news_of_block (by exact heap_alloc_new w4 _)) (by rw [HCS.out]; exact ndN_one _ _) (by omega) (by unfold maxLen; omega) (by omega) (by simp; omega) (w4.heap.size + 1) (by simp) ?_; intro g5 cap5 w5 hown5 hgrow5 hat5 hlt5; have hgr := HS4.out.1.grow_node (nx' := fun i c => (Mn.raw (nk ++ [T.take (k + 1)]) i c : Int)) (ln' := fun i => (((nk ++ [T.take (k + 1)]).getD i []).length : Int)) (wd' := fun i => Mn.ixw W ((nk ++ [T.take (k + 1)]).getD i [])) hown5 (by rw [HCS.out]; exact HGR.out) hgrow5; obtain ⟨r0, r1, r2, r3⟩ := two_cells hgr.1; have HG5 := Hid.mk' hgr.2; have HB5 := Hid.mk' (((HS4.out.2.alloc hsz4 _).grown hgrow5 (by simp; omega) (fun q hq => by simp [Value.ownBlock] at hq; have := HS4.out.1.gB.1; omega))); clear hgr hown5 hgrow5 hat5 hlt5) | fail)
          go_roundw
          case rel =>
            have e : Mn.addP ns T (k + 1) = nk ++ [T.take (k + 1)] := by
              unfold Mn.addP
              rw [HA.out.2.1, if_neg HXX.out]
            refine ⟨k + 1, n, g5, cap5, rfl, by simp, by omega, ?_, ?_⟩
            · rw [e, Mn.ix_snoc, if_neg HXX.out, if_pos rfl, HA.out.2.2.2.2]
            · rw [e]
              have h9 : SetM B sb g5 wv (nk ++ [T.take (k + 1)]).length cap5 W.length (fun i c => (Mn.raw (nk ++ [T.take (k + 1)]) i c : Int)) (fun i => (((nk ++ [T.take (k + 1)]).getD i []).length : Int)) (fun i => Mn.ixw W ((nk ++ [T.take (k + 1)]).getD i [])) (fun j => ((W.getD j []).length : Int)) (fun _ => -1) (w5.setCell ⟨sb, 0, none⟩ (.slice (some ⟨g5, 0, none⟩) (n + 1) cap5)) := by
                rw [List.length_append, List.length_singleton, HA.out.2.2.2.2]
                exact HG5.out
              exact ⟨h9, mb_set HB5.out HG5.out.sB _ _⟩
          case measure =>
            simp [intOf]
            omega
    · have hkt2 : k = t.size := by omega
      have hktI : ¬ (k : Int) < (t.size : Int) := by omega
      have h9 : SetM B sb g wv n cn W.length (fun i c => (Mn.raw nk i c : Int)) (fun i => ((nk.getD i []).length : Int)) (fun i => Mn.ixw W (nk.getD i [])) (fun j => ((W.getD j []).length : Int)) (fun _ => -1) wr := by
        have := htm.out.1
        unfold TrieM at this
        rw [HA.out.2.2.2.2] at this
        exact this
      obtain ⟨m, hmm⟩ : ∃ m, W.length = m := ⟨_, rfl⟩
      obtain ⟨c1, c2⟩ := h9.c_wd a han
      obtain ⟨x, hx⟩ : ∃ x, Mn.ixw W (nk.getD a []) = x := ⟨_, rfl⟩
      rw [hx] at c1
      obtain ⟨wb, cw, rfl⟩ := mr_shape h9.wrd
      rw [hmm] at h9 s1 hm
      have HH9 := Hid.mk' h9
      have hanI : (a : Int) < (n : Int) := by omega
      have hmw : IntKind.i16.wrap (m : Int) = (m : Int) := by
        simp only [IntKind.wrap, IntKind.bits, IntKind.signed]
        simp
        omega
      have HM := Hid.mk' (And.intro hmm hkt2)
      rw [hmm]
      clear h9 hmm hx hkt2
      go_upto_region 11 with fail
      go_cut [4] (fun av wc => Hid (∃ j, wc = (wr.drewN j).setCell ⟨g, a * 258 + 257, none⟩ (.int .i16 (m : Int))))
      case first =>
        go_region
        all_goals
          go_wp2_with fail
          go_meet
          exact ⟨1, rfl⟩
      case rest =>
        rename World => w4
        have hs4 : SetM B sb g (.slice wb m cw) n cn m (fun i c => (Mn.raw nk i c : Int)) (fun i => ((nk.getD i []).length : Int)) (fun i => if i = a then (m : Int) else Mn.ixw W (nk.getD i [])) (fun j => ((W.getD j []).length : Int)) (fun _ => -1) w4 ∧ Below B w0 w4 := by
          obtain ⟨j, rfl⟩ := hcut.out
          exact ⟨(HH9.out.drew j).put_wd a han _, mb_set (htm.out.2.drewN' j) HH9.out.gB.1 _ _⟩
        obtain ⟨s0, s1, s2, s3⟩ := hs4.1.st0
        have HS4 := Hid.mk' hs4
        have hsz4 : B ≤ w4.heap.size := Nat.le_trans hB hs4.2.size
        have hs4l : sb < w4.heap.size := hs4.1.lt
        obtain ⟨i0, hi, hz0, hz1, hz2⟩ := info_parts infoW
        clear hs4 hcut htm c1 c2
        have HWR : Hid (rowV (wrF (fun j => ((W.getD j []).length : Int)) (fun _ => -1)) (m * 2) ++ [.int .i64 (t.size : Int), .int .i16 (-1)] = rowV (wrF (fun j => (((W ++ [T]).getD j []).length : Int)) (fun _ => -1)) ((m + 1) * 2)) := by
          have hml := HM.out.1
          refine wrF_grow (fun j hj => ?_) (fun j hj => rfl) ?_ rfl
          · rw [Mn.getD_app (by omega)]
          · rw [← hml, Mn.getD_last, HX.out.2.2.2]
        go_wp2_with (first | (at_builtin; refine wpList_append_lies _ rfl _ _ 67 rfl B 82 i0 (.agg #[.int .i64 0, .int .i16 0]) 2 16 Try.underlying67 hi hz0 hz1 hz2 rfl (by decide) (.slice wb m cw) m _ rfl (by exact HS4.out.1.wrd.alloc _) ⟨w4.heap.size, 0, none⟩ 1 1 [.int .i64 (t.size : Int), .int .i16 (-1)] rfl rfl (World.news_of_block (cs := #[.int .i64 (t.size : Int), .int .i16 (-1)]) (by exact heap_alloc_new w4 _)) (by intro u hu; simp at hu; rcases hu with rfl | rfl <;> rfl) (by omega) (by unfold maxLen; omega) (by omega) (by simp; omega) (w4.heap.size + 1) (by simp) ?_; intro g5 cap5 w5 hown5 hgrow5 hat5 hlt5; have hgr := HS4.out.1.grow_word (wl' := fun j => (((W ++ [T]).getD j []).length : Int)) (sh' := fun _ => -1) hown5 HWR.out hgrow5; obtain ⟨r0, r1, r2, r3⟩ := two_cells hgr.1; have HG5 := Hid.mk' hgr.2; have HB5 := Hid.mk' (((HS4.out.2.alloc hsz4 _).grown hgrow5 (by simp; omega) (fun q hq => by have := (HS4.out.1.wrd.lt q hq).1; omega))); clear hgr hown5 hgrow5 hat5 hlt5) | fail)
        go_end0
        refine ⟨rfl, ⟨g, cn, .slice (some ⟨g5, 0, none⟩) (m + 1) cap5, ?_⟩, mb_set HB5.out HG5.out.sB _ _⟩
        have hall : Mn.addP ns T t.size = nk := by rw [← HM.out.2]; exact HA.out.2.1
        unfold TrieM
        rw [hall, HA.out.2.2.2.2, List.length_append, List.length_singleton, HM.out.1]
        refine HG5.out.congr (fun i c _ _ => rfl) (fun i _ => rfl) (fun i hi => ?_) (fun j _ => rfl) (fun j _ => rfl)
        rw [Mn.ixw_snoc, HM.out.1]
        have hT : T.take t.size = T := by rw [← HX.out.2.2.2]; exact List.take_length
        have hTa : T ∈ nk ∧ a = Mn.ix nk T := by
          have h1 := HA.out.2.2.2.1
          have h2 := HA.out.1
          rw [HM.out.2, hT] at h1 h2
          exact ⟨h1, h2⟩
        have hnod := HA.out.2.2.1.nod
        have hnl := HA.out.2.2.2.2
        by_cases e : i = a
        · rw [if_pos e]
          have : nk.getD i [] = T := by rw [e, hTa.2, Mn.ix_getD hTa.1]
          rw [this, if_neg HX.out.2.2.1, if_pos rfl]
        · rw [if_neg e]
          by_cases hw : nk.getD i [] ∈ W
          · rw [if_pos hw]
          · rw [if_neg hw, Mn.ixw_not hw, if_neg]
            intro h
            apply e
            rw [hTa.2, ← h, Mn.ix_self hnod (by omega)]
end Go.Proofs.Ytlbfnchjbpioeaa
