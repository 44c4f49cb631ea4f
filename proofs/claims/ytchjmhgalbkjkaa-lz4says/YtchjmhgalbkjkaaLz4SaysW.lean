/-
  Lz4Says answers true: a packed text that is made of pieces says what they say. Conditions: what is handed in is within reach.
-/
import Derived.Test.YtchjmhgalbkjkaaSayB
import Derived.Test.YtchjmhgalbkjkaaBytC
namespace Go.Proofs.Ytchjmhgalbkjkaa
open Go.RowKit Go.Shelf
set_option linter.unusedVariables false
set_option linter.unusedSimpArgs false
attribute [local go_sem] Oper.semAt_some
theorem str_eq (a : ByteArray) (w : World) : (binOp .eql 9 (.string a) (.string a)).run Try.prog w = .ok (.bool true) w := by simp [go_sem]
theorem str_neq (a : ByteArray) (w : World) : (binOp .neq 9 (.string a) (.string a)).run Try.prog w = .ok (.bool false) w := by simp [go_sem]
theorem str_eq0 (t : ByteArray) (h : t ≠ ⟨#[]⟩) (w : World) : (binOp .eql 9 (.string t) (.string ⟨#[]⟩)).run Try.prog w = .ok (.bool false) w := by
  have hne : ¬ t.toList = (⟨#[]⟩ : ByteArray).toList := by
    intro e
    rw [ByteArray.toList_eq, ByteArray.toList_eq] at e
    exact h (ByteArray.ext (Array.toList_inj.1 e))
  have e0 : (⟨#[]⟩ : ByteArray).toList = [] := by rw [ByteArray.toList_eq]
  rw [e0] at hne
  simp [go_sem]
  exact hne
theorem seq_same (t : ByteArray) (o l : Nat) (w : World) : (binOp .neq 39 (.agg #[.string t, .int .i64 (o : Int), .int .i64 (l : Int)]) (.agg #[.string t, .int .i64 (o : Int), .int .i64 (l : Int)])).run Try.prog w = .ok (.bool false) w := by
  simp [go_sem]
theorem end_facts {b D : Nat} {w V : World} {rv : Value} (hres : Boxed V b 4 rv) (hbel : Below b w V) (hD : V.heap[D]? = some (Obj.deferred (some []))) (hbD : b ≤ D) : (V.setCell ⟨b, 0, none⟩ (.bool true)).heap[D]? = some (.deferred (some [])) ∧ Boxed ((V.setCell ⟨b, 0, none⟩ (.bool true)).putObj D (.deferred none)) b 4 (.bool true) ∧ Below b w ((V.setCell ⟨b, 0, none⟩ (.bool true)).putObj D (.deferred none)) := by
  have hne : D ≠ b := by
    intro e
    subst e
    have h3 : V.heap[D]? = some (.cells #[rv] 4 (0, 0)) := hres
    rw [h3] at hD
    cases hD
  have e1 := (KeepsOthers.setCell V ⟨b, 0, none⟩ (.bool true)).same D _ hD rfl
  have hr1 := hres.set (.bool true)
  have hbl := hbel.setCell (p := ⟨b, 0, none⟩) (Nat.le_refl b) (.bool true)
  exact ⟨e1, (World.putObj_heap_other (by omega)).trans hr1, ⟨hbl.os, hbl.tape, hbl.output, by simpa using hbl.size, fun k hk => (World.putObj_heap_other (by omega)).trans (hbl.block k hk)⟩⟩
set_option maxRecDepth 100000 in
set_option maxHeartbeats 4000000 in
theorem lz4Says_any (bef : ByteArray) (p : Option Addr) (len cap : Nat) (K : Nat → ByteArray) (B M : Nat → Int) (en : ByteArray) (cut : Int) (w : World) (hbef : bef.size ≤ 140737488351232) (hlen : len ≤ 140737488351232) (hcap : len ≤ cap)
    (hz : ∀ i, i < len → (K i).size ≤ 140737488351232 ∧ (-9223372036854775808 ≤ B i ∧ B i ≤ 9223372036854775807) ∧ (-9223372036854775808 ≤ M i ∧ M i ≤ 9223372036854775807))
    (hc : ∀ i, i < len → ∃ g off, p = some ⟨g, off, none⟩ ∧ w.cell? ⟨g, off + i * 3, none⟩ = some (.string (K i)) ∧ w.cell? ⟨g, off + i * 3 + 1, none⟩ = some (.int .i64 (B i)) ∧ w.cell? ⟨g, off + i * 3 + 2, none⟩ = some (.int .i64 (M i)))
    (hen : en.size ≤ 140737488351232) (h0 : -9223372036854775808 ≤ cut) (h1 : cut ≤ 9223372036854775807) :
    Calls Try.prog 4 #[.string bef, .slice p len cap, .string en, .int .i64 cut] w fun e w' => e = .returned (.bool true) ∧ Below w.heap.size w w' := by
  have hst := stL_steps w p len K B M hz hc
  clear hz hc
  obtain ⟨L, hL⟩ : ∃ L, stL K B M len = L := ⟨_, rfl⟩
  have hLl : L.length = len := by rw [← hL, stL_length]
  rw [hL] at hst
  clear hL
  obtain ⟨E, hE⟩ : ∃ E, endOf en = E := ⟨_, rfl⟩
  have hEs : E.size ≤ 100000 := by rw [← hE, endOf, ByteArray.size_extract]; omega
  obtain ⟨A, hA⟩ : ∃ A, L.take 60 = A := ⟨_, rfl⟩
  have hAl : A.length ≤ 60 := by rw [← hA, List.length_take]; omega
  obtain ⟨PW, hPW⟩ : ∃ PW, packT (mkP (Sums.bl bef) A) E = PW := ⟨_, rfl⟩
  obtain ⟨SW, hSW⟩ : ∃ SW, saidT bef A E = SW := ⟨_, rfl⟩
  obtain ⟨n, hn⟩ : ∃ n, SW.size = n := ⟨_, rfl⟩
  have hnt : Lz.tot (mkP (Sums.bl bef) A) + E.size = n := by rw [← hn, ← hSW, saidT_size]
  have t1 := mkP_tot A (Sums.bl bef)
  have hn4 : n ≤ 1000000 := by omega
  have pW := pack_size A (Sums.bl bef) E hEs
  rw [hPW] at pW
  have hpw : PW.size ≤ 1000000 := by omega
  have hpw1 : 1 ≤ PW.size := by omega
  obtain ⟨el, hel⟩ : ∃ el, (Lz.enc (mkP (Sums.bl bef) A)).length = el := ⟨_, rfl⟩
  obtain ⟨pts, hpts⟩ : ∃ pts, ptsP 0 (mkP (Sums.bl bef) A) ++ [(el, E, 0, 0)] = pts := ⟨_, rfl⟩
  obtain ⟨N, hN⟩ : ∃ N, A.length + 1 = N := ⟨_, rfl⟩
  have hptl : pts.length = N := by rw [← hpts, List.length_append, ptsP_length, mkP_length]; exact hN
  have HMW : Hid (∀ W, Steps W p L → Calls Try.prog 12 #[.string bef, .slice p len cap, .string en] W fun e w' => ∃ lv av, e = .returned (.agg #[.string PW, .string SW, lv, av]) ∧ w'.ownsRow W.heap.size 39 3 lv N (pqv pts) ∧ w'.ownsRow W.heap.size 3 1 av N (plv pts) ∧ Below W.heap.size W w') := by
    intro W hW
    have hm := made_any bef en p cap L W (by omega) (by omega) (by omega) hW
    rw [hLl] at hm
    refine hm.mono ?_
    rintro e w' ⟨lv, av, ps, rfl, rfl, hr1, hr2, hb⟩
    rw [hA, lastPt, hE, hel, hpts, mkP_length, hN] at hr1 hr2
    refine ⟨lv, av, ?_, hr1, hr2, hb⟩
    rw [hA, hE, ← hPW, ← hSW]
    rfl
  have x1 := exp_made bef A E hEs n (by omega)
  rw [hPW, hSW] at x1
  have HX1 := Hid.mk' (fun W => expandOn_all bef PW (n : Int) W (by omega) (by omega) (by omega) (by omega))
  rw [x1] at HX1
  have HSH := Hid.mk' shown_any
  have HST := Hid.mk' hst
  have HSPEC := Hid.mk' (And.intro hE (And.intro hA (And.intro hPW (And.intro hSW (And.intro hel (And.intro hpts (And.intro hnt hN)))))))
  have hN0 : 0 < N := by omega
  have hN61 : N ≤ 61 := by omega
  have hnf := nil_func
  have hne0 := str_neq
  clear hst x1 t1 pW hE hA hPW hSW hel hpts hnt hN
  refine (callsIn_wide (n := 6)).1 ?_
  obtain ⟨b, hb⟩ : ∃ b, w.heap.size = b := ⟨_, rfl⟩
  refine callsIn_of_wp_marks Try.func4 rfl trivial ?_ rfl
  simp only [Try.ntmps4, List.size_toArray, List.length_cons, List.length_nil, Nat.reduceAdd, Nat.reduceSub, Array.replicate_succ, Array.replicate_zero, List.push_toArray, List.append_toArray, List.nil_append, List.cons_append]
  iterate 300 (first | go_values | gi_big_skip | (refine skip_call (Eq.refl false) (Eq.refl none) (by kernel_rfl) ?_) | gi_guarded | gi_step | gi_upon | go_simp | skip)
  obtain ⟨W0, hW0⟩ : ∃ W0, w.alloc (.cells #[.bool false] 4) = W0 := ⟨_, rfl⟩
  have hr0 : Boxed W0 b 4 (.bool false) := by rw [← hW0, ← hb]; exact Boxed.new w _ _
  have hB0 : Below b w W0 := by rw [← hW0]; exact (Below.refl b w).alloc (by omega) _
  rw [hW0]
  clear hW0
  refine ⟨trivial, ?_⟩
  refine (callsIn_wide.2 (HSH.out _)).mono ?_
  rintro e w1 ⟨rfl, hb1⟩
  have hr1 : Boxed w1 b 4 (.bool false) := bel_box hb1 hr0
  have hB1 : Below b w w1 := hB0.trans (hb1.mono (Nat.le_of_lt hr0.lt))
  have HS1 := Hid.mk' (HST.out.below hB1 (by omega))
  clear hr0 hB0 hb1
  have HR1 := Hid.mk' hr1
  have HB1 := Hid.mk' hB1
  clear hr1 hB1
  iterate 300 (first | go_values | gi_big_skip | (refine skip_call (Eq.refl false) (Eq.refl none) (by kernel_rfl) ?_) | gi_guarded | gi_step | gi_upon | go_simp | skip)
  refine ⟨trivial, ?_⟩
  refine (callsIn_wide.2 (HMW.out _ HS1.out)).mono ?_
  rintro e w3 ⟨lv, av, rfl, hl3, ha3, hb3⟩
  obtain ⟨ga, gl, lc, ac, rfl, rfl, hsy⟩ := made_sy (P1 := PW) (S1 := SW) hN0 HR1.out HB1.out hb3 hl3 ha3
  obtain ⟨c, hcc⟩ : ∃ c, w3.heap.size = c := ⟨_, rfl⟩
  rw [hcc] at hsy
  obtain ⟨W4, hW4⟩ : ∃ W4, w3.alloc (.cells #[.string PW, .string SW, .slice (some ⟨gl, 0, none⟩) N lc, .slice (some ⟨ga, 0, none⟩) N ac] 31) = W4 := ⟨_, rfl⟩
  rw [hW4] at hsy
  obtain ⟨c0, c1, c2, c3⟩ := hsy.cells
  have HSY := Hid.mk' hsy
  clear hl3 ha3 hb3 HS1 HR1 HB1 hsy
  iterate 300 (first | go_values | gi_big_skip | (refine skip_call (Eq.refl false) (Eq.refl none) (by kernel_rfl) ?_) | gi_guarded | gi_step | gi_upon | go_simp | skip)
  clear hW4
  refine ⟨trivial, ?_⟩
  refine (callsIn_wide.2 (HX1.out _)).mono ?_
  rintro e w5 ⟨rfl, hb5⟩
  have hsy := HSY.out.below hb5
  clear c0 c1 c2 c3 hb5 HSY
  obtain ⟨c0, c1, c2, c3⟩ := hsy.cells
  have HSY := Hid.mk' hsy
  clear hsy
  have hst0 := str_neq SW
  iterate 300 (first | (with_reducible refine stop_reg 7 ?_) | go_values | gi_big_skip | (refine skip_call (Eq.refl false) (Eq.refl none) (by kernel_rfl) ?_) | gi_guarded | gi_step | gi_upon | go_simp | skip)
  rename_i K1 hK1 K0 hK0
  have HK1 := Hid.mk' hK1
  have HK0 := Hid.mk' hK0
  clear hK1 hK0
  have T7 : ∀ (f : Nat → Value) (W : World), Sy b w c ga gl N lc ac PW SW pts (.bool false) W → K1 ({ tmps := #[.string bef, .slice p len cap, .string en, .int .i64 cut, undef, undef, undef, undef, .pointer (some ⟨b, 0, none⟩), .bool true, .pointer (some ⟨c, 0, none⟩), .int .i64 (n : Int), .string SW, .int .i64 0, .int .i64 0, f 15, f 16, f 17, undef, undef, undef, undef, undef, undef, undef, undef, undef, undef, undef, undef, .bool true, .string bef, .slice p len cap, .string en, .agg #[.string PW, .string SW, .slice (some ⟨gl, 0, none⟩) N lc, .slice (some ⟨ga, 0, none⟩) N ac], .pointer (some ⟨c, 1, none⟩), .string SW, .int .i64 (n : Int), tup3 SW 0 0, .string bef, .pointer (some ⟨c, 0, none⟩), .string PW, .int .i64 (n : Int), tup3 SW 0 0, .string SW, .int .i64 0, .int .i64 0, .bool true, .bool false, .bool false, .string SW, .pointer (some ⟨c, 1, none⟩), .string SW, .bool false, .bool false, .bool false, .int .i64 0, .bool false, .bool false, .bool false, .int .i64 0, .bool false, .bool false, f 63, f 64, f 65, f 66, f 67, f 68, f 69, f 70, f 71, f 72, f 73, f 74, f 75, f 76, f 77, f 78, f 79, f 80, f 81, f 82, f 83, f 84, f 85, f 86, f 87, f 88, f 89, f 90, f 91, f 92, f 93, f 94, f 95, f 96, undef, undef, undef, undef, undef, undef, undef, undef, undef, undef, undef, undef, undef, undef, undef, undef, undef, undef, undef, undef, undef, undef, undef, undef, undef, undef, undef, undef, undef, undef, undef, undef, undef, undef, undef, undef, undef, undef, undef, undef, undef, undef, undef, undef, undef, undef, undef, undef, undef, undef, undef, undef, undef, undef, undef, undef, undef, undef, undef, undef, undef, undef, undef, undef, undef, undef, undef, undef, undef, undef, undef, undef, undef, undef, undef, undef, undef, undef, undef, undef, undef, undef, undef, undef, undef, undef, undef, undef, undef, undef, undef, undef, undef, undef, undef, undef, undef, undef, undef, undef, undef, undef, undef, undef, undef, undef, undef, undef, undef, undef, undef, undef, undef, undef], defers := [] }) W := by
    intro f W hsy
    refine HK1.out _ _ ?_
    clear c0 c1 c2 c3 HSY HK0
    have HSY := Hid.mk' hsy
    obtain ⟨c0, c1, c2, c3⟩ := hsy.cells
    clear hsy
    iterate 300 (first | (with_reducible refine stop_reg 11 ?_) | go_values | gi_big_skip | (refine skip_call (Eq.refl false) (Eq.refl none) (by kernel_rfl) ?_) | gi_guarded | gi_step | gi_upon | go_simp | skip)
    rename_i K3 hK3 K2 hK2
    have HK3 := Hid.mk' hK3
    have HK2 := Hid.mk' hK2
    clear hK3 hK2
    have T11 : ∀ (f : Nat → Value) (ds : List Deferred) (W : World), Sy b w c ga gl N lc ac PW SW pts (.bool false) W → (ds = [] ∨ ∃ D, ds = [{ target := .collected D, args := #[] }] ∧ W.heap[D]? = some (Obj.deferred (some [])) ∧ b ≤ D) → K3 ({ tmps := #[.string bef, .slice p len cap, .string en, .int .i64 cut, undef, undef, undef, undef, .pointer (some ⟨b, 0, none⟩), .bool true, .pointer (some ⟨c, 0, none⟩), .int .i64 (n : Int), .string SW, .int .i64 0, .int .i64 0, f 15, f 16, f 17, f 18, f 19, f 20, f 21, undef, undef, undef, undef, undef, undef, undef, undef, .bool true, .string bef, .slice p len cap, .string en, .agg #[.string PW, .string SW, .slice (some ⟨gl, 0, none⟩) N lc, .slice (some ⟨ga, 0, none⟩) N ac], .pointer (some ⟨c, 1, none⟩), .string SW, .int .i64 (n : Int), tup3 SW 0 0, .string bef, .pointer (some ⟨c, 0, none⟩), .string PW, .int .i64 (n : Int), tup3 SW 0 0, .string SW, .int .i64 0, .int .i64 0, .bool true, .bool false, .bool false, .string SW, .pointer (some ⟨c, 1, none⟩), .string SW, .bool false, .bool false, .bool false, .int .i64 0, .bool false, .bool false, .bool false, .int .i64 0, .bool false, .bool false, f 63, f 64, f 65, f 66, f 67, f 68, f 69, f 70, f 71, f 72, f 73, f 74, f 75, f 76, f 77, f 78, f 79, f 80, f 81, f 82, f 83, f 84, f 85, f 86, f 87, f 88, f 89, f 90, f 91, f 92, f 93, f 94, f 95, f 96, f 97, f 98, f 99, f 100, f 101, f 102, f 103, f 104, f 105, f 106, f 107, f 108, f 109, f 110, f 111, f 112, f 113, f 114, f 115, f 116, f 117, f 118, f 119, f 120, f 121, f 122, f 123, f 124, f 125, f 126, f 127, f 128, f 129, f 130, f 131, f 132, f 133, f 134, f 135, f 136, undef, undef, undef, undef, undef, undef, undef, undef, undef, undef, undef, undef, undef, undef, undef, undef, undef, undef, undef, undef, undef, undef, undef, undef, undef, undef, undef, undef, undef, undef, undef, undef, undef, undef, undef, undef, undef, undef, undef, undef, undef, undef, undef, undef, undef, undef, undef, undef, undef, undef, undef, undef, undef, undef, undef, undef, undef, undef, undef, undef, undef, undef, undef, undef, undef, undef, undef, undef, undef, undef, undef, undef, undef, undef], defers := ds }) W := by
      intro f ds W hsy hds
      refine HK3.out _ _ ?_
      clear c0 c1 c2 c3 HSY HK2
      have HSY := Hid.mk' hsy
      have HDS := Hid.mk' hds
      obtain ⟨c0, c1, c2, c3⟩ := hsy.cells
      obtain ⟨i, hi⟩ : ∃ i, pickN cut (N : Int) = i := ⟨_, rfl⟩
      have hiN : i < N := by have := pickN_lt cut (N : Int) (by omega); omega
      have HPC := Hid.mk' (fun W => pick_det cut (N : Int) W (by omega) (by omega) h0 h1)
      rw [hi] at HPC
      obtain ⟨x, hx⟩ : ∃ x, pts[i]? = some x := ⟨_, List.getElem?_eq_getElem (by omega)⟩
      obtain ⟨s1, s2, s3, s4, s5, s6, s7, s8⟩ := HSPEC.out
      have hxo := exp_open_at bef A E hEs n el s7 s5 i x (by rw [s6]; exact hx)
      rw [s3] at hxo
      obtain ⟨tk, htk⟩ : ∃ tk, x.1 = tk := ⟨_, rfl⟩
      rw [htk] at hxo
      obtain ⟨PC, hPC⟩ : ∃ PC, PW.extract 0 tk = PC := ⟨_, rfl⟩
      rw [hPC] at hxo
      have HX6 := Hid.mk' (fun W => expandOn_all bef PC (n : Int) W (by rw [← hPC, ByteArray.size_extract]; omega) (by omega) (by omega) (by omega))
      rw [hxo.1] at HX6
      have htks := hxo.2
      have cat : ∀ {X : World}, Sy b w c ga gl N lc ac PW SW pts (.bool false) X → X.cell? ⟨ga, i, none⟩ = some (.int .i64 (tk : Int)) := fun h => by rw [← htk]; exact h.at_ hx
      have HAT := Hid.mk' (fun X h => @cat X h)
      clear hxo hx cat hsy hds s1 s2 s3 s4 s5 s6 s7 s8 hi
      iterate 300 (first | go_values | gi_big_skip | (refine skip_call (Eq.refl false) (Eq.refl none) (by kernel_rfl) ?_) | gi_guarded | gi_step | gi_upon | go_simp | skip)
      refine ⟨trivial, ?_⟩
      refine (callsIn_wide.2 (HPC.out _)).mono ?_
      rintro e w6 ⟨rfl, rfl⟩
      iterate 300 (first | go_values | gi_big_skip | (refine skip_call (Eq.refl false) (Eq.refl none) (by kernel_rfl) ?_) | gi_guarded | gi_step | gi_upon | go_simp | skip)
      have hiI : (i : Int) < (N : Int) := by omega
      have htkI : (tk : Int) ≤ (PW.size : Int) := by omega
      rename_i K4 hK4
      have HK4 := Hid.mk' hK4
      clear hK4
      refine region_kept (by kernel_rfl) (fun k => (#[.string bef, .pointer (some ⟨c, 0, none⟩), .string PW, .pointer (some ⟨c, 3, none⟩), .slice (some ⟨ga, 0, none⟩) N ac, .int .i64 (i : Int), .pointer (some ⟨ga, i, none⟩), .int .i64 (tk : Int), .string PC, .int .i64 (n : Int), tup3 ⟨#[]⟩ 30 tk, tup3 ⟨#[]⟩ 30 tk, .string ⟨#[]⟩, .int .i64 30, .int .i64 (tk : Int), .string ⟨#[]⟩, .int .i64 30, .int .i64 (tk : Int)] : Array Value).getD k undef) (fun u => { tmps := #[.string bef, .slice p len cap, .string en, .int .i64 cut, undef, undef, undef, undef, .pointer (some ⟨b, 0, none⟩), .bool true, .pointer (some ⟨c, 0, none⟩), .int .i64 (n : Int), .string SW, .int .i64 0, .int .i64 0, f 15, f 16, f 17, f 18, f 19, f 20, f 21, .int .i64 (i : Int), u 15, u 16, u 17, undef, undef, undef, undef, .bool true, .string bef, .slice p len cap, .string en, .agg #[.string PW, .string SW, .slice (some ⟨gl, 0, none⟩) N lc, .slice (some ⟨ga, 0, none⟩) N ac], .pointer (some ⟨c, 1, none⟩), .string SW, .int .i64 (n : Int), tup3 SW 0 0, .string bef, .pointer (some ⟨c, 0, none⟩), .string PW, .int .i64 (n : Int), tup3 SW 0 0, .string SW, .int .i64 0, .int .i64 0, .bool true, .bool false, .bool false, .string SW, .pointer (some ⟨c, 1, none⟩), .string SW, .bool false, .bool false, .bool false, .int .i64 0, .bool false, .bool false, .bool false, .int .i64 0, .bool false, .bool false, f 63, f 64, f 65, f 66, f 67, f 68, f 69, f 70, f 71, f 72, f 73, f 74, f 75, f 76, f 77, f 78, f 79, f 80, f 81, f 82, f 83, f 84, f 85, f 86, f 87, f 88, f 89, f 90, f 91, f 92, f 93, f 94, f 95, f 96, f 97, f 98, f 99, f 100, f 101, f 102, f 103, f 104, f 105, f 106, f 107, f 108, f 109, f 110, f 111, f 112, f 113, f 114, f 115, f 116, f 117, f 118, f 119, f 120, f 121, f 122, f 123, f 124, f 125, f 126, f 127, f 128, f 129, f 130, f 131, f 132, f 133, f 134, f 135, f 136, .int .i64 cut, .pointer (some ⟨c, 3, none⟩), .slice (some ⟨ga, 0, none⟩) N ac, .int .i64 (N : Int), .int .i64 (i : Int), u 11, u 0, u 1, u 2, u 3, u 4, u 5, u 6, u 7, u 8, u 9, u 10, u 12, u 13, u 14, undef, undef, undef, undef, undef, undef, undef, undef, undef, undef, undef, undef, undef, undef, undef, undef, undef, undef, undef, undef, undef, undef, undef, undef, undef, undef, undef, undef, undef, undef, undef, undef, undef, undef, undef, undef, undef, undef, undef, undef, undef, undef, undef, undef, undef, undef, undef, undef, undef, undef, undef, undef, undef, undef], defers := ds }) (fun k => undef) _ (fun X => Sy b w c ga gl N lc ac PW SW pts (.bool false) X ∧ Below w6.heap.size w6 X) (⟨HSY.out.drew, (Below.refl _ _).drewN' 1⟩) (deps_of' (by kernel_rfl)) ?_ ?_ ?_
      · intro f1 f2 hfg
        simp only [hfg 0 (by decide), hfg 1 (by decide), hfg 2 (by decide), hfg 3 (by decide), hfg 4 (by decide), hfg 5 (by decide), hfg 6 (by decide), hfg 7 (by decide), hfg 8 (by decide), hfg 9 (by decide), hfg 10 (by decide), hfg 11 (by decide), hfg 12 (by decide), hfg 13 (by decide), hfg 14 (by decide), hfg 15 (by decide), hfg 16 (by decide), hfg 17 (by decide)]
      · intro X hX i0 hi0 o ho u hdeps KK hKK
        obtain ⟨d0, d1, d2, d3⟩ := hX.1.cells
        have d9 := HAT.out X hX.1
        have hKX := hKK X hX
        rcases (show i0 = 0 ∨ i0 = 1 ∨ i0 = 2 ∨ i0 = 3 ∨ i0 = 4 ∨ i0 = 5 ∨ i0 = 6 ∨ i0 = 7 ∨ i0 = 8 ∨ i0 = 9 ∨ i0 = 10 ∨ i0 = 11 ∨ i0 = 12 ∨ i0 = 13 ∨ i0 = 14 ∨ i0 = 15 ∨ i0 = 16 ∨ i0 = 17 by have : i0 < 18 := hi0; omega) with rfl | rfl | rfl | rfl | rfl | rfl | rfl | rfl | rfl | rfl | rfl | rfl | rfl | rfl | rfl | rfl | rfl | rfl
        case inr.inr.inr.inr.inr.inr.inr.inr.inr.inr.inl =>
          simp at ho; subst ho; simp [Region.binds] at hdeps
          simp [wpOpIn, Region.wanted, yielded, Oper.wpIn, Oper.semAt_some, execOp, Oper.uponIn, go_sem, hdeps]
          refine ⟨trivial, ?_⟩
          refine CallsIn.mono (callsIn_wide.2 (HX6.out X)) ?_
          rintro e Y ⟨rfl, hb⟩
          have hKY := hKK Y ⟨hX.1.below hb, hX.2.trans (hb.mono hX.2.size)⟩
          first | exact hKY | (simp [upd, hdeps] at hKY; exact hKY)
        all_goals (simp at ho; subst ho; simp [Region.binds] at hdeps; simp [wpOpIn, Region.wanted, yielded, Oper.wpIn, Oper.semAt_some, execOp, Oper.uponIn, go_sem, hdeps, d0, d3, d9, hiN, hiI, hPC, htks, htkI, tup3]; first | exact hKX | (simp [upd, hdeps] at hKX; exact hKX))
      · intro X hX
        refine HK4.out _ _ ?_
        clear c0 c1 c2 c3 HSY
        obtain ⟨hX1, hX2⟩ := hX
        have HSY := Hid.mk' hX1
        have HBX := Hid.mk' hX2
        obtain ⟨c0, c1, c2, c3⟩ := hX1.cells
        have c9 := HAT.out X hX1
        clear hX1 hX2
        have hee : ((tk : Int) != (tk : Int)) = false := by simp
        iterate 300 (first | (with_reducible refine stop_reg 28 ?_) | go_values | gi_big_skip | (refine skip_call (Eq.refl false) (Eq.refl none) (by kernel_rfl) ?_) | gi_guarded | gi_step | gi_upon | go_simp | skip)
        obtain ⟨kk, hkk⟩ : ∃ kk, pickN cut (PW.size : Int) = kk := ⟨_, rfl⟩
        have hkkl : kk < PW.size := by have := pickN_lt cut (PW.size : Int) (by omega); omega
        have HPS := Hid.mk' (fun W => pick_det cut (PW.size : Int) W (by omega) (by omega) h0 h1)
        rw [hkk] at HPS
        obtain ⟨PS, hPS⟩ : ∃ PS, PW.extract 0 kk = PS := ⟨_, rfl⟩
        obtain ⟨s1, s2, s3, s4, s5, s6, s7, s8⟩ := HSPEC.out
        have hxc := exp_cut bef A E hEs n (by omega) kk (by rw [s3]; omega) hAl
        rw [s3, hPS, s4, s7] at hxc
        obtain ⟨hPSs, hxc⟩ := hxc
        have hEX := fun W => expandOn_all bef PS (n : Int) W (by omega) (by omega) (by omega) (by omega)
        have hPSi : PW.extract 0 kk = PS := hPS
        have hkkI : (kk : Int) ≤ (PW.size : Int) := by omega
        have hkkP : kk ≤ PW.size := by omega
        rename_i K5 hK5
        have HK5 := Hid.mk' hK5
        clear hK5 s1 s2 s3 s4 s5 s6 s7 s8 hkk
        refine Hid.mk' ?_
        refine region_kept (by kernel_rfl) (fun k => (#[.pointer (some ⟨c, 0, none⟩), .string PW, .int .i64 cut, .pointer (some ⟨c, 0, none⟩), .string PW, .int .i64 (PW.size : Int), .int .i64 (kk : Int), .string PS, .string PS] : Array Value).getD k undef) (fun u => { tmps := #[.string bef, .slice p len cap, .string en, .int .i64 cut, undef, undef, undef, undef, .pointer (some ⟨b, 0, none⟩), .bool true, .pointer (some ⟨c, 0, none⟩), .int .i64 (n : Int), .string SW, .int .i64 0, .int .i64 0, f 15, f 16, f 17, f 18, f 19, f 20, f 21, .int .i64 (i : Int), .string { data := #[] }, .int .i64 30, .int .i64 (tk : Int), u 8, undef, undef, undef, .bool true, .string bef, .slice p len cap, .string en, .agg #[.string PW, .string SW, .slice (some ⟨gl, 0, none⟩) N lc, .slice (some ⟨ga, 0, none⟩) N ac], .pointer (some ⟨c, 1, none⟩), .string SW, .int .i64 (n : Int), tup3 SW 0 0, .string bef, .pointer (some ⟨c, 0, none⟩), .string PW, .int .i64 (n : Int), tup3 SW 0 0, .string SW, .int .i64 0, .int .i64 0, .bool true, .bool false, .bool false, .string SW, .pointer (some ⟨c, 1, none⟩), .string SW, .bool false, .bool false, .bool false, .int .i64 0, .bool false, .bool false, .bool false, .int .i64 0, .bool false, .bool false, f 63, f 64, f 65, f 66, f 67, f 68, f 69, f 70, f 71, f 72, f 73, f 74, f 75, f 76, f 77, f 78, f 79, f 80, f 81, f 82, f 83, f 84, f 85, f 86, f 87, f 88, f 89, f 90, f 91, f 92, f 93, f 94, f 95, f 96, f 97, f 98, f 99, f 100, f 101, f 102, f 103, f 104, f 105, f 106, f 107, f 108, f 109, f 110, f 111, f 112, f 113, f 114, f 115, f 116, f 117, f 118, f 119, f 120, f 121, f 122, f 123, f 124, f 125, f 126, f 127, f 128, f 129, f 130, f 131, f 132, f 133, f 134, f 135, f 136, .int .i64 cut, .pointer (some ⟨c, 3, none⟩), .slice (some ⟨ga, 0, none⟩) N ac, .int .i64 (N : Int), .int .i64 (i : Int), tup3 { data := #[] } 30 tk, .string bef, .pointer (some ⟨c, 0, none⟩), .string PW, .pointer (some ⟨c, 3, none⟩), .slice (some ⟨ga, 0, none⟩) N ac, .int .i64 (i : Int), .pointer (some ⟨ga, i, none⟩), .int .i64 (tk : Int), .string PC, .int .i64 (n : Int), tup3 { data := #[] } 30 tk, .string { data := #[] }, .int .i64 30, .int .i64 (tk : Int), .int .i64 30, .bool false, .bool false, .int .i64 (tk : Int), .pointer (some ⟨c, 3, none⟩), .slice (some ⟨ga, 0, none⟩) N ac, .int .i64 (i : Int), .pointer (some ⟨ga, i, none⟩), .int .i64 (tk : Int), .bool false, .bool false, u 0, u 1, u 2, u 3, u 4, u 5, u 6, u 7, undef, undef, undef, undef, undef, undef, undef, undef, undef, undef, undef, undef, undef, undef, undef, undef, undef, undef, undef, undef, undef, undef, undef, undef, undef, undef, undef, undef, undef, undef, undef, undef, undef, undef, undef], defers := ds }) (fun k => undef) _ (fun X => Sy b w c ga gl N lc ac PW SW pts (.bool false) X ∧ Below w6.heap.size w6 X) (⟨HSY.out.drew, HBX.out.drewN' 1⟩) (deps_of' (by kernel_rfl)) ?_ ?_ ?_
        · intro f1 f2 hfg
          simp only [hfg 0 (by decide), hfg 1 (by decide), hfg 2 (by decide), hfg 3 (by decide), hfg 4 (by decide), hfg 5 (by decide), hfg 6 (by decide), hfg 7 (by decide), hfg 8 (by decide)]
        · intro X hX i0 hi0 o ho u hdeps KK hKK
          obtain ⟨d0, d1, d2, d3⟩ := hX.1.cells
          have hKX := hKK X hX
          rcases (show i0 = 0 ∨ i0 = 1 ∨ i0 = 2 ∨ i0 = 3 ∨ i0 = 4 ∨ i0 = 5 ∨ i0 = 6 ∨ i0 = 7 ∨ i0 = 8 by have : i0 < 9 := hi0; omega) with rfl | rfl | rfl | rfl | rfl | rfl | rfl | rfl | rfl
          case inr.inr.inr.inr.inr.inr.inl =>
            simp at ho; subst ho; simp [Region.binds] at hdeps
            simp [wpOpIn, Region.wanted, yielded, Oper.wpIn, Oper.semAt_some, execOp, Oper.uponIn, go_sem, hdeps]
            refine ⟨trivial, ?_⟩
            refine CallsIn.mono (callsIn_wide.2 (HPS.out X)) ?_
            rintro e Y ⟨rfl, rfl⟩
            first | exact hKX | (simp [upd, hdeps] at hKX; exact hKX)
          all_goals (simp at ho; subst ho; simp [Region.binds] at hdeps; simp [wpOpIn, Region.wanted, yielded, Oper.wpIn, Oper.semAt_some, execOp, Oper.uponIn, go_sem, hdeps, d0, hPSi, hkkP, hkkI]; first | exact hKX | (simp [upd, hdeps] at hKX; exact hKX))
        · intro Y hY
          refine HK5.out _ _ ?_
          clear c0 c1 c2 c3 c9 HSY HBX HPC HPS HX6
          obtain ⟨hX1, hX2⟩ := hY
          have HSY := Hid.mk' hX1
          have HBX := Hid.mk' hX2
          obtain ⟨c0, c1, c2, c3⟩ := hX1.cells
          have cr := hX1.res.cell
          have fr := hX1.res.frozen
          clear hX1 hX2
          rcases hxc with hxa | ⟨T, hT1, hT2, hxa⟩
          · have HX7 := Hid.mk' hEX
            rw [hxa] at HX7
            clear hEX
            iterate 300 (first | go_values | gi_big_skip | (refine skip_call (Eq.refl false) (Eq.refl none) (by kernel_rfl) ?_) | gi_guarded | gi_step | gi_upon | go_simp | skip)
            refine ⟨trivial, ?_⟩
            refine (callsIn_wide.2 (HX7.out _)).mono ?_
            rintro e w8 ⟨rfl, hb8⟩
            have hsy := HSY.out.below hb8
            have HB8 := Hid.mk' (HBX.out.trans (hb8.mono HBX.out.size))
            clear c0 c1 c2 c3 cr fr hb8 HSY
            obtain ⟨c0, c1, c2, c3⟩ := hsy.cells
            have cr := hsy.res.cell
            have fr := hsy.res.frozen
            have HSY := Hid.mk' hsy
            clear hsy
            have hkk2 : ((kk : Int) == (kk : Int)) = true := by simp
            iterate 300 (first | go_values | gi_big_skip | (refine skip_call (Eq.refl false) (Eq.refl none) (by kernel_rfl) ?_) | gi_guarded | gi_step | gi_upon | go_simp | skip)
            rcases HDS.out with rfl | ⟨D, rfl, hD, hbD⟩
            · have hcb := (HSY.out.res.set (.bool true)).cell
              refine ⟨.bool true, ?_, rfl, ?_⟩
              · simp [results, Try.f4, go_sem, hcb]
              · exact HSY.out.bel.setCell (p := ⟨b, 0, none⟩) (Nat.le_refl b) _
            · have hDl := (Array.getElem?_eq_some_iff.1 hD).1
              obtain ⟨e1, e2, e3⟩ := end_facts HSY.out.res HSY.out.bel ((HB8.out.block D hDl).trans hD) hbD
              refine ⟨by simp, .inl ⟨_, _, rfl, run_takeDeferred e1, ?_⟩⟩
              have hcb := e2.cell
              refine ⟨.bool true, ?_, rfl, ?_⟩
              · simp [results, Try.f4, go_sem, hcb]
              · exact e3
          · have HX7 := Hid.mk' hEX
            rw [hxa] at HX7
            clear hEX
            iterate 300 (first | go_values | gi_big_skip | (refine skip_call (Eq.refl false) (Eq.refl none) (by kernel_rfl) ?_) | gi_guarded | gi_step | gi_upon | go_simp | skip)
            refine ⟨trivial, ?_⟩
            refine (callsIn_wide.2 (HX7.out _)).mono ?_
            rintro e w8 ⟨rfl, hb8⟩
            have hsy := HSY.out.below hb8
            have HB8 := Hid.mk' (HBX.out.trans (hb8.mono HBX.out.size))
            clear c0 c1 c2 c3 cr fr hb8 HSY
            obtain ⟨c0, c1, c2, c3⟩ := hsy.cells
            have cr := hsy.res.cell
            have fr := hsy.res.frozen
            have HSY := Hid.mk' hsy
            clear hsy
            have hTn : (T.size : Int) ≤ (n : Int) := by omega
            have hTe : SW.extract 0 T.size = T := hT2.symm
            have hTs : T.size ≤ SW.size := by omega
            have hTsI : (T.size : Int) ≤ (SW.size : Int) := by omega
            have hTeq := str_eq T
            clear hT2
            iterate 300 (first | go_values | gi_big_skip | (refine skip_call (Eq.refl false) (Eq.refl none) (by kernel_rfl) ?_) | gi_guarded | gi_step | gi_upon | go_simp | skip)
            rcases HDS.out with rfl | ⟨D, rfl, hD, hbD⟩
            · have hcb := (HSY.out.res.set (.bool true)).cell
              refine ⟨.bool true, ?_, rfl, ?_⟩
              · simp [results, Try.f4, go_sem, hcb]
              · exact HSY.out.bel.setCell (p := ⟨b, 0, none⟩) (Nat.le_refl b) _
            · have hDl := (Array.getElem?_eq_some_iff.1 hD).1
              obtain ⟨e1, e2, e3⟩ := end_facts HSY.out.res HSY.out.bel ((HB8.out.block D hDl).trans hD) hbD
              refine ⟨by simp, .inl ⟨_, _, rfl, run_takeDeferred e1, ?_⟩⟩
              have hcb := e2.cell
              refine ⟨.bool true, ?_, rfl, ?_⟩
              · simp [results, Try.f4, go_sem, hcb]
              · exact e3
    refine Hid.mk' ?_
    by_cases hb0 : bef = ⟨#[]⟩
    · subst hb0
      have hsz0 : (⟨#[]⟩ : ByteArray).size = 0 := rfl
      obtain ⟨d, hd⟩ : ∃ d, W.heap.size = d := ⟨_, rfl⟩
      have c0a := fun o => (HSY.out.new o).cells.1
      iterate 300 (first | go_values | gi_big_skip | (refine skip_call (Eq.refl false) (Eq.refl none) (by kernel_rfl) ?_) | gi_guarded | gi_step | gi_upon | go_simp | skip)
      refine HK2.out _ _ ?_
      iterate 300 (first | go_values | gi_big_skip | (refine skip_call (Eq.refl false) (Eq.refl none) (by kernel_rfl) ?_) | gi_guarded | gi_step | gi_upon | go_simp | skip)
      refine ⟨trivial, ?_⟩
      refine (callsIn_wide.2 (parts_any PW _)).mono ?_
      rintro e w' ⟨rfl, rfl⟩
      iterate 300 (first | go_values | gi_big_skip | (refine skip_call (Eq.refl false) (Eq.refl none) (by kernel_rfl) ?_) | gi_guarded | gi_step | gi_upon | go_simp | skip)
      obtain ⟨W7, hW7⟩ : ∃ W7, (W.alloc (.cells #[.int .i64 0] 3)).alloc (.cells #[.string PW] 9) = W7 := ⟨_, rfl⟩
      have hz7 : W7.heap.size = d + 2 := by rw [← hW7, ← hd]; simp
      have hk7 : Boxed W7 d 3 (.int .i64 0) := by rw [← hW7, ← hd]; exact (Boxed.new W _ _).alloc _
      have ht7 : Boxed W7 (d + 1) 9 (.string PW) := by
        have := Boxed.new (W.alloc (.cells #[.int .i64 0] 3)) 9 (.string PW)
        rw [hW7] at this
        simpa [hd] using this
      have hs7 : Sy b w c ga gl N lc ac PW SW pts (.bool false) W7 := by rw [← hW7]; exact (HSY.out.new _).new _
      have hcl : c < d := by rw [← hd]; exact (Array.getElem?_eq_some_iff.1 HSY.out.box).1
      have hgal : ga < d := by obtain ⟨cs, h, _⟩ := HSY.out.ra; rw [← hd]; exact (Array.getElem?_eq_some_iff.1 h).1
      have hgll : gl < d := by obtain ⟨cs, h, _⟩ := HSY.out.rl; rw [← hd]; exact (Array.getElem?_eq_some_iff.1 h).1
      have hbl : b < d := by rw [← hd]; exact HSY.out.res.lt
      rw [hW7]
      clear hW7 c0 c1 c2 c3 c0a HSY
      obtain ⟨s1, s2, s3, s4, s5, s6, s7, s8⟩ := HSPEC.out
      have hptL : ptL PW = pts := by
        rw [← s3, ← s6, ← s5]
        exact pack_parts A E hEs hAl
      clear s1 s2 s3 s4 s5 s6 s7 s8
      rename_i K6 hK6
      have HK6 := Hid.mk' hK6
      clear hK6
      have KEEP : ∀ {X Y : World} {row : Option Nat}, Sy b w c ga gl N lc ac PW SW pts (.bool false) X → X.grownBy Y row → (∀ r, row = some r → W7.heap.size ≤ r) → Sy b w c ga gl N lc ac PW SW pts (.bool false) Y := by
        intro X Y row h hg hr
        have hb := h.siz
        refine h.kept (fun k hk hlt => hg.block k hlt ?_) (h.bel.trans ⟨hg.os, hg.tape, hg.output, hg.size, fun k hk => hg.block k (by omega) ?_⟩)
        · intro e
          have := hr k e.symm
          rcases hk with rfl | rfl | rfl | rfl <;> omega
        · intro e
          have := hr k e.symm
          omega
      refine wpIn_rangeN rfl (by omega) (gf := 31) (lb := #[.pointer (some ⟨d + 1, 0, none⟩)]) rfl trivial (enters_of Try.func31 (by kernel_rfl) rfl)
        (parts_seqN 5 (d + 1) PW (by omega) W7 (by omega) ht7.cell) (fun _ h => h.cells) KpP.t (fun W k o o' _ h h1 => KpP.put W k o o' h h1) (Below.refl _ _) (fun _ => rfl)
        (fun pre V => Sy b w c ga gl N lc ac PW SW pts (.bool false) V ∧ Boxed V d 3 (.int .i64 (pre.length : Int))) (fun cd pre V => False)
        (fun pre X Y row h hg hr => ⟨KEEP h.1 hg (fun r e => (hr r e).1), box_ab h.2 hg hr (by decide)⟩)
        (fun cd pre X Y row h hg hr => h)
        ⟨hs7, hk7⟩ (fun x a' V => ∃ X, a' = { tmps := #[.string { data := #[] }, .slice p len cap, .string en, .int .i64 cut, undef, undef, undef, undef, .pointer (some ⟨b, 0, none⟩), .bool true, .pointer (some ⟨c, 0, none⟩), .int .i64 (n : Int), .string SW, .int .i64 0, .int .i64 0, f 15, f 16, f 17, .pointer (some ⟨d, 0, none⟩), .func (.func 31) #[] #[.pointer (some ⟨d + 1, 0, none⟩)], .int .i64 (x.1 : Int), .pointer (some ⟨X, 0, none⟩), undef, undef, undef, undef, undef, undef, undef, undef, .bool true, .string { data := #[] }, .slice p len cap, .string en, .agg #[.string PW, .string SW, .slice (some ⟨gl, 0, none⟩) N lc, .slice (some ⟨ga, 0, none⟩) N ac], .pointer (some ⟨c, 1, none⟩), .string SW, .int .i64 (n : Int), tup3 SW 0 0, .string { data := #[] }, .pointer (some ⟨c, 0, none⟩), .string PW, .int .i64 (n : Int), tup3 SW 0 0, .string SW, .int .i64 0, .int .i64 0, .bool true, .bool false, .bool false, .string SW, .pointer (some ⟨c, 1, none⟩), .string SW, .bool false, .bool false, .bool false, .int .i64 0, .bool false, .bool false, .bool false, .int .i64 0, .bool false, .bool false, f 63, f 64, f 65, f 66, f 67, f 68, f 69, f 70, f 71, f 72, f 73, f 74, f 75, f 76, f 77, f 78, f 79, f 80, f 81, f 82, f 83, f 84, f 85, f 86, f 87, f 88, f 89, f 90, f 91, f 92, f 93, f 94, f 95, f 96, .string { data := #[] }, .bool true, .pointer (some ⟨c, 0, none⟩), .string PW, .func (.func 31) #[] #[.pointer (some ⟨d + 1, 0, none⟩)], .func (.func 31) #[] #[.pointer (some ⟨d + 1, 0, none⟩)], .bool false, .func (.func 31) #[] #[.pointer (some ⟨d + 1, 0, none⟩)], .int .i64 (x.1 : Int), .agg #[.string x.2.1, .int .i64 (x.2.2.1 : Int), .int .i64 (x.2.2.2 : Int)], undef, undef, undef, undef, undef, undef, undef, undef, undef, undef, undef, undef, undef, undef, undef, undef, undef, undef, undef, undef, undef, undef, undef, undef, undef, undef, undef, undef, undef, undef, undef, undef, undef, undef, undef, undef, undef, undef, undef, undef, undef, undef, undef, undef, undef, undef, undef, undef, undef, undef, undef, undef, undef, undef, undef, undef, undef, undef, undef, undef, undef, undef, undef, undef, undef, undef, undef, undef, undef, undef, undef, undef, undef, undef, undef, undef, undef, undef, undef, undef, undef, undef, undef, undef, undef, undef, undef, undef, undef, undef, undef, undef, undef, undef, undef, undef, undef, undef, undef, undef, undef, undef, undef, undef], defers := [] } ∧ Sb V X x) (fun x a' _ X Y row h hg hr => by obtain ⟨Z, rfl, hZ⟩ := h; exact ⟨Z, rfl, cells_ab hZ hg hr (by decide)⟩) ?assign ?body ?done ?stop
      case assign =>
        intro l pre x V K hi hK
        simp only [encQ]
        iterate 300 (first | go_values | gi_big_skip | (refine skip_call (Eq.refl false) (Eq.refl none) (by kernel_rfl) ?_) | gi_guarded | gi_step | gi_upon | go_simp | skip)
        exact hK _ _ (kept_new _ _ _) (kp_new _ _) ⟨hi.1.new _, hi.2.alloc _⟩ ⟨_, rfl, World.alloc_heap_new V _⟩
      case stop =>
        rintro D cd pre V hD hpre hx
        exact hx.elim
      case body =>
        rintro l pre x a' W2 hl ⟨rl, hrl⟩ ⟨hsy, hk⟩ ⟨X, rfl, hsb⟩ hpre
        rw [hptL] at hpre
        have hx : pts[pre.length]? = some x := by
          obtain ⟨t, ht⟩ := hpre
          rw [← ht]
          simp
        obtain ⟨q, hq⟩ : ∃ q, pre.length = q := ⟨_, rfl⟩
        rw [hq] at hx hk
        have HQ := Hid.mk' hq
        have hqN : q < N := by rw [← hptl]; exact (List.getElem?_eq_some_iff.1 hx).1
        have hqn : ¬ N ≤ q := by omega
        have hqlI : ¬ (N : Int) ≤ (q : Int) := by omega
        have k0 := hsy.at_ hx
        obtain ⟨k1, k2, k3⟩ := hsy.seq hx
        obtain ⟨x1, x2, x3⟩ := hsb.cells
        obtain ⟨c0, c1, c2, c3⟩ := hsy.cells
        have ck := hk.cell
        have fk := hk.frozen
        obtain ⟨xa, xt, xo, xl⟩ := x
        simp only at k0 k1 k2 k3 x1 x2 x3
        have hsm := seq_same xt xo xl
        have hAI : ((xa : Int) != (xa : Int)) = false := by simp
        have HSY := Hid.mk' hsy
        have HK := Hid.mk' hk
        have HSB := Hid.mk' hsb
        clear hsy hk hsb hx hq hpre hrl
        iterate 300 (first | go_values | gi_big_skip | (refine skip_call (Eq.refl false) (Eq.refl none) (by kernel_rfl) ?_) | gi_guarded | gi_step | gi_upon | go_simp | skip)
        rename_i K7 hK7
        have HK7 := Hid.mk' hK7
        clear hK7
        refine region_kept (by kernel_rfl) (fun k => (#[.int .i64 (q : Int), .pointer (some ⟨c, 2, none⟩), .slice (some ⟨gl, 0, none⟩) N lc, .int .i64 (N : Int), .bool false, .bool false, .int .i64 (xa : Int), .pointer (some ⟨c, 3, none⟩), .slice (some ⟨ga, 0, none⟩) N ac, .int .i64 (q : Int), .pointer (some ⟨ga, q, none⟩), .int .i64 (xa : Int), .bool false, .bool false, .bool false, .agg #[.string xt, .int .i64 (xo : Int), .int .i64 (xl : Int)], .pointer (some ⟨c, 2, none⟩), .slice (some ⟨gl, 0, none⟩) N lc, .int .i64 (q : Int), .pointer (some ⟨gl, q * 3, none⟩), .agg #[.string xt, .int .i64 (xo : Int), .int .i64 (xl : Int)], .bool false, .bool false] : Array Value).getD k undef) (fun u => { tmps := #[.string { data := #[] }, .slice p len cap, .string en, .int .i64 cut, undef, undef, undef, undef, .pointer (some ⟨b, 0, none⟩), .bool true, .pointer (some ⟨c, 0, none⟩), .int .i64 (n : Int), .string SW, .int .i64 0, .int .i64 0, f 15, f 16, f 17, .pointer (some ⟨d, 0, none⟩), .func (.func 31) #[] #[.pointer (some ⟨d + 1, 0, none⟩)], .int .i64 (xa : Int), .pointer (some ⟨X, 0, none⟩), undef, undef, undef, undef, undef, undef, undef, undef, .bool true, .string { data := #[] }, .slice p len cap, .string en, .agg #[.string PW, .string SW, .slice (some ⟨gl, 0, none⟩) N lc, .slice (some ⟨ga, 0, none⟩) N ac], .pointer (some ⟨c, 1, none⟩), .string SW, .int .i64 (n : Int), tup3 SW 0 0, .string { data := #[] }, .pointer (some ⟨c, 0, none⟩), .string PW, .int .i64 (n : Int), tup3 SW 0 0, .string SW, .int .i64 0, .int .i64 0, .bool true, .bool false, .bool false, .string SW, .pointer (some ⟨c, 1, none⟩), .string SW, .bool false, .bool false, .bool false, .int .i64 0, .bool false, .bool false, .bool false, .int .i64 0, .bool false, .bool false, f 63, f 64, f 65, f 66, f 67, f 68, f 69, f 70, f 71, f 72, f 73, f 74, f 75, f 76, f 77, f 78, f 79, f 80, f 81, f 82, f 83, f 84, f 85, f 86, f 87, f 88, f 89, f 90, f 91, f 92, f 93, f 94, f 95, f 96, .string { data := #[] }, .bool true, .pointer (some ⟨c, 0, none⟩), .string PW, .func (.func 31) #[] #[.pointer (some ⟨d + 1, 0, none⟩)], .func (.func 31) #[] #[.pointer (some ⟨d + 1, 0, none⟩)], .bool false, .func (.func 31) #[] #[.pointer (some ⟨d + 1, 0, none⟩)], .int .i64 (xa : Int), .agg #[.string xt, .int .i64 (xo : Int), .int .i64 (xl : Int)], u 0, u 1, u 2, u 3, u 4, u 5, u 6, u 7, u 8, u 9, u 10, u 11, u 12, u 13, u 14, u 15, u 16, u 17, u 18, u 19, u 20, u 21, u 22, undef, undef, undef, undef, undef, undef, undef, undef, undef, undef, undef, undef, undef, undef, undef, undef, undef, undef, undef, undef, undef, undef, undef, undef, undef, undef, undef, undef, undef, undef, undef, undef, undef, undef, undef, undef, undef, undef, undef, undef, undef, undef, undef, undef, undef, undef, undef, undef, undef, undef, undef, undef, undef, undef, undef, undef, undef, undef, undef, undef, undef, undef, undef, undef, undef, undef, undef, undef, undef, undef, undef, undef, undef, undef, undef, undef, undef, undef, undef, undef, undef], defers := [] }) (fun k => undef) _ (fun X => X = { W2 with drawn := W2.drawn + 1 }) (rfl) (deps_of' (by kernel_rfl)) ?_ ?_ ?_
        · intro f1 f2 hfg
          simp only [hfg 0 (by decide), hfg 1 (by decide), hfg 2 (by decide), hfg 3 (by decide), hfg 4 (by decide), hfg 5 (by decide), hfg 6 (by decide), hfg 7 (by decide), hfg 8 (by decide), hfg 9 (by decide), hfg 10 (by decide), hfg 11 (by decide), hfg 12 (by decide), hfg 13 (by decide), hfg 14 (by decide), hfg 15 (by decide), hfg 16 (by decide), hfg 17 (by decide), hfg 18 (by decide), hfg 19 (by decide), hfg 20 (by decide), hfg 21 (by decide), hfg 22 (by decide)]
        · intro X0 hX i0 hi0 o ho u hdeps KK hKK
          subst hX
          have hKX := hKK _ rfl
          rcases (show i0 = 0 ∨ i0 = 1 ∨ i0 = 2 ∨ i0 = 3 ∨ i0 = 4 ∨ i0 = 5 ∨ i0 = 6 ∨ i0 = 7 ∨ i0 = 8 ∨ i0 = 9 ∨ i0 = 10 ∨ i0 = 11 ∨ i0 = 12 ∨ i0 = 13 ∨ i0 = 14 ∨ i0 = 15 ∨ i0 = 16 ∨ i0 = 17 ∨ i0 = 18 ∨ i0 = 19 ∨ i0 = 20 ∨ i0 = 21 ∨ i0 = 22 by have : i0 < 23 := hi0; omega) with rfl | rfl | rfl | rfl | rfl | rfl | rfl | rfl | rfl | rfl | rfl | rfl | rfl | rfl | rfl | rfl | rfl | rfl | rfl | rfl | rfl | rfl | rfl
          all_goals (simp at ho; subst ho; simp [Region.binds] at hdeps; simp [wpOpIn, Region.wanted, yielded, Oper.wpIn, Oper.semAt_some, execOp, Oper.uponIn, go_sem, hdeps, ck, c2, c3, k0, k1, k2, k3, x1, x2, x3, hqN, hqn, hqlI, hsm, hAI]; first | exact hKX | (simp [upd, hdeps] at hKX; exact hKX))
        · intro X0 hX
          subst hX
          refine HK7.out _ _ ?_
          obtain ⟨W9, hW9⟩ : ∃ W9, ({ W2 with drawn := W2.drawn + 1 } : World) = W9 := ⟨_, rfl⟩
          have h9 : W9.heap = W2.heap := by rw [← hW9]
          have hs9 : Sy b w c ga gl N lc ac PW SW pts (.bool false) W9 := by rw [← hW9]; exact HSY.out.drew
          have hk9 : Boxed W9 d 3 (.int .i64 (q : Int)) := by
            have h3 : W2.heap[d]? = some (.cells #[.int .i64 (q : Int)] 3 (0, 0)) := HK.out
            show W9.heap[d]? = some (.cells #[.int .i64 (q : Int)] 3 (0, 0))
            rw [h9]
            exact h3
          have kp9 : ∀ B, KeptW B WrP W2 W9 := fun B => ⟨by rw [h9]; exact Nat.le_refl _, fun i o _ hi _ => by rw [h9]; exact hi⟩
          have kq9 : KpP W2 W9 := ⟨by rw [h9]; exact Nat.le_refl _, fun i o hi _ => by rw [h9]; exact hi⟩
          rw [hW9]
          clear hW9 c0 c1 c2 c3 ck fk k0 k1 k2 k3 x1 x2 x3
          obtain ⟨c0, c1, c2, c3⟩ := hs9.cells
          have ck := hk9.cell
          have fk := hk9.frozen
          have HRES : Hid (∀ B, KeptW B WrP W2 (W9.setCell ⟨d, 0, none⟩ (.int .i64 ((q : Int) + 1))) ∧ KpP W2 (W9.setCell ⟨d, 0, none⟩ (.int .i64 ((q : Int) + 1))) ∧ Sy b w c ga gl N lc ac PW SW pts (.bool false) (W9.setCell ⟨d, 0, none⟩ (.int .i64 ((q : Int) + 1))) ∧ Boxed (W9.setCell ⟨d, 0, none⟩ (.int .i64 ((q : Int) + 1))) d 3 (.int .i64 ((pre ++ [(xa, xt, xo, xl)]).length : Int))) := by
            intro B
            have hg := grown_setc W9 d 0 (.int .i64 ((q : Int) + 1))
            refine ⟨(kp9 B).trans (kept_set B hk9 (by decide) _), kq9.t (kp_set hk9 (by decide) _), hs9.kept (fun k hk hlt => hg.block k hlt ?_) (hs9.bel.setCell (p := ⟨d, 0, none⟩) (by show b ≤ d; omega) _), ?_⟩
            · intro e
              simp only [Option.some.injEq] at e
              rcases hk with rfl | rfl | rfl | rfl <;> omega
            · have hle : (((pre ++ [(xa, xt, xo, xl)]).length : Nat) : Int) = (q : Int) + 1 := by rw [List.length_append, HQ.out]; rfl
              rw [hle]
              exact hk9.set _
          clear hs9 hk9 kp9 kq9 HSY HK HSB
          iterate 300 (first | go_values | gi_big_skip | (refine skip_call (Eq.refl false) (Eq.refl none) (by kernel_rfl) ?_) | gi_guarded | gi_step | gi_upon | go_simp | skip)
          exact HRES.out _
      case done =>
        rintro D xs V hD rfl ⟨hsy, hk⟩ hdf
        refine HK6.out _ _ ?_
        rw [hptL, hptl] at hk
        obtain ⟨c0, c1, c2, c3⟩ := hsy.cells
        have ck := hk.cell
        have HSY := Hid.mk' hsy
        have HDF := Hid.mk' hdf
        clear hsy hk hdf
        have hNN : ((N : Int) != (N : Int)) = false := by simp
        iterate 300 (first | go_values | gi_big_skip | (refine skip_call (Eq.refl false) (Eq.refl none) (by kernel_rfl) ?_) | gi_guarded | gi_step | gi_upon | go_simp | skip)
        exact T11 (fun k => (#[undef, undef, undef, undef, undef, undef, undef, undef, undef, undef, undef, undef, undef, undef, undef, f 15, f 16, f 17, .pointer (some ⟨d, 0, none⟩), .func (.func 31) #[] #[.pointer (some ⟨d + 1, 0, none⟩)], undef, undef, undef, undef, undef, undef, undef, undef, undef, undef, undef, undef, undef, undef, undef, undef, undef, undef, undef, undef, undef, undef, undef, undef, undef, undef, undef, undef, undef, undef, undef, undef, undef, undef, undef, undef, undef, undef, undef, undef, undef, undef, undef, f 63, f 64, f 65, f 66, f 67, f 68, f 69, f 70, f 71, f 72, f 73, f 74, f 75, f 76, f 77, f 78, f 79, f 80, f 81, f 82, f 83, f 84, f 85, f 86, f 87, f 88, f 89, f 90, f 91, f 92, f 93, f 94, f 95, f 96, .string { data := #[] }, .bool true, .pointer (some ⟨c, 0, none⟩), .string PW, .func (.func 31) #[] #[.pointer (some ⟨d + 1, 0, none⟩)], .func (.func 31) #[] #[.pointer (some ⟨d + 1, 0, none⟩)], .bool false, .func (.func 31) #[] #[.pointer (some ⟨d + 1, 0, none⟩)], undef, undef, undef, undef, undef, undef, undef, undef, undef, undef, undef, undef, undef, undef, undef, undef, undef, undef, undef, undef, undef, undef, undef, undef, undef, undef, undef, .int .i64 (N : Int), .pointer (some ⟨c, 2, none⟩), .slice (some ⟨gl, 0, none⟩) N lc, .int .i64 (N : Int), .bool false, undef, undef, undef, undef, undef, undef, undef, undef, undef, undef, undef, undef, undef, undef, undef, undef, undef, undef, undef, undef, undef, undef, undef, undef, undef, undef, undef, undef, undef, undef, undef, undef, undef, undef, undef, undef, undef, undef, undef, undef, undef, undef, undef, undef, undef, undef, undef, undef, undef, undef, undef, undef, undef, undef, undef, undef, undef, undef, undef, undef, undef, undef, undef, undef, undef, undef, undef, undef, undef, undef, undef, undef, undef, undef] : Array Value).getD k undef) [{ target := .collected D, args := #[] }] V HSY.out (.inr ⟨D, rfl, HDF.out, by omega⟩)
    · have hbl : ¬ bef.toList = [] := by
        intro e
        rw [ByteArray.toList_eq] at e
        exact hb0 (ByteArray.ext (Array.toList_inj.1 e))
      have hbe : bef.toList.isEmpty = false := by cases h9 : bef.toList with | nil => exact absurd h9 hbl | cons a l => rfl
      iterate 300 (first | go_values | gi_big_skip | (refine skip_call (Eq.refl false) (Eq.refl none) (by kernel_rfl) ?_) | gi_guarded | gi_step | gi_upon | go_simp | skip)
      refine HK2.out _ _ ?_
      iterate 300 (first | go_values | gi_big_skip | (refine skip_call (Eq.refl false) (Eq.refl none) (by kernel_rfl) ?_) | gi_guarded | gi_step | gi_upon | go_simp | skip)
      exact T11 (fun k => (#[undef, undef, undef, undef, undef, undef, undef, undef, undef, undef, undef, undef, undef, undef, undef, f 15, f 16, f 17, undef, undef, undef, undef, undef, undef, undef, undef, undef, undef, undef, undef, undef, undef, undef, undef, undef, undef, undef, undef, undef, undef, undef, undef, undef, undef, undef, undef, undef, undef, undef, undef, undef, undef, undef, undef, undef, undef, undef, undef, undef, undef, undef, undef, undef, f 63, f 64, f 65, f 66, f 67, f 68, f 69, f 70, f 71, f 72, f 73, f 74, f 75, f 76, f 77, f 78, f 79, f 80, f 81, f 82, f 83, f 84, f 85, f 86, f 87, f 88, f 89, f 90, f 91, f 92, f 93, f 94, f 95, f 96, .string bef, .bool false, undef, undef, undef, undef, undef, undef, undef, undef, undef, undef, undef, undef, undef, undef, undef, undef, undef, undef, undef, undef, undef, undef, undef, undef, undef, undef, undef, undef, undef, undef, undef, undef, undef, undef, undef, undef, undef, undef, undef, undef, undef, undef, undef, undef, undef, undef, undef, undef, undef, undef, undef, undef, undef, undef, undef, undef, undef, undef, undef, undef, undef, undef, undef, undef, undef, undef, undef, undef, undef, undef, undef, undef, undef, undef, undef, undef, undef, undef, undef, undef, undef, undef, undef, undef, undef, undef, undef, undef, undef, undef, undef, undef, undef, undef, undef, undef, undef, undef, undef, undef, undef, undef, undef, undef, undef, undef, undef, undef, undef, undef, undef, undef] : Array Value).getD k undef) [] W HSY.out (.inl rfl)
  refine Hid.mk' ?_
  by_cases hn0 : n = 0
  · have hnI : ¬ (0 : Int) < (n : Int) := by omega
    clear hn0
    iterate 300 (first | go_values | gi_big_skip | (refine skip_call (Eq.refl false) (Eq.refl none) (by kernel_rfl) ?_) | gi_guarded | gi_step | gi_upon | go_simp | skip)
    refine HK0.out _ _ ?_
    iterate 300 (first | go_values | gi_big_skip | (refine skip_call (Eq.refl false) (Eq.refl none) (by kernel_rfl) ?_) | gi_guarded | gi_step | gi_upon | go_simp | skip)
    exact T7 (fun k => (#[undef, undef, undef, undef, undef, undef, undef, undef, undef, undef, undef, undef, undef, undef, undef, undef, undef, undef, undef, undef, undef, undef, undef, undef, undef, undef, undef, undef, undef, undef, undef, undef, undef, undef, undef, undef, undef, undef, undef, undef, undef, undef, undef, undef, undef, undef, undef, undef, undef, undef, undef, undef, undef, undef, undef, undef, undef, undef, undef, undef, undef, undef, undef, .int .i64 (n : Int), .bool false, undef, undef, undef, undef, undef, undef, undef, undef, undef, undef, undef, undef, undef, undef, undef, undef, undef, undef, undef, undef, undef, undef, undef, undef, undef, undef, undef, undef, undef, undef, undef, undef, undef, undef, undef, undef, undef, undef, undef, undef, undef, undef, undef, undef, undef, undef, undef, undef, undef, undef, undef, undef, undef, undef, undef, undef, undef, undef, undef, undef, undef, undef, undef, undef, undef, undef, undef, undef, undef, undef, undef, undef, undef, undef, undef, undef, undef, undef, undef, undef, undef, undef, undef, undef, undef, undef, undef, undef, undef, undef, undef, undef, undef, undef, undef, undef, undef, undef, undef, undef, undef, undef, undef, undef, undef, undef, undef, undef, undef, undef, undef, undef, undef, undef, undef, undef, undef, undef, undef, undef, undef, undef, undef, undef, undef, undef, undef, undef, undef, undef, undef, undef, undef, undef, undef, undef, undef, undef, undef, undef, undef, undef, undef, undef, undef, undef] : Array Value).getD k undef) w5 HSY.out
  · have hnI : (0 : Int) < (n : Int) := by omega
    obtain ⟨n1, hn1⟩ : ∃ n1, n = n1 + 1 := ⟨n - 1, by omega⟩
    have hn1I : (n : Int) - 1 = (n1 : Int) := by omega
    obtain ⟨s1, s2, s3, s4, s5, s6, s7, s8⟩ := HSPEC.out
    obtain ⟨to, hto, hxl⟩ := exp_less bef A E hEs n1 (by omega)
    rw [s3] at hxl
    rw [s5] at hto
    have HX2 := Hid.mk' (fun W => expandOn_all bef PW (n1 : Int) W (by omega) (by omega) (by omega) (by omega))
    rw [hxl] at HX2
    obtain ⟨N1, hN1⟩ : ∃ N1, N = N1 + 1 := ⟨N - 1, by omega⟩
    have hN1I : (N : Int) - 1 = (N1 : Int) := by omega
    have hN1N : N1 < N := by omega
    have hN1J : (N1 : Int) < (N : Int) := by omega
    have hlast : pts[N1]? = some (el, E, 0, 0) := by
      rw [← s6, List.getElem?_append_right (by rw [ptsP_length, mkP_length]; omega), ptsP_length, mkP_length, show N1 - A.length = 0 by omega]
      rfl
    have HLA := Hid.mk' hlast
    have hto0 : ¬ (to : Int) < 0 := by omega
    have htoe : ¬ (el : Int) < (to : Int) := by omega
    clear hn0 s1 s2 s3 s4 s5 s6 s7 s8 hxl hlast hn1 hN1
    iterate 300 (first | go_values | gi_big_skip | (refine skip_call (Eq.refl false) (Eq.refl none) (by kernel_rfl) ?_) | gi_guarded | gi_step | gi_upon | go_simp | skip)
    refine HK0.out _ _ ?_
    iterate 300 (first | go_values | gi_big_skip | (refine skip_call (Eq.refl false) (Eq.refl none) (by kernel_rfl) ?_) | gi_guarded | gi_step | gi_upon | go_simp | skip)
    refine ⟨trivial, ?_⟩
    refine (callsIn_wide.2 (HX2.out _)).mono ?_
    rintro e w6 ⟨rfl, hb6⟩
    have hsy := HSY.out.below hb6
    clear c0 c1 c2 c3 hb6 HSY
    obtain ⟨c0, c1, c2, c3⟩ := hsy.cells
    have c4 := hsy.at_ HLA.out
    simp only at c4
    have HSY := Hid.mk' hsy
    clear hsy
    iterate 300 (first | go_values | gi_big_skip | (refine skip_call (Eq.refl false) (Eq.refl none) (by kernel_rfl) ?_) | gi_guarded | gi_step | gi_upon | go_simp | skip)
    exact T7 (fun k => (#[undef, undef, undef, undef, undef, undef, undef, undef, undef, undef, undef, undef, undef, undef, undef, .string { data := #[] }, .int .i64 41, .int .i64 (to : Int), undef, undef, undef, undef, undef, undef, undef, undef, undef, undef, undef, undef, undef, undef, undef, undef, undef, undef, undef, undef, undef, undef, undef, undef, undef, undef, undef, undef, undef, undef, undef, undef, undef, undef, undef, undef, undef, undef, undef, undef, undef, undef, undef, undef, undef, .int .i64 (n : Int), .bool true, tup3 { data := #[] } 41 to, .string bef, .pointer (some ⟨c, 0, none⟩), .string PW, .int .i64 (n : Int), .int .i64 (n1 : Int), tup3 { data := #[] } 41 to, .string { data := #[] }, .int .i64 41, .int .i64 (to : Int), .string { data := #[] }, .bool false, .bool false, .int .i64 41, .bool false, .bool false, .bool false, .int .i64 (to : Int), .bool false, .bool false, .bool false, .int .i64 (to : Int), .pointer (some ⟨c, 3, none⟩), .slice (some ⟨ga, 0, none⟩) N ac, .pointer (some ⟨c, 3, none⟩), .slice (some ⟨ga, 0, none⟩) N ac, .int .i64 (N : Int), .int .i64 (N1 : Int), .pointer (some ⟨ga, N1, none⟩), .int .i64 (el : Int), .bool false, .bool false, undef, undef, undef, undef, undef, undef, undef, undef, undef, undef, undef, undef, undef, undef, undef, undef, undef, undef, undef, undef, undef, undef, undef, undef, undef, undef, undef, undef, undef, undef, undef, undef, undef, undef, undef, undef, undef, undef, undef, undef, undef, undef, undef, undef, undef, undef, undef, undef, undef, undef, undef, undef, undef, undef, undef, undef, undef, undef, undef, undef, undef, undef, undef, undef, undef, undef, undef, undef, undef, undef, undef, undef, undef, undef, undef, undef, undef, undef, undef, undef, undef, undef, undef, undef, undef, undef, undef, undef, undef, undef, undef, undef, undef, undef, undef, undef, undef, undef, undef, undef, undef, undef, undef, undef, undef, undef, undef, undef, undef, undef, undef, undef, undef, undef] : Array Value).getD k undef) w6 HSY.out
end Go.Proofs.Ytchjmhgalbkjkaa
