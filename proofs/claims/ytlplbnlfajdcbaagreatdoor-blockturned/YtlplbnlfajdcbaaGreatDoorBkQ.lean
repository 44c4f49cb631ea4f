/-
  A head and lines that may be sealed, out of any: the laws' made. Conditions: as it says.
-/
import Derived.Test.YtlplbnlfajdcbaaGreatDoorBkP
namespace Go.Proofs.YtlplbnlfajdcbaaGreatDoor
open Go.RowKit
set_option linter.unusedVariables false
set_option linter.unusedSimpArgs false
theorem ownB {w w' : World} {base : Nat} {e : TypeId} {size n : Nat} {v : Value} {xs : List Value} (h : w.ownsRow base e size v n xs) (hb : Below w.heap.size w w') : w'.ownsRow base e size v n xs := by
  refine ⟨h.1, ?_⟩
  rcases h.2 with h' | ⟨g, cap, cur, h1, h2, h3, h4⟩
  · exact .inl h'
  · refine .inr ⟨g, cap, cur, h1, h2, ?_, h4⟩
    have hg : g < w.heap.size := by
      rcases Nat.lt_or_ge g w.heap.size with h | h
      · exact h
      · rw [Array.getElem?_eq_none h] at h3; cases h3
    rw [hb.block g hg]
    exact h3
theorem rowM {w w' : World} {base base2 : Nat} {e : TypeId} {size n : Nat} {v : Value} {xs : List Value} (h : w.ownsRow base e size v n xs) (hb : ∀ k, base ≤ k → w'.heap[k]? = w.heap[k]?) (hle : base2 ≤ base := by omega) : w'.ownsRow base2 e size v n xs := by
  refine ⟨h.1, ?_⟩
  rcases h.2 with h' | ⟨g, cap, cur, h1, h2, h3, h4⟩
  · exact .inl h'
  · exact .inr ⟨g, cap, cur, h1, by omega, (hb g h2).trans h3, h4⟩
theorem nine_oth (W : World) (C : Nat) (x0 x1 x2 x3 x4 x5 x6 x7 x8 : Value) : ∀ k, k ≠ C → (((((((((W.setCell ⟨C, 0, none⟩ x0).setCell ⟨C, 1, none⟩ x1).setCell ⟨C, 2, none⟩ x2).setCell ⟨C, 3, none⟩ x3).setCell ⟨C, 4, none⟩ x4).setCell ⟨C, 5, none⟩ x5).setCell ⟨C, 6, none⟩ x6).setCell ⟨C, 7, none⟩ x7).setCell ⟨C, 8, none⟩ x8).heap[k]? = W.heap[k]? := fun k hk => by
  rw [put_other _ C 8 k x8 hk, put_other _ C 7 k x7 hk, put_other _ C 6 k x6 hk, put_other _ C 5 k x5 hk, put_other _ C 4 k x4 hk, put_other _ C 3 k x3 hk, put_other _ C 2 k x2 hk, put_other _ C 1 k x1 hk, put_other _ C 0 k x0 hk]
def madeP (l : List Rec.Ln) (k : Nat) : List Rec.Ln := (l.take k).map fitF
def madeL (l : List Rec.Ln) : List Rec.Ln := if l.length = 0 then exB else madeP l (min l.length 200)
theorem madeP_len (l : List Rec.Ln) (k : Nat) (h : k ≤ l.length) : (madeP l k).length = k := by
  unfold madeP
  rw [List.length_map, List.length_take]
  omega
theorem madeP_step (l : List Rec.Ln) (k : Nat) (h : k < l.length) : madeP l (k + 1) = madeP l k ++ [fitF (l.getD k (0, ⟨#[]⟩))] := by
  unfold madeP
  rw [List.take_succ_eq_append_getElem h, List.map_append, List.getD_eq_getElem?_getD, List.getElem?_eq_getElem h]
  rfl
theorem fit_size (x : Rec.Ln) : (fitF x).2.size ≤ 300 := by
  unfold fitF fitT
  rw [nums_size, fitL_len _ _ (Nat.min_le_left ..)]
  exact Nat.min_le_right ..
theorem nl_fit (l : List Nat) (h : ∀ z ∈ l, z < 256 ∧ z ≠ 10) : Rec.nl (nums l) < 0 := by
  have e : (nums l).data.toList = l.map UInt8.ofNat := by
    show (((l.map fun z => ((z : Nat) : Int)).map fun n => UInt8.ofNat n.toNat).toArray).toList = _
    rw [List.toList_toArray, List.map_map]
    rfl
  unfold Rec.nl
  rw [e]
  refine snoc_ind (P := fun l : List Nat => (∀ z ∈ l, z < 256 ∧ z ≠ 10) → Go.Lib.indexByte (l.map UInt8.ofNat) 10 < 0) ?_ (fun l x ih => ?_) l h
  · intro _
    decide
  · intro h
    rw [List.map_append]
    refine Rec.ix_snoc 10 _ _ (ih (fun z hz => h z (List.mem_append_left _ hz))) ?_
    have h9 := h x (by simp)
    simp only [beq_eq_false_iff_ne, ne_eq]
    intro e
    have e2 := congrArg UInt8.toNat e
    rw [UInt8.toNat_ofNat_of_lt' h9.1] at e2
    exact h9.2 e2
theorem fit_bad (x : Rec.Ln) : Rec.bad (fitF x) = 0 := by
  have h1 := fit_size x
  have h2 : Rec.nl (fitF x).2 < 0 := by
    unfold fitF fitT
    exact nl_fit (fitL x.2 (min x.2.size 300)) (fitL_byt _ _)
  have h3 : ((fitF x).1) = ((pkB x.1 253402300800000 : Nat) : Int) := rfl
  have h4 := pkB_lt x.1 253402300800000 (by decide)
  have hms : Rec.MS = 253402300799999 := rfl
  unfold Rec.bad
  rw [if_neg (by omega), if_neg (by omega)]
theorem wt_fit : ∀ l : List Rec.Ln, Rec.wt (l.map fitF) ≤ 312 * l.length
  | [] => by simp [Rec.wt]
  | x :: l => by
    have h1 := fit_size x
    have h2 := wt_fit l
    rw [List.map_cons, Rec.wt, List.length_cons]
    omega
theorem madeP_fine (l : List Rec.Ln) (h : l.length ≠ 0) : Fine (madeP l (min l.length 200)) := by
  have hl := madeP_len l (min l.length 200) (Nat.min_le_left ..)
  have hb : ∀ x ∈ madeP l (min l.length 200), Rec.bad x = 0 := by
    intro x hx
    unfold madeP at hx
    obtain ⟨y, _, rfl⟩ := List.mem_map.1 hx
    exact fit_bad y
  refine ⟨by omega, hb, Rec.sz_may _ hb (by omega) ?_⟩
  have h1 := wt_fit (l.take (min l.length 200))
  have h2 : Rec.wt (madeP l (min l.length 200)) ≤ 312 * (l.take (min l.length 200)).length := h1
  rw [List.length_take] at h2
  omega
theorem made_fine (l : List Rec.Ln) : Fine (madeL l) := by
  unfold madeL
  split
  · exact exB_fine
  · rename_i h
    exact madeP_fine l h
set_option maxHeartbeats 4000000 in
set_option maxRecDepth 100000 in
theorem made_any (h0 h1 h2 h3 h4 h5 h6 h7 h8 : Int) (v : Value) (l : List Rec.Ln) (w : World) (hv : LsAt v l w) (hl : l.length ≤ 1125899906842624) (hls : ∀ x ∈ l, -9223372036854775808 ≤ x.1 ∧ x.1 ≤ 9223372036854775807 ∧ x.2.size ≤ 140737488351232)
    (q0 : -9223372036854775808 ≤ h0 ∧ h0 ≤ 9223372036854775807) (q1 : -9223372036854775808 ≤ h1 ∧ h1 ≤ 9223372036854775807) (q5 : -9223372036854775808 ≤ h5 ∧ h5 ≤ 9223372036854775807) (q6 : -9223372036854775808 ≤ h6 ∧ h6 ≤ 9223372036854775807) :
    Calls Tryz.prog 21 #[.agg #[.int .i64 h0, .int .i64 h1, .int .i64 h2, .int .i64 h3, .int .i64 h4, .int .i64 h5, .int .i64 h6, .int .i64 h7, .int .i64 h8], v] w fun r w' => ∃ p c, r = .returned (.tuple #[hdV (pkB h0 1152921504606846977 : Nat) (pkB h1 1152921504606846977 : Nat) 0 0 0 (pkB h5 1152921504606846977 : Nat) (pkB h6 3 : Nat) 0 0, .slice p (madeL l).length c]) ∧ LsAt (.slice p (madeL l).length c) (madeL l) w' ∧ Below w.heap.size w w' := by
  obtain ⟨ad, cp, rfl, k1⟩ := hv
  obtain ⟨i0, hi, hz0, hz1, hz2⟩ := info_parts infoLn
  have HI := Hid.mk' (And.intro hi (And.intro hz0 (And.intro hz1 hz2)))
  obtain ⟨n, hn⟩ : ∃ n, l.length = n := ⟨_, rfl⟩
  obtain ⟨B, hB⟩ : ∃ B, w.heap.size = B := ⟨_, rfl⟩
  obtain ⟨w0, hw0⟩ : ∃ w0, (w.alloc (.cells #[.int .i64 h0, .int .i64 h1, .int .i64 h2, .int .i64 h3, .int .i64 h4, .int .i64 h5, .int .i64 h6, .int .i64 h7, .int .i64 h8] 23)).alloc (.cells #[.int .i64 0, .int .i64 0, .int .i64 0, .int .i64 0, .int .i64 0, .int .i64 0, .int .i64 0, .int .i64 0, .int .i64 0] 23) = w0 := ⟨_, rfl⟩
  have HK0 : Hid (w0.heap[B]? = some (.cells #[.int .i64 h0, .int .i64 h1, .int .i64 h2, .int .i64 h3, .int .i64 h4, .int .i64 h5, .int .i64 h6, .int .i64 h7, .int .i64 h8] 23 (0, 0)) ∧ w0.heap[B + 1]? = some (.cells #[.int .i64 0, .int .i64 0, .int .i64 0, .int .i64 0, .int .i64 0, .int .i64 0, .int .i64 0, .int .i64 0, .int .i64 0] 23 (0, 0)) ∧ Below B w w0 ∧ w0.heap.size = B + 2) := by
    have z1 : (w.alloc (.cells #[.int .i64 h0, .int .i64 h1, .int .i64 h2, .int .i64 h3, .int .i64 h4, .int .i64 h5, .int .i64 h6, .int .i64 h7, .int .i64 h8] 23)).heap.size = B + 1 := by rw [World.size_alloc, hB]
    unfold Hid
    rw [← hw0]
    refine ⟨(Below.heap_alloc _ _ _ (by rw [z1]; omega)).trans ?_, ?_, ((Below.refl B w).alloc (by omega) _).alloc (by rw [z1]; omega) _, by rw [World.size_alloc, z1]⟩
    · rw [← hB]
      exact heap_alloc_new _ _
    · rw [← z1]
      exact heap_alloc_new _ _
  have HH : Hid (∀ X, Below (B + 2) w0 X → X.heap[B]? = some (.cells #[.int .i64 h0, .int .i64 h1, .int .i64 h2, .int .i64 h3, .int .i64 h4, .int .i64 h5, .int .i64 h6, .int .i64 h7, .int .i64 h8] 23 (0, 0)) ∧ X.heap[B + 1]? = some (.cells #[.int .i64 0, .int .i64 0, .int .i64 0, .int .i64 0, .int .i64 0, .int .i64 0, .int .i64 0, .int .i64 0, .int .i64 0] 23 (0, 0)) ∧ Below B w X ∧ B + 2 ≤ X.heap.size) := fun X hX => by
    obtain ⟨k1, k2, k3, k4⟩ := HK0.out
    have := hX.size
    exact ⟨(hX.block B (by omega)).trans k1, (hX.block (B + 1) (by omega)).trans k2, k3.trans (hX.mono (by omega)), by omega⟩
  have HPK : Hid (∀ (x : Int) (k : Nat) W, -9223372036854775808 ≤ x ∧ x ≤ 9223372036854775807 → 1 ≤ k ∧ k ≤ 9223372036854775807 → Calls Tryz.prog 22 #[.int .i64 x, .int .i64 (k : Int)] W fun e w' => e = .returned (.int .i64 ((pkB x k : Nat) : Int)) ∧ w' = W) := fun x k W hx hk => pickB x k W hx.1 hx.2 hk.1 hk.2
  have HP0 := Hid.mk' (fun W => HPK.out h0 1152921504606846977 W q0 (by decide))
  have HP1 := Hid.mk' (fun W => HPK.out h1 1152921504606846977 W q1 (by decide))
  have HP5 := Hid.mk' (fun W => HPK.out h5 1152921504606846977 W q5 (by decide))
  have HP6 := Hid.mk' (fun W => HPK.out h6 3 W q6 (by decide))
  have HC : Hid (∀ i, i < n → ∃ q off x t, ad = some ⟨q, off, none⟩ ∧ l.getD i (0, ⟨#[]⟩) = (x, t) ∧ (∀ X, Below (B + 2) w0 X → X.cell? ⟨q, off + i * 2, none⟩ = some (.int .i64 x) ∧ X.cell? ⟨q, off + i * 2 + 1, none⟩ = some (.string t)) ∧ (∀ W, Calls Tryz.prog 44 #[.agg #[.int .i64 x, .string t]] W fun r w' => r = .returned (.agg #[.int .i64 (fitF (x, t)).1, .string (fitF (x, t)).2]) ∧ Below W.heap.size W w') ∧ madeP l (i + 1) = madeP l i ++ [fitF (x, t)]) := fun i hin => by
    obtain ⟨q, off, rfl, hq, hc⟩ := k1 (by omega)
    have hm : l.getD i (0, ⟨#[]⟩) ∈ l := by
      rw [List.getD_eq_getElem?_getD, List.getElem?_eq_getElem (by omega)]
      exact List.getElem_mem ..
    have hb := hls _ hm
    have hs := madeP_step l i (by omega)
    refine ⟨q, off, _, _, rfl, rfl, fun X hX => ?_, fun W => fit_any _ _ W hb.1 hb.2.1 hb.2.2, hs⟩
    have hB2 := (HH.out X hX).2.2.1
    exact ⟨(hB2.cell (p := ⟨q, off + i * 2, none⟩) (by rw [← hB]; exact hq)).trans (hc i (by omega)).1, (hB2.cell (p := ⟨q, off + i * 2 + 1, none⟩) (by rw [← hB]; exact hq)).trans (hc i (by omega)).2⟩
  have HN := Hid.mk' hn
  have HL : Hid (w0.heap.size = B + 2) := HK0.out.2.2.2
  have hnb : n ≤ 1125899906842624 := by omega
  rw [hn]
  unfold hdV
  clear k1 hls q0 q1 q5 q6 HPK HK0 hi hz0 hz1 hz2 hl hn
  go_enter Tryz.func21, Tryz.ntmps21
  go_wp2_with fail
  clear hw0
  go_loopw [6, 7] (fun s6 s7 wr => ∃ (k : Nat) (p : Option Addr) (c : Nat), s6 = .slice p k c ∧ s7 = .int .i64 (k : Int) ∧ k ≤ n ∧ k ≤ 200 ∧ Hid (wr.ownsRow (B + 2) 26 2 (.slice p k c) k (lnV (madeP l k)) ∧ Below (B + 2) w0 wr)) (fun _ s7 _ => 200 - (intOf s7).toNat)
  case atStart => exact ⟨0, none, 0, rfl, rfl, by omega, by omega, World.ownsRow_nil _ _ _ _, Below.refl _ _⟩
  case round =>
    obtain ⟨k, p, c, rfl, rfl, hkn, hk3, HX⟩ := hrel
    rename World => wr
    by_cases hlt : k < n ∧ k < 200
    · obtain ⟨hl1, hl2⟩ := hlt
      obtain ⟨q, off, x, t, rfl, hx, hcx, hft, hst⟩ := HC.out k hl1
      have l1 : (k : Int) < (n : Int) := by omega
      have l2 : (k : Int) < 200 := by omega
      have l0 : (0 : Int) ≤ (k : Int) := by omega
      obtain ⟨e1, e2⟩ := hcx wr HX.out.2
      have HST := Hid.mk' hst
      have HKL := Hid.mk' (And.intro hl1 hl2)
      have HFT := Hid.mk' hft
      obtain ⟨y, u, hyu⟩ : ∃ y u, fitF (x, t) = (y, u) := ⟨_, _, rfl⟩
      rw [hyu] at HST HFT
      have hsL := (HH.out wr HX.out.2).2.2.2
      clear hx hcx hft hst hkn hyu hl1 hl2
      go_wp2_with (first
        | (go_at_call 44; refine (HFT.out wr).mono ?_; rintro r w5 ⟨rfl, hb5⟩; have HB5 := Hid.mk' hb5; have hs5 := hb5.size; have HX5 : Hid (w5.ownsRow (B + 2) 26 2 (.slice p k c) k (lnV (madeP l k)) ∧ Below (B + 2) w0 w5) := ⟨ownB HX.out.1 hb5, HX.out.2.trans (hb5.mono hsL)⟩; clear hb5)
        | (at_builtin; refine wpList_append_own_at _ rfl _ _ 24 rfl (B + 2) 26 i0 _ 2 24 Tryz.underlying24 HI.out.1 HI.out.2.1 HI.out.2.2.1 HI.out.2.2.2 rfl (by decide) _ _ _ rfl (HX5.out.1.alloc _) ⟨w5.heap.size, 0, none⟩ 1 1 [.int .i64 y, .string u] rfl rfl (World.news_of_block (cs := #[.int .i64 y, .string u]) (t := 26) (fr := (0, 0)) (heap_alloc_new _ _)) (ln_one _ _) (by unfold maxLen; omega) (by omega) (by simp only [World.size_alloc]; omega) ?_; intro v6 w6 ho6 hg6 _ hat6; obtain ⟨p6, c6, rfl⟩ := row_shape ho6; have HO6 := Hid.mk' ho6; have HG6 := Hid.mk' hg6; clear ho6 hg6 hat6)
        | fail)
      have hb6 : Below (B + 2) w0 w6 := (HX5.out.2.alloc (by omega) _).grown HG6.out (by simp; omega) (fun q hq => (HX5.out.1.lt q hq).1)
      have ho7 : w6.ownsRow (B + 2) 26 2 (.slice p6 (k + 1) c6) (k + 1) (lnV (madeP l (k + 1))) := by
        rw [HST.out, lnV_append]
        exact HO6.out
      have HR6 := Hid.mk' (And.intro ho7 hb6)
      clear hb6 ho7
      go_roundw
      case rel => exact ⟨k + 1, p6, c6, rfl, by simp, HKL.out.1, HKL.out.2, HR6.out⟩
      case measure => have := HKL.out; simp [intOf]; omega
    · have hcase : (k = n ∧ ¬ (k : Int) < (n : Int)) ∨ ((k : Int) < (n : Int) ∧ k = 200 ∧ ¬ (k : Int) < 200) := by omega
      have hke : k = min n 200 := by omega
      have HKE := Hid.mk' hke
      have hkb : k ≤ 200 := hk3
      have HZ : Hid (Below (B + 2) w0 wr) := HX.out.2
      have HLN : Hid (∀ W, Calls Tryz.prog 23 #[] W fun e w' => ∃ p c, e = .returned (.slice p 2 c) ∧ w'.ownsRow W.heap.size 26 2 (.slice p 2 c) 2 (lnV exB) ∧ Below W.heap.size W w') := linesB
      clear hlt hke
      by_cases hk0 : k = 0
      · have hn0 : n = 0 := by omega
        have HML : Hid ((madeL l).length = 2 ∧ madeL l = exB) := by
          have e : madeL l = exB := by unfold madeL; rw [if_pos (HN.out.trans hn0)]
          exact ⟨by rw [e]; rfl, e⟩
        subst hk0
        have q1 : ¬ ((0 : Nat) : Int) < (n : Int) := by omega
        subst hn0
        clear hcase hkn hk3
        go_upto_region 9 with (go_at_call 23; refine (HLN.out wr).mono ?_; rintro r w5 ⟨p5, c5, rfl, hv5, hb5⟩; have HV5 : Hid (w5.ownsRow (B + 2) 26 2 (.slice p5 2 c5) 2 (lnV exB)) := rowM hv5 (fun k _ => rfl) (HH.out wr HZ.out).2.2.2; have HZ5 : Hid (Below (B + 2) w0 w5) := HZ.out.trans (hb5.mono (HH.out wr HZ.out).2.2.2); clear hv5 hb5)
        have HV6 : Hid (w5.ownsRow (B + 2) 26 2 (.slice p5 2 c5) (madeL l).length (lnV (madeL l))) := by rw [HML.out.1, HML.out.2]; exact HV5.out
        have hlt9 : B + 1 < w5.heap.size := by have h1 := (HH.out w5 HZ5.out).2.2.2; omega
        refine (wpIn_wide (n := 6)).1 ?_
        refine region_rel (by kernel_rfl) (fun zz => { tmps := #[.agg #[.int .i64 h0, .int .i64 h1, .int .i64 h2, .int .i64 h3, .int .i64 h4, .int .i64 h5, .int .i64 h6, .int .i64 h7, .int .i64 h8], .slice ad 0 cp, .pointer (some ⟨B, 0, none⟩), undef, .pointer (some ⟨B + 1, 0, none⟩), zz 18, .slice p5 2 c5, .int .i64 0, .int .i64 1152921504606846977, .int .i64 0, .slice ad 0 cp, .int .i64 0, .bool false, .bool false, undef, undef, .bool false, u17, u18, u19, u20, u21, u22, u23, u24, u25, u26, .slice p 0 c, .int .i64 0, .bool true, .slice p5 2 c5, zz 0, zz 1, zz 2, zz 3, zz 4, zz 5, zz 6, zz 7, zz 8, zz 9, zz 10, zz 11, zz 12, zz 13, zz 14, zz 15, zz 16], defers := [] }) (fun j => if j = 18 then .slice none 0 0 else undef) _ (fun L zz Z => DI (B + 1) 17 w5 (fun j => if j = 0 then .pointer (some ⟨B, 0, none⟩) else if j = 1 then .int .i64 h0 else if j = 2 then .int .i64 1152921504606846977 else if j = 3 then .int .i64 ((pkB h0 1152921504606846977 : Nat) : Int) else if j = 4 then .pointer (some ⟨B, 1, none⟩) else if j = 5 then .int .i64 h1 else if j = 6 then .int .i64 1152921504606846977 else if j = 7 then .int .i64 ((pkB h1 1152921504606846977 : Nat) : Int) else if j = 8 then .pointer (some ⟨B, 5, none⟩) else if j = 9 then .int .i64 h5 else if j = 10 then .int .i64 1152921504606846977 else if j = 11 then .int .i64 ((pkB h5 1152921504606846977 : Nat) : Int) else if j = 12 then .pointer (some ⟨B, 6, none⟩) else if j = 13 then .int .i64 h6 else if j = 14 then .int .i64 ((pkB h6 3 : Nat) : Int) else if j = 15 then .agg #[.int .i64 ((pkB h0 1152921504606846977 : Nat) : Int), .int .i64 ((pkB h1 1152921504606846977 : Nat) : Int), .int .i64 0, .int .i64 0, .int .i64 0, .int .i64 ((pkB h5 1152921504606846977 : Nat) : Int), .int .i64 ((pkB h6 3 : Nat) : Int), .int .i64 0, .int .i64 0] else if j = 16 then .slice p5 2 c5 else if j = 18 then .slice p5 2 c5 else undef) #[.int .i64 ((pkB h0 1152921504606846977 : Nat) : Int), .int .i64 ((pkB h1 1152921504606846977 : Nat) : Int), .int .i64 0, .int .i64 0, .int .i64 0, .int .i64 ((pkB h5 1152921504606846977 : Nat) : Int), .int .i64 ((pkB h6 3 : Nat) : Int), .int .i64 0, .int .i64 0] 23 L zz Z) (DI.init hlt9) (deps_of' (by kernel_rfl)) ?_ ?_
        · intro L zz Z hI i0 hi0 hL op ho hdone KK hKK
          have hlt : i0 < 19 := hi0
          rcases (show i0 = 0 ∨ i0 = 1 ∨ i0 = 2 ∨ i0 = 3 ∨ i0 = 4 ∨ i0 = 5 ∨ i0 = 6 ∨ i0 = 7 ∨ i0 = 8 ∨ i0 = 9 ∨ i0 = 10 ∨ i0 = 11 ∨ i0 = 12 ∨ i0 = 13 ∨ i0 = 14 ∨ i0 = 15 ∨ i0 = 16 ∨ i0 = 17 ∨ i0 = 18 by omega) with rfl | rfl | rfl | rfl | rfl | rfl | rfl | rfl | rfl | rfl | rfl | rfl | rfl | rfl | rfl | rfl | rfl | rfl | rfl
          · simp at ho; subst ho; simp [Region.binds] at hdone
            have hKX := hKK (.pointer (some ⟨B, 0, none⟩)) _ (hI.step 0 (by decide) rfl)
            simp [wpOpIn, Region.wanted, yielded, Oper.wpIn, Oper.semAt_eq, execOp, Oper.uponIn, go_sem]
            first | exact hKX | (simp [upd] at hKX; exact hKX) | (simp [upd] at hKX ⊢; exact hKX)
          · simp at ho; subst ho; simp [Region.binds] at hdone
            have e0 : zz 0 = .pointer (some ⟨B, 0, none⟩) := hI.val 0 (by decide) (by simp [hdone])
            obtain ⟨kk, rfl⟩ := hI.at 1 (by decide) hL
            have p0 := cell_at (k := 0) (HH.out (w5.drewN kk) (HZ5.out.drewN' kk)).1 rfl
            have hKX := hKK (.int .i64 h0) _ (hI.step 1 (by decide) rfl)
            simp [wpOpIn, Region.wanted, yielded, Oper.wpIn, Oper.semAt_eq, execOp, Oper.uponIn, go_sem, e0, p0]
            first | exact hKX | (simp [upd, e0] at hKX; exact hKX) | (simp [upd, e0] at hKX ⊢; exact hKX)
          · simp at ho; subst ho; simp [Region.binds] at hdone
            have hKX := hKK (.int .i64 1152921504606846977) _ (hI.step 2 (by decide) rfl)
            simp [wpOpIn, Region.wanted, yielded, Oper.wpIn, Oper.semAt_eq, execOp, Oper.uponIn, go_sem]
            first | exact hKX | (simp [upd] at hKX; exact hKX) | (simp [upd] at hKX ⊢; exact hKX)
          · simp at ho; subst ho; simp [Region.binds] at hdone
            have e1 : zz 1 = .int .i64 h0 := hI.val 1 (by decide) (by simp [hdone])
            have e2 : zz 2 = .int .i64 1152921504606846977 := hI.val 2 (by decide) (by simp [hdone])
            simp [wpOpIn, Region.wanted, yielded, Oper.wpIn, Oper.semAt_eq, execOp, Oper.uponIn, go_sem, e1, e2]
            refine ⟨trivial, ?_⟩
            refine CallsIn.mono (callsIn_wide.2 (HP0.out Z)) ?_
            rintro r Y ⟨rfl, hY⟩
            have hY2 := hY.symm
            subst hY2
            clear hY
            have hKX := hKK (.int .i64 ((pkB h0 1152921504606846977 : Nat) : Int)) _ (hI.step 3 (by decide) rfl)
            first | exact hKX | (simp [upd, e1, e2] at hKX; exact hKX) | (simp [upd, e1, e2] at hKX ⊢; exact hKX)
          · simp at ho; subst ho; simp [Region.binds] at hdone
            have hKX := hKK (.pointer (some ⟨B, 1, none⟩)) _ (hI.step 4 (by decide) rfl)
            simp [wpOpIn, Region.wanted, yielded, Oper.wpIn, Oper.semAt_eq, execOp, Oper.uponIn, go_sem]
            first | exact hKX | (simp [upd] at hKX; exact hKX) | (simp [upd] at hKX ⊢; exact hKX)
          · simp at ho; subst ho; simp [Region.binds] at hdone
            have e4 : zz 4 = .pointer (some ⟨B, 1, none⟩) := hI.val 4 (by decide) (by simp [hdone])
            obtain ⟨kk, rfl⟩ := hI.at 5 (by decide) hL
            have p1 := cell_at (k := 1) (HH.out (w5.drewN kk) (HZ5.out.drewN' kk)).1 rfl
            have hKX := hKK (.int .i64 h1) _ (hI.step 5 (by decide) rfl)
            simp [wpOpIn, Region.wanted, yielded, Oper.wpIn, Oper.semAt_eq, execOp, Oper.uponIn, go_sem, e4, p1]
            first | exact hKX | (simp [upd, e4] at hKX; exact hKX) | (simp [upd, e4] at hKX ⊢; exact hKX)
          · simp at ho; subst ho; simp [Region.binds] at hdone
            have hKX := hKK (.int .i64 1152921504606846977) _ (hI.step 6 (by decide) rfl)
            simp [wpOpIn, Region.wanted, yielded, Oper.wpIn, Oper.semAt_eq, execOp, Oper.uponIn, go_sem]
            first | exact hKX | (simp [upd] at hKX; exact hKX) | (simp [upd] at hKX ⊢; exact hKX)
          · simp at ho; subst ho; simp [Region.binds] at hdone
            have e5 : zz 5 = .int .i64 h1 := hI.val 5 (by decide) (by simp [hdone])
            have e6 : zz 6 = .int .i64 1152921504606846977 := hI.val 6 (by decide) (by simp [hdone])
            simp [wpOpIn, Region.wanted, yielded, Oper.wpIn, Oper.semAt_eq, execOp, Oper.uponIn, go_sem, e5, e6]
            refine ⟨trivial, ?_⟩
            refine CallsIn.mono (callsIn_wide.2 (HP1.out Z)) ?_
            rintro r Y ⟨rfl, hY⟩
            have hY2 := hY.symm
            subst hY2
            clear hY
            have hKX := hKK (.int .i64 ((pkB h1 1152921504606846977 : Nat) : Int)) _ (hI.step 7 (by decide) rfl)
            first | exact hKX | (simp [upd, e5, e6] at hKX; exact hKX) | (simp [upd, e5, e6] at hKX ⊢; exact hKX)
          · simp at ho; subst ho; simp [Region.binds] at hdone
            have hKX := hKK (.pointer (some ⟨B, 5, none⟩)) _ (hI.step 8 (by decide) rfl)
            simp [wpOpIn, Region.wanted, yielded, Oper.wpIn, Oper.semAt_eq, execOp, Oper.uponIn, go_sem]
            first | exact hKX | (simp [upd] at hKX; exact hKX) | (simp [upd] at hKX ⊢; exact hKX)
          · simp at ho; subst ho; simp [Region.binds] at hdone
            have e8 : zz 8 = .pointer (some ⟨B, 5, none⟩) := hI.val 8 (by decide) (by simp [hdone])
            obtain ⟨kk, rfl⟩ := hI.at 9 (by decide) hL
            have p5 := cell_at (k := 5) (HH.out (w5.drewN kk) (HZ5.out.drewN' kk)).1 rfl
            have hKX := hKK (.int .i64 h5) _ (hI.step 9 (by decide) rfl)
            simp [wpOpIn, Region.wanted, yielded, Oper.wpIn, Oper.semAt_eq, execOp, Oper.uponIn, go_sem, e8, p5]
            first | exact hKX | (simp [upd, e8] at hKX; exact hKX) | (simp [upd, e8] at hKX ⊢; exact hKX)
          · simp at ho; subst ho; simp [Region.binds] at hdone
            have hKX := hKK (.int .i64 1152921504606846977) _ (hI.step 10 (by decide) rfl)
            simp [wpOpIn, Region.wanted, yielded, Oper.wpIn, Oper.semAt_eq, execOp, Oper.uponIn, go_sem]
            first | exact hKX | (simp [upd] at hKX; exact hKX) | (simp [upd] at hKX ⊢; exact hKX)
          · simp at ho; subst ho; simp [Region.binds] at hdone
            have e9 : zz 9 = .int .i64 h5 := hI.val 9 (by decide) (by simp [hdone])
            have e10 : zz 10 = .int .i64 1152921504606846977 := hI.val 10 (by decide) (by simp [hdone])
            simp [wpOpIn, Region.wanted, yielded, Oper.wpIn, Oper.semAt_eq, execOp, Oper.uponIn, go_sem, e9, e10]
            refine ⟨trivial, ?_⟩
            refine CallsIn.mono (callsIn_wide.2 (HP5.out Z)) ?_
            rintro r Y ⟨rfl, hY⟩
            have hY2 := hY.symm
            subst hY2
            clear hY
            have hKX := hKK (.int .i64 ((pkB h5 1152921504606846977 : Nat) : Int)) _ (hI.step 11 (by decide) rfl)
            first | exact hKX | (simp [upd, e9, e10] at hKX; exact hKX) | (simp [upd, e9, e10] at hKX ⊢; exact hKX)
          · simp at ho; subst ho; simp [Region.binds] at hdone
            have hKX := hKK (.pointer (some ⟨B, 6, none⟩)) _ (hI.step 12 (by decide) rfl)
            simp [wpOpIn, Region.wanted, yielded, Oper.wpIn, Oper.semAt_eq, execOp, Oper.uponIn, go_sem]
            first | exact hKX | (simp [upd] at hKX; exact hKX) | (simp [upd] at hKX ⊢; exact hKX)
          · simp at ho; subst ho; simp [Region.binds] at hdone
            have e12 : zz 12 = .pointer (some ⟨B, 6, none⟩) := hI.val 12 (by decide) (by simp [hdone])
            obtain ⟨kk, rfl⟩ := hI.at 13 (by decide) hL
            have p6 := cell_at (k := 6) (HH.out (w5.drewN kk) (HZ5.out.drewN' kk)).1 rfl
            have hKX := hKK (.int .i64 h6) _ (hI.step 13 (by decide) rfl)
            simp [wpOpIn, Region.wanted, yielded, Oper.wpIn, Oper.semAt_eq, execOp, Oper.uponIn, go_sem, e12, p6]
            first | exact hKX | (simp [upd, e12] at hKX; exact hKX) | (simp [upd, e12] at hKX ⊢; exact hKX)
          · simp at ho; subst ho; simp [Region.binds] at hdone
            have e13 : zz 13 = .int .i64 h6 := hI.val 13 (by decide) (by simp [hdone])
            simp [wpOpIn, Region.wanted, yielded, Oper.wpIn, Oper.semAt_eq, execOp, Oper.uponIn, go_sem, e13]
            refine ⟨trivial, ?_⟩
            refine CallsIn.mono (callsIn_wide.2 (HP6.out Z)) ?_
            rintro r Y ⟨rfl, hY⟩
            have hY2 := hY.symm
            subst hY2
            clear hY
            have hKX := hKK (.int .i64 ((pkB h6 3 : Nat) : Int)) _ (hI.step 14 (by decide) rfl)
            first | exact hKX | (simp [upd, e13] at hKX; exact hKX) | (simp [upd, e13] at hKX ⊢; exact hKX)
          · simp at ho; subst ho; simp [Region.binds] at hdone
            have e3 : zz 3 = .int .i64 ((pkB h0 1152921504606846977 : Nat) : Int) := hI.val 3 (by decide) (by simp [hdone])
            have e7 : zz 7 = .int .i64 ((pkB h1 1152921504606846977 : Nat) : Int) := hI.val 7 (by decide) (by simp [hdone])
            have e11 : zz 11 = .int .i64 ((pkB h5 1152921504606846977 : Nat) : Int) := hI.val 11 (by decide) (by simp [hdone])
            have e14 : zz 14 = .int .i64 ((pkB h6 3 : Nat) : Int) := hI.val 14 (by decide) (by simp [hdone])
            have hKX := hKK (.agg #[.int .i64 ((pkB h0 1152921504606846977 : Nat) : Int), .int .i64 ((pkB h1 1152921504606846977 : Nat) : Int), .int .i64 0, .int .i64 0, .int .i64 0, .int .i64 ((pkB h5 1152921504606846977 : Nat) : Int), .int .i64 ((pkB h6 3 : Nat) : Int), .int .i64 0, .int .i64 0]) _ (hI.step 15 (by decide) rfl)
            simp [wpOpIn, Region.wanted, yielded, Oper.wpIn, Oper.semAt_eq, execOp, Oper.uponIn, go_sem, e3, e7, e11, e14]
            first | exact hKX | (simp [upd, e3, e7, e11, e14] at hKX; exact hKX) | (simp [upd, e3, e7, e11, e14] at hKX ⊢; exact hKX)
          · simp at ho; subst ho; simp [Region.binds] at hdone
            have hKX := hKK (.slice p5 2 c5) _ (hI.step 16 (by decide) rfl)
            simp [wpOpIn, Region.wanted, yielded, Oper.wpIn, Oper.semAt_eq, execOp, Oper.uponIn, go_sem]
            first | exact hKX | (simp [upd] at hKX; exact hKX) | (simp [upd] at hKX ⊢; exact hKX)
          · simp at ho; subst ho; simp [Region.binds] at hdone
            have e15 : zz 15 = .agg #[.int .i64 ((pkB h0 1152921504606846977 : Nat) : Int), .int .i64 ((pkB h1 1152921504606846977 : Nat) : Int), .int .i64 0, .int .i64 0, .int .i64 0, .int .i64 ((pkB h5 1152921504606846977 : Nat) : Int), .int .i64 ((pkB h6 3 : Nat) : Int), .int .i64 0, .int .i64 0] := hI.val 15 (by decide) (by simp [hdone])
            have hal : ∀ j, j + 1 < 17 → L j = true := fun j hj => by
              rcases (show j = 0 ∨ j = 1 ∨ j = 2 ∨ j = 3 ∨ j = 4 ∨ j = 5 ∨ j = 6 ∨ j = 7 ∨ j = 8 ∨ j = 9 ∨ j = 10 ∨ j = 11 ∨ j = 12 ∨ j = 13 ∨ j = 14 ∨ j = 15 by omega) with rfl | rfl | rfl | rfl | rfl | rfl | rfl | rfl | rfl | rfl | rfl | rfl | rfl | rfl | rfl | rfl <;> simp [hdone]
            obtain ⟨kk, rfl⟩ := hI.one hL
            obtain ⟨-, q3, -⟩ := HH.out (w5.drewN kk) (HZ5.out.drewN' kk)
            have r0 := cell_at (k := 0) q3 rfl
            have r1 := cell_at (k := 1) q3 rfl
            have r2 := cell_at (k := 2) q3 rfl
            have r3 := cell_at (k := 3) q3 rfl
            have r4 := cell_at (k := 4) q3 rfl
            have r5 := cell_at (k := 5) q3 rfl
            have r6 := cell_at (k := 6) q3 rfl
            have r7 := cell_at (k := 7) q3 rfl
            have r8 := cell_at (k := 8) q3 rfl
            have g0 := frozen_at (k := 0) q3
            have g1 := frozen_at (k := 1) q3
            have g2 := frozen_at (k := 2) q3
            have g3 := frozen_at (k := 3) q3
            have g4 := frozen_at (k := 4) q3
            have g5 := frozen_at (k := 5) q3
            have g6 := frozen_at (k := 6) q3
            have g7 := frozen_at (k := 7) q3
            have g8 := frozen_at (k := 8) q3
            have hKX := hKK undef _ (hI.store (Y := ((((((((((w5.drewN kk).setCell ⟨B + 1, 0, none⟩ (.int .i64 ((pkB h0 1152921504606846977 : Nat) : Int))).setCell ⟨B + 1, 1, none⟩ (.int .i64 ((pkB h1 1152921504606846977 : Nat) : Int))).setCell ⟨B + 1, 2, none⟩ (.int .i64 0)).setCell ⟨B + 1, 3, none⟩ (.int .i64 0)).setCell ⟨B + 1, 4, none⟩ (.int .i64 0)).setCell ⟨B + 1, 5, none⟩ (.int .i64 ((pkB h5 1152921504606846977 : Nat) : Int))).setCell ⟨B + 1, 6, none⟩ (.int .i64 ((pkB h6 3 : Nat) : Int))).setCell ⟨B + 1, 7, none⟩ (.int .i64 0)).setCell ⟨B + 1, 8, none⟩ (.int .i64 0))) hal (nine_put _ _ _ _ _ _ _ _ _ q3) (nine_below _ _ _ _ _ _ _ _ _ (Below.refl _ _) (Nat.le_refl _)) (nine_oth _ _ _ _ _ _ _ _ _ _ _) hL)
            simp [wpOpIn, Region.wanted, yielded, Oper.wpIn, Oper.semAt_eq, execOp, Oper.uponIn, go_sem, e15, q3, r0, r1, r2, r3, r4, r5, r6, r7, r8, g0, g1, g2, g3, g4, g5, g6, g7, g8]
            first | exact hKX | (simp [upd, e15] at hKX; exact hKX) | (simp [upd, e15] at hKX ⊢; exact hKX)
          · simp at ho; subst ho; simp [Region.binds] at hdone
            have e16 : zz 16 = .slice p5 2 c5 := hI.val 16 (by decide) (by simp [hdone])
            have hKX := hKK (.slice p5 2 c5) _ (hI.step 18 (by decide) rfl)
            simp [wpOpIn, Region.wanted, yielded, Oper.wpIn, Oper.semAt_eq, execOp, Oper.uponIn, go_sem, e16]
            first | exact hKX | (simp [upd, e16] at hKX; exact hKX) | (simp [upd, e16] at hKX ⊢; exact hKX)
        · intro L zz Z hall hI
          have e18 : zz 18 = .slice p5 2 c5 := hI.val 18 (by decide) (hall 18 (by decide))
          obtain ⟨q3, q4, q5⟩ := hI.two (hall 17 (by decide))
          have HQ := Hid.mk' ((HH.out w5 HZ5.out).2.2.1.trans (q4.mono (by omega)))
          have HQ2 : Hid (LsAt (.slice p5 2 c5) (madeL l) Z) := own_ls (rowM (base2 := B) HV6.out (fun k hk => q5 k (by omega)) (by omega))
          have r0 := cell_at (k := 0) q3 rfl
          have r1 := cell_at (k := 1) q3 rfl
          have r2 := cell_at (k := 2) q3 rfl
          have r3 := cell_at (k := 3) q3 rfl
          have r4 := cell_at (k := 4) q3 rfl
          have r5 := cell_at (k := 5) q3 rfl
          have r6 := cell_at (k := 6) q3 rfl
          have r7 := cell_at (k := 7) q3 rfl
          have r8 := cell_at (k := 8) q3 rfl
          rw [e18]
          clear hI q3 q4 q5 hall e18
          go_wp2_with fail
          refine bodyPost_ret (v := .tuple #[.agg #[.int .i64 ((pkB h0 1152921504606846977 : Nat) : Int), .int .i64 ((pkB h1 1152921504606846977 : Nat) : Int), .int .i64 0, .int .i64 0, .int .i64 0, .int .i64 ((pkB h5 1152921504606846977 : Nat) : Int), .int .i64 ((pkB h6 3 : Nat) : Int), .int .i64 0, .int .i64 0], .slice p5 2 c5]) (by simp [results, Tryz.results21, go_sem, r0, r1, r2, r3, r4, r5, r6, r7, r8]) rfl ⟨_, _, by rw [HML.out.1], by rw [HML.out.1]; exact HQ2.out, by first | exact HQ.out | (rw [hB]; exact HQ.out)⟩
      · have hk1 : ¬ (k : Int) = 0 := by omega
        have hme : madeL l = madeP l k := by
          unfold madeL
          rw [if_neg (by rw [HN.out]; omega), HKE.out, HN.out]
        have HML : Hid ((madeL l).length = k) := by rw [hme]; exact madeP_len l k (by rw [HN.out]; exact hkn)
        have HV6 : Hid (wr.ownsRow (B + 2) 26 2 (.slice p k c) (madeL l).length (lnV (madeL l))) := by rw [HML.out, hme]; exact HX.out.1
        clear hme
        rcases hcase with ⟨-, q1⟩ | ⟨q1, -, q2⟩
        · go_upto_region 9 with fail
          have hlt9 : B + 1 < wr.heap.size := by have h1 := (HH.out wr HZ.out).2.2.2; omega
          refine (wpIn_wide (n := 6)).1 ?_
          refine region_rel (by kernel_rfl) (fun zz => { tmps := #[.agg #[.int .i64 h0, .int .i64 h1, .int .i64 h2, .int .i64 h3, .int .i64 h4, .int .i64 h5, .int .i64 h6, .int .i64 h7, .int .i64 h8], .slice ad n cp, .pointer (some ⟨B, 0, none⟩), undef, .pointer (some ⟨B + 1, 0, none⟩), zz 18, .slice p k c, .int .i64 (k : Int), .int .i64 1152921504606846977, .int .i64 (k : Int), .slice ad n cp, .int .i64 (n : Int), .bool false, .bool false, undef, undef, .bool false, u17, u18, u19, u20, u21, u22, u23, u24, u25, u26, .slice p k c, .int .i64 (k : Int), .bool ((k : Int) == 0), undef, zz 0, zz 1, zz 2, zz 3, zz 4, zz 5, zz 6, zz 7, zz 8, zz 9, zz 10, zz 11, zz 12, zz 13, zz 14, zz 15, zz 16], defers := [] }) (fun j => if j = 18 then .slice none 0 0 else undef) _ (fun L zz Z => DI (B + 1) 17 wr (fun j => if j = 0 then .pointer (some ⟨B, 0, none⟩) else if j = 1 then .int .i64 h0 else if j = 2 then .int .i64 1152921504606846977 else if j = 3 then .int .i64 ((pkB h0 1152921504606846977 : Nat) : Int) else if j = 4 then .pointer (some ⟨B, 1, none⟩) else if j = 5 then .int .i64 h1 else if j = 6 then .int .i64 1152921504606846977 else if j = 7 then .int .i64 ((pkB h1 1152921504606846977 : Nat) : Int) else if j = 8 then .pointer (some ⟨B, 5, none⟩) else if j = 9 then .int .i64 h5 else if j = 10 then .int .i64 1152921504606846977 else if j = 11 then .int .i64 ((pkB h5 1152921504606846977 : Nat) : Int) else if j = 12 then .pointer (some ⟨B, 6, none⟩) else if j = 13 then .int .i64 h6 else if j = 14 then .int .i64 ((pkB h6 3 : Nat) : Int) else if j = 15 then .agg #[.int .i64 ((pkB h0 1152921504606846977 : Nat) : Int), .int .i64 ((pkB h1 1152921504606846977 : Nat) : Int), .int .i64 0, .int .i64 0, .int .i64 0, .int .i64 ((pkB h5 1152921504606846977 : Nat) : Int), .int .i64 ((pkB h6 3 : Nat) : Int), .int .i64 0, .int .i64 0] else if j = 16 then .slice p k c else if j = 18 then .slice p k c else undef) #[.int .i64 ((pkB h0 1152921504606846977 : Nat) : Int), .int .i64 ((pkB h1 1152921504606846977 : Nat) : Int), .int .i64 0, .int .i64 0, .int .i64 0, .int .i64 ((pkB h5 1152921504606846977 : Nat) : Int), .int .i64 ((pkB h6 3 : Nat) : Int), .int .i64 0, .int .i64 0] 23 L zz Z) (DI.init hlt9) (deps_of' (by kernel_rfl)) ?_ ?_
          · intro L zz Z hI i0 hi0 hL op ho hdone KK hKK
            have hlt : i0 < 19 := hi0
            rcases (show i0 = 0 ∨ i0 = 1 ∨ i0 = 2 ∨ i0 = 3 ∨ i0 = 4 ∨ i0 = 5 ∨ i0 = 6 ∨ i0 = 7 ∨ i0 = 8 ∨ i0 = 9 ∨ i0 = 10 ∨ i0 = 11 ∨ i0 = 12 ∨ i0 = 13 ∨ i0 = 14 ∨ i0 = 15 ∨ i0 = 16 ∨ i0 = 17 ∨ i0 = 18 by omega) with rfl | rfl | rfl | rfl | rfl | rfl | rfl | rfl | rfl | rfl | rfl | rfl | rfl | rfl | rfl | rfl | rfl | rfl | rfl
            · simp at ho; subst ho; simp [Region.binds] at hdone
              have hKX := hKK (.pointer (some ⟨B, 0, none⟩)) _ (hI.step 0 (by decide) rfl)
              simp [wpOpIn, Region.wanted, yielded, Oper.wpIn, Oper.semAt_eq, execOp, Oper.uponIn, go_sem]
              first | exact hKX | (simp [upd] at hKX; exact hKX) | (simp [upd] at hKX ⊢; exact hKX)
            · simp at ho; subst ho; simp [Region.binds] at hdone
              have e0 : zz 0 = .pointer (some ⟨B, 0, none⟩) := hI.val 0 (by decide) (by simp [hdone])
              obtain ⟨kk, rfl⟩ := hI.at 1 (by decide) hL
              have p0 := cell_at (k := 0) (HH.out (wr.drewN kk) (HZ.out.drewN' kk)).1 rfl
              have hKX := hKK (.int .i64 h0) _ (hI.step 1 (by decide) rfl)
              simp [wpOpIn, Region.wanted, yielded, Oper.wpIn, Oper.semAt_eq, execOp, Oper.uponIn, go_sem, e0, p0]
              first | exact hKX | (simp [upd, e0] at hKX; exact hKX) | (simp [upd, e0] at hKX ⊢; exact hKX)
            · simp at ho; subst ho; simp [Region.binds] at hdone
              have hKX := hKK (.int .i64 1152921504606846977) _ (hI.step 2 (by decide) rfl)
              simp [wpOpIn, Region.wanted, yielded, Oper.wpIn, Oper.semAt_eq, execOp, Oper.uponIn, go_sem]
              first | exact hKX | (simp [upd] at hKX; exact hKX) | (simp [upd] at hKX ⊢; exact hKX)
            · simp at ho; subst ho; simp [Region.binds] at hdone
              have e1 : zz 1 = .int .i64 h0 := hI.val 1 (by decide) (by simp [hdone])
              have e2 : zz 2 = .int .i64 1152921504606846977 := hI.val 2 (by decide) (by simp [hdone])
              simp [wpOpIn, Region.wanted, yielded, Oper.wpIn, Oper.semAt_eq, execOp, Oper.uponIn, go_sem, e1, e2]
              refine ⟨trivial, ?_⟩
              refine CallsIn.mono (callsIn_wide.2 (HP0.out Z)) ?_
              rintro r Y ⟨rfl, hY⟩
              have hY2 := hY.symm
              subst hY2
              clear hY
              have hKX := hKK (.int .i64 ((pkB h0 1152921504606846977 : Nat) : Int)) _ (hI.step 3 (by decide) rfl)
              first | exact hKX | (simp [upd, e1, e2] at hKX; exact hKX) | (simp [upd, e1, e2] at hKX ⊢; exact hKX)
            · simp at ho; subst ho; simp [Region.binds] at hdone
              have hKX := hKK (.pointer (some ⟨B, 1, none⟩)) _ (hI.step 4 (by decide) rfl)
              simp [wpOpIn, Region.wanted, yielded, Oper.wpIn, Oper.semAt_eq, execOp, Oper.uponIn, go_sem]
              first | exact hKX | (simp [upd] at hKX; exact hKX) | (simp [upd] at hKX ⊢; exact hKX)
            · simp at ho; subst ho; simp [Region.binds] at hdone
              have e4 : zz 4 = .pointer (some ⟨B, 1, none⟩) := hI.val 4 (by decide) (by simp [hdone])
              obtain ⟨kk, rfl⟩ := hI.at 5 (by decide) hL
              have p1 := cell_at (k := 1) (HH.out (wr.drewN kk) (HZ.out.drewN' kk)).1 rfl
              have hKX := hKK (.int .i64 h1) _ (hI.step 5 (by decide) rfl)
              simp [wpOpIn, Region.wanted, yielded, Oper.wpIn, Oper.semAt_eq, execOp, Oper.uponIn, go_sem, e4, p1]
              first | exact hKX | (simp [upd, e4] at hKX; exact hKX) | (simp [upd, e4] at hKX ⊢; exact hKX)
            · simp at ho; subst ho; simp [Region.binds] at hdone
              have hKX := hKK (.int .i64 1152921504606846977) _ (hI.step 6 (by decide) rfl)
              simp [wpOpIn, Region.wanted, yielded, Oper.wpIn, Oper.semAt_eq, execOp, Oper.uponIn, go_sem]
              first | exact hKX | (simp [upd] at hKX; exact hKX) | (simp [upd] at hKX ⊢; exact hKX)
            · simp at ho; subst ho; simp [Region.binds] at hdone
              have e5 : zz 5 = .int .i64 h1 := hI.val 5 (by decide) (by simp [hdone])
              have e6 : zz 6 = .int .i64 1152921504606846977 := hI.val 6 (by decide) (by simp [hdone])
              simp [wpOpIn, Region.wanted, yielded, Oper.wpIn, Oper.semAt_eq, execOp, Oper.uponIn, go_sem, e5, e6]
              refine ⟨trivial, ?_⟩
              refine CallsIn.mono (callsIn_wide.2 (HP1.out Z)) ?_
              rintro r Y ⟨rfl, hY⟩
              have hY2 := hY.symm
              subst hY2
              clear hY
              have hKX := hKK (.int .i64 ((pkB h1 1152921504606846977 : Nat) : Int)) _ (hI.step 7 (by decide) rfl)
              first | exact hKX | (simp [upd, e5, e6] at hKX; exact hKX) | (simp [upd, e5, e6] at hKX ⊢; exact hKX)
            · simp at ho; subst ho; simp [Region.binds] at hdone
              have hKX := hKK (.pointer (some ⟨B, 5, none⟩)) _ (hI.step 8 (by decide) rfl)
              simp [wpOpIn, Region.wanted, yielded, Oper.wpIn, Oper.semAt_eq, execOp, Oper.uponIn, go_sem]
              first | exact hKX | (simp [upd] at hKX; exact hKX) | (simp [upd] at hKX ⊢; exact hKX)
            · simp at ho; subst ho; simp [Region.binds] at hdone
              have e8 : zz 8 = .pointer (some ⟨B, 5, none⟩) := hI.val 8 (by decide) (by simp [hdone])
              obtain ⟨kk, rfl⟩ := hI.at 9 (by decide) hL
              have p5 := cell_at (k := 5) (HH.out (wr.drewN kk) (HZ.out.drewN' kk)).1 rfl
              have hKX := hKK (.int .i64 h5) _ (hI.step 9 (by decide) rfl)
              simp [wpOpIn, Region.wanted, yielded, Oper.wpIn, Oper.semAt_eq, execOp, Oper.uponIn, go_sem, e8, p5]
              first | exact hKX | (simp [upd, e8] at hKX; exact hKX) | (simp [upd, e8] at hKX ⊢; exact hKX)
            · simp at ho; subst ho; simp [Region.binds] at hdone
              have hKX := hKK (.int .i64 1152921504606846977) _ (hI.step 10 (by decide) rfl)
              simp [wpOpIn, Region.wanted, yielded, Oper.wpIn, Oper.semAt_eq, execOp, Oper.uponIn, go_sem]
              first | exact hKX | (simp [upd] at hKX; exact hKX) | (simp [upd] at hKX ⊢; exact hKX)
            · simp at ho; subst ho; simp [Region.binds] at hdone
              have e9 : zz 9 = .int .i64 h5 := hI.val 9 (by decide) (by simp [hdone])
              have e10 : zz 10 = .int .i64 1152921504606846977 := hI.val 10 (by decide) (by simp [hdone])
              simp [wpOpIn, Region.wanted, yielded, Oper.wpIn, Oper.semAt_eq, execOp, Oper.uponIn, go_sem, e9, e10]
              refine ⟨trivial, ?_⟩
              refine CallsIn.mono (callsIn_wide.2 (HP5.out Z)) ?_
              rintro r Y ⟨rfl, hY⟩
              have hY2 := hY.symm
              subst hY2
              clear hY
              have hKX := hKK (.int .i64 ((pkB h5 1152921504606846977 : Nat) : Int)) _ (hI.step 11 (by decide) rfl)
              first | exact hKX | (simp [upd, e9, e10] at hKX; exact hKX) | (simp [upd, e9, e10] at hKX ⊢; exact hKX)
            · simp at ho; subst ho; simp [Region.binds] at hdone
              have hKX := hKK (.pointer (some ⟨B, 6, none⟩)) _ (hI.step 12 (by decide) rfl)
              simp [wpOpIn, Region.wanted, yielded, Oper.wpIn, Oper.semAt_eq, execOp, Oper.uponIn, go_sem]
              first | exact hKX | (simp [upd] at hKX; exact hKX) | (simp [upd] at hKX ⊢; exact hKX)
            · simp at ho; subst ho; simp [Region.binds] at hdone
              have e12 : zz 12 = .pointer (some ⟨B, 6, none⟩) := hI.val 12 (by decide) (by simp [hdone])
              obtain ⟨kk, rfl⟩ := hI.at 13 (by decide) hL
              have p6 := cell_at (k := 6) (HH.out (wr.drewN kk) (HZ.out.drewN' kk)).1 rfl
              have hKX := hKK (.int .i64 h6) _ (hI.step 13 (by decide) rfl)
              simp [wpOpIn, Region.wanted, yielded, Oper.wpIn, Oper.semAt_eq, execOp, Oper.uponIn, go_sem, e12, p6]
              first | exact hKX | (simp [upd, e12] at hKX; exact hKX) | (simp [upd, e12] at hKX ⊢; exact hKX)
            · simp at ho; subst ho; simp [Region.binds] at hdone
              have e13 : zz 13 = .int .i64 h6 := hI.val 13 (by decide) (by simp [hdone])
              simp [wpOpIn, Region.wanted, yielded, Oper.wpIn, Oper.semAt_eq, execOp, Oper.uponIn, go_sem, e13]
              refine ⟨trivial, ?_⟩
              refine CallsIn.mono (callsIn_wide.2 (HP6.out Z)) ?_
              rintro r Y ⟨rfl, hY⟩
              have hY2 := hY.symm
              subst hY2
              clear hY
              have hKX := hKK (.int .i64 ((pkB h6 3 : Nat) : Int)) _ (hI.step 14 (by decide) rfl)
              first | exact hKX | (simp [upd, e13] at hKX; exact hKX) | (simp [upd, e13] at hKX ⊢; exact hKX)
            · simp at ho; subst ho; simp [Region.binds] at hdone
              have e3 : zz 3 = .int .i64 ((pkB h0 1152921504606846977 : Nat) : Int) := hI.val 3 (by decide) (by simp [hdone])
              have e7 : zz 7 = .int .i64 ((pkB h1 1152921504606846977 : Nat) : Int) := hI.val 7 (by decide) (by simp [hdone])
              have e11 : zz 11 = .int .i64 ((pkB h5 1152921504606846977 : Nat) : Int) := hI.val 11 (by decide) (by simp [hdone])
              have e14 : zz 14 = .int .i64 ((pkB h6 3 : Nat) : Int) := hI.val 14 (by decide) (by simp [hdone])
              have hKX := hKK (.agg #[.int .i64 ((pkB h0 1152921504606846977 : Nat) : Int), .int .i64 ((pkB h1 1152921504606846977 : Nat) : Int), .int .i64 0, .int .i64 0, .int .i64 0, .int .i64 ((pkB h5 1152921504606846977 : Nat) : Int), .int .i64 ((pkB h6 3 : Nat) : Int), .int .i64 0, .int .i64 0]) _ (hI.step 15 (by decide) rfl)
              simp [wpOpIn, Region.wanted, yielded, Oper.wpIn, Oper.semAt_eq, execOp, Oper.uponIn, go_sem, e3, e7, e11, e14]
              first | exact hKX | (simp [upd, e3, e7, e11, e14] at hKX; exact hKX) | (simp [upd, e3, e7, e11, e14] at hKX ⊢; exact hKX)
            · simp at ho; subst ho; simp [Region.binds] at hdone
              have hKX := hKK (.slice p k c) _ (hI.step 16 (by decide) rfl)
              simp [wpOpIn, Region.wanted, yielded, Oper.wpIn, Oper.semAt_eq, execOp, Oper.uponIn, go_sem]
              first | exact hKX | (simp [upd] at hKX; exact hKX) | (simp [upd] at hKX ⊢; exact hKX)
            · simp at ho; subst ho; simp [Region.binds] at hdone
              have e15 : zz 15 = .agg #[.int .i64 ((pkB h0 1152921504606846977 : Nat) : Int), .int .i64 ((pkB h1 1152921504606846977 : Nat) : Int), .int .i64 0, .int .i64 0, .int .i64 0, .int .i64 ((pkB h5 1152921504606846977 : Nat) : Int), .int .i64 ((pkB h6 3 : Nat) : Int), .int .i64 0, .int .i64 0] := hI.val 15 (by decide) (by simp [hdone])
              have hal : ∀ j, j + 1 < 17 → L j = true := fun j hj => by
                rcases (show j = 0 ∨ j = 1 ∨ j = 2 ∨ j = 3 ∨ j = 4 ∨ j = 5 ∨ j = 6 ∨ j = 7 ∨ j = 8 ∨ j = 9 ∨ j = 10 ∨ j = 11 ∨ j = 12 ∨ j = 13 ∨ j = 14 ∨ j = 15 by omega) with rfl | rfl | rfl | rfl | rfl | rfl | rfl | rfl | rfl | rfl | rfl | rfl | rfl | rfl | rfl | rfl <;> simp [hdone]
              obtain ⟨kk, rfl⟩ := hI.one hL
              obtain ⟨-, q3, -⟩ := HH.out (wr.drewN kk) (HZ.out.drewN' kk)
              have r0 := cell_at (k := 0) q3 rfl
              have r1 := cell_at (k := 1) q3 rfl
              have r2 := cell_at (k := 2) q3 rfl
              have r3 := cell_at (k := 3) q3 rfl
              have r4 := cell_at (k := 4) q3 rfl
              have r5 := cell_at (k := 5) q3 rfl
              have r6 := cell_at (k := 6) q3 rfl
              have r7 := cell_at (k := 7) q3 rfl
              have r8 := cell_at (k := 8) q3 rfl
              have g0 := frozen_at (k := 0) q3
              have g1 := frozen_at (k := 1) q3
              have g2 := frozen_at (k := 2) q3
              have g3 := frozen_at (k := 3) q3
              have g4 := frozen_at (k := 4) q3
              have g5 := frozen_at (k := 5) q3
              have g6 := frozen_at (k := 6) q3
              have g7 := frozen_at (k := 7) q3
              have g8 := frozen_at (k := 8) q3
              have hKX := hKK undef _ (hI.store (Y := ((((((((((wr.drewN kk).setCell ⟨B + 1, 0, none⟩ (.int .i64 ((pkB h0 1152921504606846977 : Nat) : Int))).setCell ⟨B + 1, 1, none⟩ (.int .i64 ((pkB h1 1152921504606846977 : Nat) : Int))).setCell ⟨B + 1, 2, none⟩ (.int .i64 0)).setCell ⟨B + 1, 3, none⟩ (.int .i64 0)).setCell ⟨B + 1, 4, none⟩ (.int .i64 0)).setCell ⟨B + 1, 5, none⟩ (.int .i64 ((pkB h5 1152921504606846977 : Nat) : Int))).setCell ⟨B + 1, 6, none⟩ (.int .i64 ((pkB h6 3 : Nat) : Int))).setCell ⟨B + 1, 7, none⟩ (.int .i64 0)).setCell ⟨B + 1, 8, none⟩ (.int .i64 0))) hal (nine_put _ _ _ _ _ _ _ _ _ q3) (nine_below _ _ _ _ _ _ _ _ _ (Below.refl _ _) (Nat.le_refl _)) (nine_oth _ _ _ _ _ _ _ _ _ _ _) hL)
              simp [wpOpIn, Region.wanted, yielded, Oper.wpIn, Oper.semAt_eq, execOp, Oper.uponIn, go_sem, e15, q3, r0, r1, r2, r3, r4, r5, r6, r7, r8, g0, g1, g2, g3, g4, g5, g6, g7, g8]
              first | exact hKX | (simp [upd, e15] at hKX; exact hKX) | (simp [upd, e15] at hKX ⊢; exact hKX)
            · simp at ho; subst ho; simp [Region.binds] at hdone
              have e16 : zz 16 = .slice p k c := hI.val 16 (by decide) (by simp [hdone])
              have hKX := hKK (.slice p k c) _ (hI.step 18 (by decide) rfl)
              simp [wpOpIn, Region.wanted, yielded, Oper.wpIn, Oper.semAt_eq, execOp, Oper.uponIn, go_sem, e16]
              first | exact hKX | (simp [upd, e16] at hKX; exact hKX) | (simp [upd, e16] at hKX ⊢; exact hKX)
          · intro L zz Z hall hI
            have e18 : zz 18 = .slice p k c := hI.val 18 (by decide) (hall 18 (by decide))
            obtain ⟨q3, q4, q5⟩ := hI.two (hall 17 (by decide))
            have HQ := Hid.mk' ((HH.out wr HZ.out).2.2.1.trans (q4.mono (by omega)))
            have HQ2 : Hid (LsAt (.slice p k c) (madeL l) Z) := own_ls (rowM (base2 := B) HV6.out (fun k hk => q5 k (by omega)) (by omega))
            have r0 := cell_at (k := 0) q3 rfl
            have r1 := cell_at (k := 1) q3 rfl
            have r2 := cell_at (k := 2) q3 rfl
            have r3 := cell_at (k := 3) q3 rfl
            have r4 := cell_at (k := 4) q3 rfl
            have r5 := cell_at (k := 5) q3 rfl
            have r6 := cell_at (k := 6) q3 rfl
            have r7 := cell_at (k := 7) q3 rfl
            have r8 := cell_at (k := 8) q3 rfl
            rw [e18]
            clear hI q3 q4 q5 hall e18
            go_wp2_with fail
            refine bodyPost_ret (v := .tuple #[.agg #[.int .i64 ((pkB h0 1152921504606846977 : Nat) : Int), .int .i64 ((pkB h1 1152921504606846977 : Nat) : Int), .int .i64 0, .int .i64 0, .int .i64 0, .int .i64 ((pkB h5 1152921504606846977 : Nat) : Int), .int .i64 ((pkB h6 3 : Nat) : Int), .int .i64 0, .int .i64 0], .slice p k c]) (by simp [results, Tryz.results21, go_sem, r0, r1, r2, r3, r4, r5, r6, r7, r8]) rfl ⟨_, _, by rw [HML.out], by rw [HML.out]; exact HQ2.out, by first | exact HQ.out | (rw [hB]; exact HQ.out)⟩
        · go_upto_region 9 with fail
          have hlt9 : B + 1 < wr.heap.size := by have h1 := (HH.out wr HZ.out).2.2.2; omega
          refine (wpIn_wide (n := 6)).1 ?_
          refine region_rel (by kernel_rfl) (fun zz => { tmps := #[.agg #[.int .i64 h0, .int .i64 h1, .int .i64 h2, .int .i64 h3, .int .i64 h4, .int .i64 h5, .int .i64 h6, .int .i64 h7, .int .i64 h8], .slice ad n cp, .pointer (some ⟨B, 0, none⟩), undef, .pointer (some ⟨B + 1, 0, none⟩), zz 18, .slice p k c, .int .i64 (k : Int), .int .i64 1152921504606846977, .int .i64 (k : Int), .slice ad n cp, .int .i64 (n : Int), .bool true, .bool true, .int .i64 (k : Int), .bool false, .bool false, u17, u18, u19, u20, u21, u22, u23, u24, u25, u26, .slice p k c, .int .i64 (k : Int), .bool ((k : Int) == 0), undef, zz 0, zz 1, zz 2, zz 3, zz 4, zz 5, zz 6, zz 7, zz 8, zz 9, zz 10, zz 11, zz 12, zz 13, zz 14, zz 15, zz 16], defers := [] }) (fun j => if j = 18 then .slice none 0 0 else undef) _ (fun L zz Z => DI (B + 1) 17 wr (fun j => if j = 0 then .pointer (some ⟨B, 0, none⟩) else if j = 1 then .int .i64 h0 else if j = 2 then .int .i64 1152921504606846977 else if j = 3 then .int .i64 ((pkB h0 1152921504606846977 : Nat) : Int) else if j = 4 then .pointer (some ⟨B, 1, none⟩) else if j = 5 then .int .i64 h1 else if j = 6 then .int .i64 1152921504606846977 else if j = 7 then .int .i64 ((pkB h1 1152921504606846977 : Nat) : Int) else if j = 8 then .pointer (some ⟨B, 5, none⟩) else if j = 9 then .int .i64 h5 else if j = 10 then .int .i64 1152921504606846977 else if j = 11 then .int .i64 ((pkB h5 1152921504606846977 : Nat) : Int) else if j = 12 then .pointer (some ⟨B, 6, none⟩) else if j = 13 then .int .i64 h6 else if j = 14 then .int .i64 ((pkB h6 3 : Nat) : Int) else if j = 15 then .agg #[.int .i64 ((pkB h0 1152921504606846977 : Nat) : Int), .int .i64 ((pkB h1 1152921504606846977 : Nat) : Int), .int .i64 0, .int .i64 0, .int .i64 0, .int .i64 ((pkB h5 1152921504606846977 : Nat) : Int), .int .i64 ((pkB h6 3 : Nat) : Int), .int .i64 0, .int .i64 0] else if j = 16 then .slice p k c else if j = 18 then .slice p k c else undef) #[.int .i64 ((pkB h0 1152921504606846977 : Nat) : Int), .int .i64 ((pkB h1 1152921504606846977 : Nat) : Int), .int .i64 0, .int .i64 0, .int .i64 0, .int .i64 ((pkB h5 1152921504606846977 : Nat) : Int), .int .i64 ((pkB h6 3 : Nat) : Int), .int .i64 0, .int .i64 0] 23 L zz Z) (DI.init hlt9) (deps_of' (by kernel_rfl)) ?_ ?_
          · intro L zz Z hI i0 hi0 hL op ho hdone KK hKK
            have hlt : i0 < 19 := hi0
            rcases (show i0 = 0 ∨ i0 = 1 ∨ i0 = 2 ∨ i0 = 3 ∨ i0 = 4 ∨ i0 = 5 ∨ i0 = 6 ∨ i0 = 7 ∨ i0 = 8 ∨ i0 = 9 ∨ i0 = 10 ∨ i0 = 11 ∨ i0 = 12 ∨ i0 = 13 ∨ i0 = 14 ∨ i0 = 15 ∨ i0 = 16 ∨ i0 = 17 ∨ i0 = 18 by omega) with rfl | rfl | rfl | rfl | rfl | rfl | rfl | rfl | rfl | rfl | rfl | rfl | rfl | rfl | rfl | rfl | rfl | rfl | rfl
            · simp at ho; subst ho; simp [Region.binds] at hdone
              have hKX := hKK (.pointer (some ⟨B, 0, none⟩)) _ (hI.step 0 (by decide) rfl)
              simp [wpOpIn, Region.wanted, yielded, Oper.wpIn, Oper.semAt_eq, execOp, Oper.uponIn, go_sem]
              first | exact hKX | (simp [upd] at hKX; exact hKX) | (simp [upd] at hKX ⊢; exact hKX)
            · simp at ho; subst ho; simp [Region.binds] at hdone
              have e0 : zz 0 = .pointer (some ⟨B, 0, none⟩) := hI.val 0 (by decide) (by simp [hdone])
              obtain ⟨kk, rfl⟩ := hI.at 1 (by decide) hL
              have p0 := cell_at (k := 0) (HH.out (wr.drewN kk) (HZ.out.drewN' kk)).1 rfl
              have hKX := hKK (.int .i64 h0) _ (hI.step 1 (by decide) rfl)
              simp [wpOpIn, Region.wanted, yielded, Oper.wpIn, Oper.semAt_eq, execOp, Oper.uponIn, go_sem, e0, p0]
              first | exact hKX | (simp [upd, e0] at hKX; exact hKX) | (simp [upd, e0] at hKX ⊢; exact hKX)
            · simp at ho; subst ho; simp [Region.binds] at hdone
              have hKX := hKK (.int .i64 1152921504606846977) _ (hI.step 2 (by decide) rfl)
              simp [wpOpIn, Region.wanted, yielded, Oper.wpIn, Oper.semAt_eq, execOp, Oper.uponIn, go_sem]
              first | exact hKX | (simp [upd] at hKX; exact hKX) | (simp [upd] at hKX ⊢; exact hKX)
            · simp at ho; subst ho; simp [Region.binds] at hdone
              have e1 : zz 1 = .int .i64 h0 := hI.val 1 (by decide) (by simp [hdone])
              have e2 : zz 2 = .int .i64 1152921504606846977 := hI.val 2 (by decide) (by simp [hdone])
              simp [wpOpIn, Region.wanted, yielded, Oper.wpIn, Oper.semAt_eq, execOp, Oper.uponIn, go_sem, e1, e2]
              refine ⟨trivial, ?_⟩
              refine CallsIn.mono (callsIn_wide.2 (HP0.out Z)) ?_
              rintro r Y ⟨rfl, hY⟩
              have hY2 := hY.symm
              subst hY2
              clear hY
              have hKX := hKK (.int .i64 ((pkB h0 1152921504606846977 : Nat) : Int)) _ (hI.step 3 (by decide) rfl)
              first | exact hKX | (simp [upd, e1, e2] at hKX; exact hKX) | (simp [upd, e1, e2] at hKX ⊢; exact hKX)
            · simp at ho; subst ho; simp [Region.binds] at hdone
              have hKX := hKK (.pointer (some ⟨B, 1, none⟩)) _ (hI.step 4 (by decide) rfl)
              simp [wpOpIn, Region.wanted, yielded, Oper.wpIn, Oper.semAt_eq, execOp, Oper.uponIn, go_sem]
              first | exact hKX | (simp [upd] at hKX; exact hKX) | (simp [upd] at hKX ⊢; exact hKX)
            · simp at ho; subst ho; simp [Region.binds] at hdone
              have e4 : zz 4 = .pointer (some ⟨B, 1, none⟩) := hI.val 4 (by decide) (by simp [hdone])
              obtain ⟨kk, rfl⟩ := hI.at 5 (by decide) hL
              have p1 := cell_at (k := 1) (HH.out (wr.drewN kk) (HZ.out.drewN' kk)).1 rfl
              have hKX := hKK (.int .i64 h1) _ (hI.step 5 (by decide) rfl)
              simp [wpOpIn, Region.wanted, yielded, Oper.wpIn, Oper.semAt_eq, execOp, Oper.uponIn, go_sem, e4, p1]
              first | exact hKX | (simp [upd, e4] at hKX; exact hKX) | (simp [upd, e4] at hKX ⊢; exact hKX)
            · simp at ho; subst ho; simp [Region.binds] at hdone
              have hKX := hKK (.int .i64 1152921504606846977) _ (hI.step 6 (by decide) rfl)
              simp [wpOpIn, Region.wanted, yielded, Oper.wpIn, Oper.semAt_eq, execOp, Oper.uponIn, go_sem]
              first | exact hKX | (simp [upd] at hKX; exact hKX) | (simp [upd] at hKX ⊢; exact hKX)
            · simp at ho; subst ho; simp [Region.binds] at hdone
              have e5 : zz 5 = .int .i64 h1 := hI.val 5 (by decide) (by simp [hdone])
              have e6 : zz 6 = .int .i64 1152921504606846977 := hI.val 6 (by decide) (by simp [hdone])
              simp [wpOpIn, Region.wanted, yielded, Oper.wpIn, Oper.semAt_eq, execOp, Oper.uponIn, go_sem, e5, e6]
              refine ⟨trivial, ?_⟩
              refine CallsIn.mono (callsIn_wide.2 (HP1.out Z)) ?_
              rintro r Y ⟨rfl, hY⟩
              have hY2 := hY.symm
              subst hY2
              clear hY
              have hKX := hKK (.int .i64 ((pkB h1 1152921504606846977 : Nat) : Int)) _ (hI.step 7 (by decide) rfl)
              first | exact hKX | (simp [upd, e5, e6] at hKX; exact hKX) | (simp [upd, e5, e6] at hKX ⊢; exact hKX)
            · simp at ho; subst ho; simp [Region.binds] at hdone
              have hKX := hKK (.pointer (some ⟨B, 5, none⟩)) _ (hI.step 8 (by decide) rfl)
              simp [wpOpIn, Region.wanted, yielded, Oper.wpIn, Oper.semAt_eq, execOp, Oper.uponIn, go_sem]
              first | exact hKX | (simp [upd] at hKX; exact hKX) | (simp [upd] at hKX ⊢; exact hKX)
            · simp at ho; subst ho; simp [Region.binds] at hdone
              have e8 : zz 8 = .pointer (some ⟨B, 5, none⟩) := hI.val 8 (by decide) (by simp [hdone])
              obtain ⟨kk, rfl⟩ := hI.at 9 (by decide) hL
              have p5 := cell_at (k := 5) (HH.out (wr.drewN kk) (HZ.out.drewN' kk)).1 rfl
              have hKX := hKK (.int .i64 h5) _ (hI.step 9 (by decide) rfl)
              simp [wpOpIn, Region.wanted, yielded, Oper.wpIn, Oper.semAt_eq, execOp, Oper.uponIn, go_sem, e8, p5]
              first | exact hKX | (simp [upd, e8] at hKX; exact hKX) | (simp [upd, e8] at hKX ⊢; exact hKX)
            · simp at ho; subst ho; simp [Region.binds] at hdone
              have hKX := hKK (.int .i64 1152921504606846977) _ (hI.step 10 (by decide) rfl)
              simp [wpOpIn, Region.wanted, yielded, Oper.wpIn, Oper.semAt_eq, execOp, Oper.uponIn, go_sem]
              first | exact hKX | (simp [upd] at hKX; exact hKX) | (simp [upd] at hKX ⊢; exact hKX)
            · simp at ho; subst ho; simp [Region.binds] at hdone
              have e9 : zz 9 = .int .i64 h5 := hI.val 9 (by decide) (by simp [hdone])
              have e10 : zz 10 = .int .i64 1152921504606846977 := hI.val 10 (by decide) (by simp [hdone])
              simp [wpOpIn, Region.wanted, yielded, Oper.wpIn, Oper.semAt_eq, execOp, Oper.uponIn, go_sem, e9, e10]
              refine ⟨trivial, ?_⟩
              refine CallsIn.mono (callsIn_wide.2 (HP5.out Z)) ?_
              rintro r Y ⟨rfl, hY⟩
              have hY2 := hY.symm
              subst hY2
              clear hY
              have hKX := hKK (.int .i64 ((pkB h5 1152921504606846977 : Nat) : Int)) _ (hI.step 11 (by decide) rfl)
              first | exact hKX | (simp [upd, e9, e10] at hKX; exact hKX) | (simp [upd, e9, e10] at hKX ⊢; exact hKX)
            · simp at ho; subst ho; simp [Region.binds] at hdone
              have hKX := hKK (.pointer (some ⟨B, 6, none⟩)) _ (hI.step 12 (by decide) rfl)
              simp [wpOpIn, Region.wanted, yielded, Oper.wpIn, Oper.semAt_eq, execOp, Oper.uponIn, go_sem]
              first | exact hKX | (simp [upd] at hKX; exact hKX) | (simp [upd] at hKX ⊢; exact hKX)
            · simp at ho; subst ho; simp [Region.binds] at hdone
              have e12 : zz 12 = .pointer (some ⟨B, 6, none⟩) := hI.val 12 (by decide) (by simp [hdone])
              obtain ⟨kk, rfl⟩ := hI.at 13 (by decide) hL
              have p6 := cell_at (k := 6) (HH.out (wr.drewN kk) (HZ.out.drewN' kk)).1 rfl
              have hKX := hKK (.int .i64 h6) _ (hI.step 13 (by decide) rfl)
              simp [wpOpIn, Region.wanted, yielded, Oper.wpIn, Oper.semAt_eq, execOp, Oper.uponIn, go_sem, e12, p6]
              first | exact hKX | (simp [upd, e12] at hKX; exact hKX) | (simp [upd, e12] at hKX ⊢; exact hKX)
            · simp at ho; subst ho; simp [Region.binds] at hdone
              have e13 : zz 13 = .int .i64 h6 := hI.val 13 (by decide) (by simp [hdone])
              simp [wpOpIn, Region.wanted, yielded, Oper.wpIn, Oper.semAt_eq, execOp, Oper.uponIn, go_sem, e13]
              refine ⟨trivial, ?_⟩
              refine CallsIn.mono (callsIn_wide.2 (HP6.out Z)) ?_
              rintro r Y ⟨rfl, hY⟩
              have hY2 := hY.symm
              subst hY2
              clear hY
              have hKX := hKK (.int .i64 ((pkB h6 3 : Nat) : Int)) _ (hI.step 14 (by decide) rfl)
              first | exact hKX | (simp [upd, e13] at hKX; exact hKX) | (simp [upd, e13] at hKX ⊢; exact hKX)
            · simp at ho; subst ho; simp [Region.binds] at hdone
              have e3 : zz 3 = .int .i64 ((pkB h0 1152921504606846977 : Nat) : Int) := hI.val 3 (by decide) (by simp [hdone])
              have e7 : zz 7 = .int .i64 ((pkB h1 1152921504606846977 : Nat) : Int) := hI.val 7 (by decide) (by simp [hdone])
              have e11 : zz 11 = .int .i64 ((pkB h5 1152921504606846977 : Nat) : Int) := hI.val 11 (by decide) (by simp [hdone])
              have e14 : zz 14 = .int .i64 ((pkB h6 3 : Nat) : Int) := hI.val 14 (by decide) (by simp [hdone])
              have hKX := hKK (.agg #[.int .i64 ((pkB h0 1152921504606846977 : Nat) : Int), .int .i64 ((pkB h1 1152921504606846977 : Nat) : Int), .int .i64 0, .int .i64 0, .int .i64 0, .int .i64 ((pkB h5 1152921504606846977 : Nat) : Int), .int .i64 ((pkB h6 3 : Nat) : Int), .int .i64 0, .int .i64 0]) _ (hI.step 15 (by decide) rfl)
              simp [wpOpIn, Region.wanted, yielded, Oper.wpIn, Oper.semAt_eq, execOp, Oper.uponIn, go_sem, e3, e7, e11, e14]
              first | exact hKX | (simp [upd, e3, e7, e11, e14] at hKX; exact hKX) | (simp [upd, e3, e7, e11, e14] at hKX ⊢; exact hKX)
            · simp at ho; subst ho; simp [Region.binds] at hdone
              have hKX := hKK (.slice p k c) _ (hI.step 16 (by decide) rfl)
              simp [wpOpIn, Region.wanted, yielded, Oper.wpIn, Oper.semAt_eq, execOp, Oper.uponIn, go_sem]
              first | exact hKX | (simp [upd] at hKX; exact hKX) | (simp [upd] at hKX ⊢; exact hKX)
            · simp at ho; subst ho; simp [Region.binds] at hdone
              have e15 : zz 15 = .agg #[.int .i64 ((pkB h0 1152921504606846977 : Nat) : Int), .int .i64 ((pkB h1 1152921504606846977 : Nat) : Int), .int .i64 0, .int .i64 0, .int .i64 0, .int .i64 ((pkB h5 1152921504606846977 : Nat) : Int), .int .i64 ((pkB h6 3 : Nat) : Int), .int .i64 0, .int .i64 0] := hI.val 15 (by decide) (by simp [hdone])
              have hal : ∀ j, j + 1 < 17 → L j = true := fun j hj => by
                rcases (show j = 0 ∨ j = 1 ∨ j = 2 ∨ j = 3 ∨ j = 4 ∨ j = 5 ∨ j = 6 ∨ j = 7 ∨ j = 8 ∨ j = 9 ∨ j = 10 ∨ j = 11 ∨ j = 12 ∨ j = 13 ∨ j = 14 ∨ j = 15 by omega) with rfl | rfl | rfl | rfl | rfl | rfl | rfl | rfl | rfl | rfl | rfl | rfl | rfl | rfl | rfl | rfl <;> simp [hdone]
              obtain ⟨kk, rfl⟩ := hI.one hL
              obtain ⟨-, q3, -⟩ := HH.out (wr.drewN kk) (HZ.out.drewN' kk)
              have r0 := cell_at (k := 0) q3 rfl
              have r1 := cell_at (k := 1) q3 rfl
              have r2 := cell_at (k := 2) q3 rfl
              have r3 := cell_at (k := 3) q3 rfl
              have r4 := cell_at (k := 4) q3 rfl
              have r5 := cell_at (k := 5) q3 rfl
              have r6 := cell_at (k := 6) q3 rfl
              have r7 := cell_at (k := 7) q3 rfl
              have r8 := cell_at (k := 8) q3 rfl
              have g0 := frozen_at (k := 0) q3
              have g1 := frozen_at (k := 1) q3
              have g2 := frozen_at (k := 2) q3
              have g3 := frozen_at (k := 3) q3
              have g4 := frozen_at (k := 4) q3
              have g5 := frozen_at (k := 5) q3
              have g6 := frozen_at (k := 6) q3
              have g7 := frozen_at (k := 7) q3
              have g8 := frozen_at (k := 8) q3
              have hKX := hKK undef _ (hI.store (Y := ((((((((((wr.drewN kk).setCell ⟨B + 1, 0, none⟩ (.int .i64 ((pkB h0 1152921504606846977 : Nat) : Int))).setCell ⟨B + 1, 1, none⟩ (.int .i64 ((pkB h1 1152921504606846977 : Nat) : Int))).setCell ⟨B + 1, 2, none⟩ (.int .i64 0)).setCell ⟨B + 1, 3, none⟩ (.int .i64 0)).setCell ⟨B + 1, 4, none⟩ (.int .i64 0)).setCell ⟨B + 1, 5, none⟩ (.int .i64 ((pkB h5 1152921504606846977 : Nat) : Int))).setCell ⟨B + 1, 6, none⟩ (.int .i64 ((pkB h6 3 : Nat) : Int))).setCell ⟨B + 1, 7, none⟩ (.int .i64 0)).setCell ⟨B + 1, 8, none⟩ (.int .i64 0))) hal (nine_put _ _ _ _ _ _ _ _ _ q3) (nine_below _ _ _ _ _ _ _ _ _ (Below.refl _ _) (Nat.le_refl _)) (nine_oth _ _ _ _ _ _ _ _ _ _ _) hL)
              simp [wpOpIn, Region.wanted, yielded, Oper.wpIn, Oper.semAt_eq, execOp, Oper.uponIn, go_sem, e15, q3, r0, r1, r2, r3, r4, r5, r6, r7, r8, g0, g1, g2, g3, g4, g5, g6, g7, g8]
              first | exact hKX | (simp [upd, e15] at hKX; exact hKX) | (simp [upd, e15] at hKX ⊢; exact hKX)
            · simp at ho; subst ho; simp [Region.binds] at hdone
              have e16 : zz 16 = .slice p k c := hI.val 16 (by decide) (by simp [hdone])
              have hKX := hKK (.slice p k c) _ (hI.step 18 (by decide) rfl)
              simp [wpOpIn, Region.wanted, yielded, Oper.wpIn, Oper.semAt_eq, execOp, Oper.uponIn, go_sem, e16]
              first | exact hKX | (simp [upd, e16] at hKX; exact hKX) | (simp [upd, e16] at hKX ⊢; exact hKX)
          · intro L zz Z hall hI
            have e18 : zz 18 = .slice p k c := hI.val 18 (by decide) (hall 18 (by decide))
            obtain ⟨q3, q4, q5⟩ := hI.two (hall 17 (by decide))
            have HQ := Hid.mk' ((HH.out wr HZ.out).2.2.1.trans (q4.mono (by omega)))
            have HQ2 : Hid (LsAt (.slice p k c) (madeL l) Z) := own_ls (rowM (base2 := B) HV6.out (fun k hk => q5 k (by omega)) (by omega))
            have r0 := cell_at (k := 0) q3 rfl
            have r1 := cell_at (k := 1) q3 rfl
            have r2 := cell_at (k := 2) q3 rfl
            have r3 := cell_at (k := 3) q3 rfl
            have r4 := cell_at (k := 4) q3 rfl
            have r5 := cell_at (k := 5) q3 rfl
            have r6 := cell_at (k := 6) q3 rfl
            have r7 := cell_at (k := 7) q3 rfl
            have r8 := cell_at (k := 8) q3 rfl
            rw [e18]
            clear hI q3 q4 q5 hall e18
            go_wp2_with fail
            refine bodyPost_ret (v := .tuple #[.agg #[.int .i64 ((pkB h0 1152921504606846977 : Nat) : Int), .int .i64 ((pkB h1 1152921504606846977 : Nat) : Int), .int .i64 0, .int .i64 0, .int .i64 0, .int .i64 ((pkB h5 1152921504606846977 : Nat) : Int), .int .i64 ((pkB h6 3 : Nat) : Int), .int .i64 0, .int .i64 0], .slice p k c]) (by simp [results, Tryz.results21, go_sem, r0, r1, r2, r3, r4, r5, r6, r7, r8]) rfl ⟨_, _, by rw [HML.out], by rw [HML.out]; exact HQ2.out, by first | exact HQ.out | (rw [hB]; exact HQ.out)⟩
end Go.Proofs.YtlplbnlfajdcbaaGreatDoor
