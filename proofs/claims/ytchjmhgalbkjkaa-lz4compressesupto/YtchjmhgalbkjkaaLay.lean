/-
  Rows of bytes that grow, and lz4.lay. Conditions: as each says.
-/
import Derived.Test.YtchjmhgalbkjkaaBas
import Derived.Test.YtchjmhgalbkjkaaLzB
import Derived.Lib.AppendStr
import Derived.Lib.MinMax
namespace Go.Proofs.Ytchjmhgalbkjkaa
open Go.RowKit
set_option linter.unusedVariables false
/-- whatever lay below base is as it was, and whatever is no row of bytes -/
structure Ap (base : Nat) (w w' : World) : Prop where
  below : Below base w w'
  keep : ∀ (k : Nat) (o : Obj), w.heap[k]? = some o → (∀ cur fz, o ≠ .cells cur 5 fz) → w'.heap[k]? = some o
theorem Ap.refl (base : Nat) (w : World) : Ap base w w := ⟨Below.refl _ _, fun _ _ h _ => h⟩
theorem Ap.trans {base : Nat} {a b c : World} (x : Ap base a b) (y : Ap base b c) : Ap base a c :=
  ⟨x.below.trans y.below, fun k o h ho => y.keep k o (x.keep k o h ho) ho⟩
theorem Ap.alloc {base : Nat} {a b : World} (x : Ap base a b) (hb : base ≤ b.heap.size) (o : Obj) : Ap base a (b.alloc o) :=
  ⟨x.below.alloc hb o, fun k q h hq => (Below.heap_alloc b o k (Array.getElem?_eq_some_iff.1 (x.keep k q h hq)).1).trans (x.keep k q h hq)⟩
theorem Ap.drewN {base : Nat} {a b : World} (x : Ap base a b) (n : Nat) : Ap base a (b.drewN n) := ⟨x.below.drewN' n, x.keep⟩
theorem Ap.grown {base n : Nat} {a b c : World} {v : Value} {xs : List Value} (x : Ap base a b) (hown : b.ownsRow base 5 1 v n xs) (hb : base ≤ b.heap.size) (hg : b.grownBy c v.ownBlock) : Ap base a c := by
  refine ⟨x.below.grown hg hb (fun k hk => (hown.lt k hk).1), fun k o h ho => ?_⟩
  have h1 := x.keep k o h ho
  rw [hg.block k (Array.getElem?_eq_some_iff.1 h1).1 ?_]
  · exact h1
  · intro e
    rcases hown.2 with ⟨rfl, _⟩ | ⟨g, cap, cur, rfl, _, hcur, _⟩
    · cases e
    · have e' : k = g := by simpa [Value.ownBlock] using e
      subst e'
      rw [hcur] at h1
      cases h1
      exact ho cur (0, 0) rfl
theorem strc_byv (s : ByteArray) : Go.Lib.strCells s = byv (Sums.bl s) := by
  unfold Go.Lib.strCells byv Sums.bl
  rw [List.map_map]
  rfl
theorem own_at {w : World} {base n : Nat} {v : Value} {l : List Nat} (h : w.ownsRow base 5 1 v n (byv l)) : l.length = n := by
  have := h.1
  rw [byv_len] at this
  omega
/-- part of the row itself, as cells -/
theorem part_cells {w : World} {base n cap g : Nat} {l : List Nat} (h : w.ownsRow base 5 1 (.slice (some ⟨g, 0, none⟩) n cap) n (byv l)) (i k : Nat) (hk : i + k ≤ n) :
    ∀ j u, (byv ((l.drop i).take k))[j]? = some u → w.cell? ((⟨g, i, none⟩ : Addr).add j) = some u := by
  intro j u hu
  have hl := own_at h
  have hj : j < k := by
    have := (List.getElem?_eq_some_iff.1 hu).1
    rw [byv_len] at this
    simp at this
    omega
  have hc := h.cellAt (i + j) (by omega)
  rw [show ((⟨g, i, none⟩ : Addr).add j) = ⟨g, i + j, none⟩ by simp [Addr.add]]
  rw [hc]
  unfold byv at hu ⊢
  rw [List.getElem?_map, List.getElem?_take, if_pos hj, List.getElem?_drop, List.getElem?_eq_getElem (show i + j < l.length by omega)] at hu
  rw [List.getElem?_map, List.getElem?_eq_getElem (show i + j < l.length by omega)]
  exact hu
theorem byv_one (l : List Nat) : ∀ u ∈ byv l, u.oneCell' = true := by
  intro u hu
  unfold byv at hu
  obtain ⟨z, _, rfl⟩ := List.mem_map.1 hu
  rfl
theorem grow_zero (off : Nat) (l : List Nat) : Lz.grow off 0 l = l := rfl
theorem drop_bef (bef l : List Nat) : (bef ++ l).drop bef.length = l := List.drop_left
theorem own_shape {w : World} {base n : Nat} {v : Value} {xs : List Value} (h : w.ownsRow base 5 1 v n xs) : ∃ b cap, v = .slice b n cap := by
  rcases h.2 with ⟨rfl, rfl⟩ | ⟨g, cap, cur, rfl, _⟩
  · exact ⟨none, 0, rfl⟩
  · exact ⟨some ⟨g, 0, none⟩, cap, rfl⟩
theorem own_some {w : World} {base n : Nat} {v : Value} {xs : List Value} (h : w.ownsRow base 5 1 v n xs) (h0 : 0 < n) : ∃ g cap, v = .slice (some ⟨g, 0, none⟩) n cap := by
  rcases h.2 with ⟨_, h1⟩ | ⟨g, cap, cur, rfl, _⟩
  · omega
  · exact ⟨g, cap, rfl⟩
set_option maxRecDepth 100000 in
set_option maxHeartbeats 4000000 in
/-- what is laid behind a row, of a text ahead of it at first -/
theorem lay_any (base : Nat) (bef : ByteArray) (v : Value) (l : List Nat) (off count : Nat) (w : World) (hown : w.ownsRow base 5 1 v l.length (byv l)) (hb : base ≤ w.heap.size) (ho : count = 0 ∧ off = 0 ∨ (0 < count ∧ 0 < off ∧ off ≤ bef.size + l.length)) (hof : off ≤ 65535) (hbef : bef.size ≤ 140737492549632) (hsz : l.length + count ≤ 70368744177664) :
    Calls Try.prog 30 #[.string bef, v, .int .i64 (off : Int), .int .i64 (count : Int)] w fun e w' => ∃ v', e = .returned v' ∧ w'.ownsRow base 5 1 v' (l.length + count) (byv ((Lz.grow off count (Sums.bl bef ++ l)).drop bef.size)) ∧ Ap base w w' := by
  obtain ⟨i0, hi, hz0, hz1, hz2⟩ := info_parts infoB
  have hbl := Sums.bl_length bef
  by_cases hin : off ≤ l.length
  · have hG : (Lz.grow off count (Sums.bl bef ++ l)).drop bef.size = Lz.grow off count l := by
      rcases ho with ⟨rfl, rfl⟩ | ho
      · rw [grow_zero, grow_zero, ← hbl, drop_bef]
      · rw [Lz.grow_behind off ho.2.1 _ _ _ hin, ← hbl, drop_bef]
    rw [hG]
    clear hG hbl
    have hle : ¬ (0 : Int) < (off : Int) - (l.length : Int) := by omega
    by_cases hc0 : count = 0
    · subst hc0
      obtain ⟨b, cap, rfl⟩ := own_shape hown
      have HO := Hid.mk' hown
      clear hown
      go_enter Try.func30, Try.ntmps30
      go_wp2
      refine wp_loop_rounds 1 ?_
      rw [rounds_succ]
      go_wp2
      go_ret
      exact ⟨_, rfl, HO.out, Ap.refl _ _⟩
    · have ho' : 0 < off ∧ off ≤ l.length := by omega
      obtain ⟨F, hF⟩ : ∃ F, F + off = l.length := ⟨l.length - off, by omega⟩
      have hFI : (l.length : Int) - (off : Int) = (F : Int) := by omega
      rcases hown.2 with ⟨rfl, h0⟩ | ⟨g, cap, cur, rfl, hrest⟩
      · omega
      have HO := Hid.mk' hown
      clear hown hrest ho
      go_enter Try.func30, Try.ntmps30
      go_wp2
      go_loopw [1, 3] (fun sv cv wr => ∃ (q c m N : Nat), cv = .int .i64 (c : Int) ∧ wr.ownsRow base 5 1 sv N (byv (Lz.grow off m l)) ∧ N = l.length + m ∧ m + c = count ∧ (c = 0 ∨ m = off * q) ∧ Ap base w wr ∧ base ≤ wr.heap.size) (fun _ cv _ => (intOf cv).toNat)
      case atStart => exact ⟨0, count, 0, l.length, rfl, HO.out, rfl, by omega, .inr (by simp), Ap.refl _ _, hb⟩
      case round =>
        obtain ⟨q, c, m, N, rfl, hown, hN, hm, hq, hap, hbw⟩ := hrel
        rcases hown.2 with ⟨rfl, h0⟩ | ⟨g', cap', cur', rfl, _, _, hcap, hcm, _⟩
        · omega
        by_cases hc : c = 0
        · subst hc
          obtain rfl : m = count := by omega
          go_wp2
          go_ret
          subst hN
          exact ⟨_, rfl,  hown, hap⟩
        · have hq' : m = off * q := by omega
          have hcI : (0 : Int) < (c : Int) := by omega
          obtain ⟨k, hk⟩ : ∃ k, k = min c (N - F) := ⟨_, rfl⟩
          have hkI : min (c : Int) ((N : Int) - (F : Int)) = (k : Int) := by omega
          have hlo := own_at hown
          obtain ⟨E, hE⟩ : ∃ E, F + k = E := ⟨_, rfl⟩
          have hEI : (F : Int) + (k : Int) = (E : Int) := by omega
          have h1 : F ≤ E := by omega
          have h2 : E ≤ N := by omega
          have h3 : E ≤ cap' := by omega
          have h4 : F < cap' := by omega
          have h5 : ¬ cap' = F := by omega
          have hEF : E - F = k := by omega
          have hcb : c ≤ 70368744177664 := by omega
          have hkc : k ≤ c := by omega
          have HQ := Hid.mk' hq'
          have HOW := Hid.mk' hown
          have HAP := Hid.mk' hap
          have HNN := Hid.mk' hN
          have HKK := Hid.mk' hk
          have HLO := Hid.mk' hlo
          have HMM := Hid.mk' hm
          have hNb : N + k ≤ 70368744177664 := by omega
          clear hq hq' hown hap hN hk hlo hm
          go_wp2_with (first | (at_builtin; refine wpList_append_own _ rfl _ _ 58 rfl base 5 i0 (.int .u8 0) 1 1 Try.underlying58 hi hz0 hz1 hz2 rfl (by decide) _ _ _ rfl HOW.out ⟨g', F, none⟩ k (cap' - F) (byv (((Lz.grow off m l).drop F).take k)) rfl (by rw [byv_len, List.length_take, List.length_drop, HLO.out]; omega) (part_cells HOW.out F k (by omega)) (byv_one _) (by unfold maxLen; omega) (by omega) hbw ?_; intro v'' w2 hown2 hgrow _; rw [← byv_append] at hown2; have HO2 := Hid.mk' hown2; have HG2 := Hid.mk' hgrow; clear hown2 hgrow) | fail)
          go_roundw
          case rel =>
            have hF2 : l.length - off = F := by omega
            have hN := HNN.out
            have hm := HMM.out
            have hk := HKK.out
            have hsz2 := HG2.out.size
            have hgr : Lz.grow off (m + k) l = Lz.grow off m l ++ ((Lz.grow off m l).drop F).take k := by
              have := Lz.grow_step off ho'.1 l ho'.2 q k (by rw [← HQ.out]; omega)
              rw [← HQ.out, hF2] at this
              exact this
            refine ⟨q + (q + 1), c - k, m + k, N + k, ?_, by rw [hgr]; exact HO2.out, by omega, by omega, ?_, HAP.out.grown HOW.out hbw HG2.out, by omega⟩
            · congr 1
              omega
            · by_cases hcc : c ≤ N - F
              · left
                omega
              · right
                rw [Nat.mul_add, Nat.mul_add, ← HQ.out, Nat.mul_one]
                omega
          case measure =>
            have hN := HNN.out
            have hk := HKK.out
            simp [intOf]
            omega
  · obtain ⟨y, hy⟩ : ∃ y, l.length + y = off := ⟨off - l.length, by omega⟩
    have hyb : y ≤ bef.size := by omega
    have hyI : (off : Int) - (l.length : Int) = (y : Int) := by omega
    have hy0 : (0 : Int) < (y : Int) := by omega
    obtain ⟨k, hk⟩ : ∃ k, k = min count y := ⟨_, rfl⟩
    obtain ⟨d, hd⟩ : ∃ d, d + y = bef.size := ⟨bef.size - y, by omega⟩
    have hdI : (bef.size : Int) - (y : Int) = (d : Int) := by omega
    have hd1 : d ≤ bef.size := by omega
    have hkk : k ≤ bef.size - d := by omega
    obtain ⟨c1, hc1⟩ : ∃ c1, c1 + k = count := ⟨count - k, by omega⟩
    have hc1I : (count : Int) - (k : Int) = (c1 : Int) := by omega
    have hpart : Sums.bl ((bef.extract d bef.size).extract 0 k) = ((Sums.bl bef).drop d).take k := by rw [Sums.bl_take, Sums.bl_drop]
    have hps : ((bef.extract d bef.size).extract 0 k).size = k := by
      rw [← Sums.bl_length, hpart, List.length_take, List.length_drop, hbl]
      omega
    obtain ⟨l1, hl1⟩ : ∃ l1, l1 = l ++ ((Sums.bl bef).drop d).take k := ⟨_, rfl⟩
    have hl1l : l1.length = l.length + k := by
      rw [hl1, List.length_append, List.length_take, List.length_drop, hbl]
      omega
    have hG : (Lz.grow off count (Sums.bl bef ++ l)).drop bef.size = Lz.grow off c1 l1 := by
      rw [← hc1, Nat.add_comm c1 k, Lz.grow_add, Lz.grow_reach off _ l k y hy (by omega) (by omega) (by omega), hbl, show bef.size - y = d by omega, ← hl1]
      by_cases hz : c1 = 0
      · subst hz
        rw [grow_zero, grow_zero, ← hbl, drop_bef]
      · rw [Lz.grow_behind off (by omega) _ _ _ (by omega), ← hbl, drop_bef]
    rw [hG]
    have hLL : l.length + count = l1.length + c1 := by omega
    rw [hLL]
    have HO := Hid.mk' hown
    have HPART := Hid.mk' hpart
    have HL1 := Hid.mk' hl1
    clear hG hown hpart hl1 hLL
    have step : ∀ (v1 : Value) (w1 : World), w1.ownsRow base 5 1 v1 (l.length + ((bef.extract d bef.size).extract 0 k).size) (byv l ++ Go.Lib.strCells ((bef.extract d bef.size).extract 0 k)) → w1.ownsRow base 5 1 v1 l1.length (byv l1) := by
      intro v1 w1 h
      rw [hps, strc_byv, HPART.out, ← byv_append, ← HL1.out, ← hl1l] at h
      exact h
    have HST := Hid.mk' step
    clear step
    obtain ⟨b, cap, rfl⟩ := own_shape HO.out
    have hkI : min (count : Int) (y : Int) = (k : Int) := by omega
    have hk1 : 1 ≤ k := by omega
    have hk2 : k ≤ y := by omega
    have hk3 : c1 = 0 ∨ k = y := by omega
    have hlp : 0 < l1.length := by omega
    have hlq : l1.length + c1 ≤ 70368744177664 := by omega
    clear hk
    by_cases hz : c1 = 0
    · subst hz
      have HLL := Hid.mk' hl1l
      clear hl1l
      go_enter Try.func30, Try.ntmps30
      go_wp2_with (first | (at_builtin; refine Go.Lib.wpList_append_own_string _ rfl _ _ 58 9 rfl base 5 i0 Try.underlying58 Try.underlying9 hi hz0 hz1 hz2 _ _ _ rfl HO.out _ rfl (by rw [hps]; unfold maxLen; omega) (by rw [hps]; omega) hb ?_; intro v1 w1 hown1 hgrow1 _; have HO1 := Hid.mk' (HST.out v1 w1 hown1); have HA1 := Hid.mk' ((Ap.refl base w).grown HO.out hb hgrow1); have hb1 : base ≤ w1.heap.size := Nat.le_trans hb hgrow1.size; clear hown1 hgrow1; obtain ⟨g1, cap1, rfl⟩ := own_some HO1.out (by omega)) | fail)
      refine wp_loop_rounds 1 ?_
      rw [rounds_succ]
      go_wp2
      go_ret
      exact ⟨_, rfl, HO1.out, HA1.out⟩
    · obtain ⟨F, hF⟩ : ∃ F, F = 0 := ⟨_, rfl⟩
      have hFI : (l1.length : Int) - (off : Int) = (F : Int) := by omega
      have hFl : F + off = l1.length := by omega
      have HLL := Hid.mk' hl1l
      clear hl1l hF
      go_enter Try.func30, Try.ntmps30
      go_wp2_with (first | (at_builtin; refine Go.Lib.wpList_append_own_string _ rfl _ _ 58 9 rfl base 5 i0 Try.underlying58 Try.underlying9 hi hz0 hz1 hz2 _ _ _ rfl HO.out _ rfl (by rw [hps]; unfold maxLen; omega) (by rw [hps]; omega) hb ?_; intro v1 w1 hown1 hgrow1 _; have HO1 := Hid.mk' (HST.out v1 w1 hown1); have HA1 := Hid.mk' ((Ap.refl base w).grown HO.out hb hgrow1); have hb1 : base ≤ w1.heap.size := Nat.le_trans hb hgrow1.size; clear hown1 hgrow1; obtain ⟨g1, cap1, rfl⟩ := own_some HO1.out (by omega)) | fail)
      go_loopw [1, 3] (fun sv cv wr => ∃ (q c m N : Nat), cv = .int .i64 (c : Int) ∧ wr.ownsRow base 5 1 sv N (byv (Lz.grow off m l1)) ∧ N = l1.length + m ∧ m + c = c1 ∧ (c = 0 ∨ m = off * q) ∧ Ap base w wr ∧ base ≤ wr.heap.size) (fun _ cv _ => (intOf cv).toNat)
      case atStart => exact ⟨0, c1, 0, l1.length, rfl, HO1.out, rfl, by omega, .inr (by simp), HA1.out, hb1⟩
      case round =>
        obtain ⟨q, c, m, N, rfl, hown, hN, hm, hq, hap, hbw⟩ := hrel
        rcases hown.2 with ⟨rfl, h0⟩ | ⟨g', cap', cur', rfl, _, _, hcap, hcm, _⟩
        · omega
        by_cases hc : c = 0
        · subst hc
          obtain rfl : m = c1 := by omega
          go_wp2
          go_ret
          subst hN
          exact ⟨_, rfl,  hown, hap⟩
        · have hq' : m = off * q := by omega
          have hcI : (0 : Int) < (c : Int) := by omega
          obtain ⟨kk, hkk2⟩ : ∃ kk, kk = min c (N - F) := ⟨_, rfl⟩
          have hkI2 : min (c : Int) ((N : Int) - (F : Int)) = (kk : Int) := by omega
          have hlo := own_at hown
          obtain ⟨E, hE⟩ : ∃ E, F + kk = E := ⟨_, rfl⟩
          have hEI : (F : Int) + (kk : Int) = (E : Int) := by omega
          have h1 : F ≤ E := by omega
          have h2 : E ≤ N := by omega
          have h3 : E ≤ cap' := by omega
          have h4 : F < cap' := by omega
          have h5 : ¬ cap' = F := by omega
          have hEF : E - F = kk := by omega
          have hcb : c ≤ 70368744177664 := by omega
          have hkc : kk ≤ c := by omega
          have HQ := Hid.mk' hq'
          have HOW := Hid.mk' hown
          have HAP := Hid.mk' hap
          have HNN := Hid.mk' hN
          have HKK := Hid.mk' hkk2
          have HLO := Hid.mk' hlo
          have HMM := Hid.mk' hm
          have hNb : N + kk ≤ 70368744177664 := by omega
          clear hq hq' hown hap hN hkk2 hlo hm
          go_wp2_with (first | (at_builtin; refine wpList_append_own _ rfl _ _ 58 rfl base 5 i0 (.int .u8 0) 1 1 Try.underlying58 hi hz0 hz1 hz2 rfl (by decide) _ _ _ rfl HOW.out ⟨g', F, none⟩ kk (cap' - F) (byv (((Lz.grow off m l1).drop F).take kk)) rfl (by rw [byv_len, List.length_take, List.length_drop, HLO.out]; omega) (part_cells HOW.out F kk (by omega)) (byv_one _) (by unfold maxLen; omega) (by omega) hbw ?_; intro v'' w2 hown2 hgrow _; rw [← byv_append] at hown2; have HO2 := Hid.mk' hown2; have HG2 := Hid.mk' hgrow; clear hown2 hgrow) | fail)
          go_roundw
          case rel =>
            have hF2 : l1.length - off = F := by omega
            have hN := HNN.out
            have hm := HMM.out
            have hkk2 := HKK.out
            have hsz2 := HG2.out.size
            have hgr : Lz.grow off (m + kk) l1 = Lz.grow off m l1 ++ ((Lz.grow off m l1).drop F).take kk := by
              have := Lz.grow_step off (by omega) l1 (by omega) q kk (by rw [← HQ.out]; omega)
              rw [← HQ.out, hF2] at this
              exact this
            refine ⟨q + (q + 1), c - kk, m + kk, N + kk, ?_, by rw [hgr]; exact HO2.out, by omega, by omega, ?_, HAP.out.grown HOW.out hbw HG2.out, by omega⟩
            · congr 1
              omega
            · by_cases hcc : c ≤ N - F
              · left
                omega
              · right
                rw [Nat.mul_add, Nat.mul_add, ← HQ.out, Nat.mul_one]
                omega
          case measure =>
            have hN := HNN.out
            have hkk2 := HKK.out
            simp [intOf]
            omega
end Go.Proofs.Ytchjmhgalbkjkaa
