/-
  The document's forward: copies taken from the front. Conditions: as it says.
-/
import Derived.Test.YtchjmhgalbkjkaaRfi
import Derived.Test.YtchjmhgalbkjkaaRff
import Derived.Deep.DeepCutAuto
import Derived.Deep.CutBlock
namespace Go.Proofs.Ytchjmhgalbkjkaa
open Go.RowKit
set_option linter.unusedVariables false
theorem nearR_cell {w : World} {B g m cap q : Nat} {bs : List Nat} (h : w.ownsRow B 3 1 (.slice (some ⟨g, 0, none⟩) m cap) m (nearL bs m)) (hq : q < m) : w.cell? ⟨g, q, none⟩ = some (.int .i64 (Lz.nearOf bs q)) := by
  have := h.cells (g := g) rfl q _ (nearL_at bs m q hq)
  rw [Addr.add_lit] at this
  simpa using this
structure GrR (bs : List Nat) (m tries : Nat) (av : Value) (w0 : World) (ov : Value) (L : List Lz.Cp) (n p : Nat) (w : World) : Prop where
  row : w.ownsRow w0.heap.size 85 3 ov n (cpv L)
  len : n = L.length
  eq : ∃ f, bs.length < p + f ∧ L ++ Lz.greedyF bs tries f p = Lz.greedy bs tries
  near : w.ownsRow (w0.heap.size + 1) 3 1 av m (nearL bs m)
  bel : Below w0.heap.size w0 w
  lim : n ≤ p
theorem GrR.drew {bs : List Nat} {m tries : Nat} {av ov : Value} {w0 w : World} {L : List Lz.Cp} {n p : Nat} (h : GrR bs m tries av w0 ov L n p w) (k : Nat) : GrR bs m tries av w0 ov L n p (w.drewN k) := ⟨h.row, h.len, h.eq, h.near, h.bel.drewN' k, h.lim⟩
theorem row_apart {w w' : World} {B B2 n m s1 s2 : Nat} {e1 e2 : TypeId} {u v : Value} {xs ys : List Value} {o : Obj} (hr : w.ownsRow B e1 s1 u n xs) (hv : w.ownsRow B2 e2 s2 v m ys) (hne : e1 ≠ e2) (hg : (w.alloc o).grownBy w' v.ownBlock) : w'.ownsRow B e1 s1 u n xs := by
  refine row_kept hr fun k hk => ?_
  have hlt := (hr.lt k hk).2
  rcases hr.2 with ⟨rfl, _⟩ | ⟨g, cap, cur, rfl, _, h2, _⟩
  · simp [Value.ownBlock] at hk
  · simp only [Value.ownBlock, Option.some.injEq] at hk
    subst hk
    rw [hg.block g (by simp; omega) (fun e => row_other hv h2 hne e.symm), Below.heap_alloc _ _ _ hlt]
set_option maxRecDepth 100000 in
set_option maxHeartbeats 2000000 in
theorem refForward_any (s : ByteArray) (tries : Nat) (w : World) (hs : s.size ≤ 4294967296) (ht : tries ≤ 4294967296) :
    Calls Try.prog 25 #[.string s, .int .i64 (tries : Int)] w fun e w' => ∃ v, e = .returned v ∧ CprR w' v (Lz.greedy (Sums.bl s) tries) ∧ Below w.heap.size w w' := by
  obtain ⟨i0, hi, hz0, hz1, hz2⟩ := info_parts infoR
  have HNS := Hid.mk' (refBefore_any s w hs)
  have hsl := Sums.bl_length s
  have HSL := Hid.mk' hsl
  obtain ⟨m, hm⟩ : ∃ m, s.size - 3 = m := ⟨_, rfl⟩
  rw [hm] at HNS
  have HM := Hid.mk' hm
  clear hm hsl
  go_enter Try.func25, Try.ntmps25
  go_wp2_with (first | (go_at_call 44; refine HNS.out.mono ?_; rintro e w1 ⟨av, rfl, hnear, hbel1⟩; have HN := Hid.mk' hnear; have HB1 := Hid.mk' hbel1; obtain ⟨ab, acap, rfl⟩ := row_shape hnear; clear hnear hbel1) | fail)
  go_loopw [5, 7] (fun ov pv wr => ∃ (L : List Lz.Cp) (n p : Nat), pv = .int .i64 (p : Int) ∧ p ≤ s.size ∧ Hid (GrR (Sums.bl s) m tries (.slice ab m acap) w ov L n p wr)) (fun _ pv _ => s.size + 1 - (intOf pv).toNat)
  case atStart => exact ⟨[], 0, 0, rfl, Nat.zero_le _, ⟨World.ownsRow_nil _ _ _ _, rfl, ⟨s.size + 1, by rw [HSL.out]; omega, by rw [List.nil_append, Lz.greedy, HSL.out]⟩, HN.out, HB1.out, Nat.le_refl _⟩⟩
  case round =>
    obtain ⟨L, n, p, rfl, hps, hgr⟩ := hrel
    clear HNS HN HB1
    obtain ⟨b, cap, rfl⟩ := row_shape hgr.out.row
    by_cases hend : s.size < p + 12
    · have hI : ¬ (p : Int) + 12 ≤ (s.size : Int) := by omega
      obtain ⟨f, hf, he⟩ := hgr.out.eq
      rw [greedyF_stop _ _ _ _ (by rw [HSL.out]; exact hend), List.append_nil] at he
      have HE := Hid.mk' he
      clear he hf
      go_wp2
      go_ret
      exact ⟨_, rfl, by rw [← HE.out]; exact cprR_of hgr.out.row hgr.out.len, hgr.out.bel⟩
    · have hI : (p : Int) + 12 ≤ (s.size : Int) := by omega
      have hpm : p + 9 ≤ m := by have := HM.out; omega
      obtain ⟨g, acap2, hav, _⟩ := hgr.out.near.form (by omega)
      simp only [Value.slice.injEq] at hav
      obtain ⟨rfl, _, rfl⟩ := hav
      have hnc := nearR_cell hgr.out.near (show p < m by omega)
      have hnl := Lz.nearOf_lt (Sums.bl s) p
      obtain ⟨O, hO⟩ : ∃ O, (Lz.long (Sums.bl s) tries p).1 = O := ⟨_, rfl⟩
      obtain ⟨N, hN⟩ : ∃ N, (Lz.long (Sums.bl s) tries p).2 = N := ⟨_, rfl⟩
      have hlong : Lz.long (Sums.bl s) tries p = (O, N) := by rw [← hO, ← hN]
      have hgood := Lz.long_good (Sums.bl s) (Sums.bl_byt s) tries p (by rw [HSL.out]; omega)
      rw [hlong, Lz.Good, HSL.out] at hgood
      have hlF : Lz.longF (Sums.bl s) p tries (Lz.nearOf (Sums.bl s) p) (0, 0) = (O, N) := hlong
      obtain ⟨c0, hc0⟩ : ∃ c0, Lz.nearOf (Sums.bl s) p = c0 := ⟨_, rfl⟩
      rw [hc0] at hnc hnl hlF
      have HLF := Hid.mk' hlF
      have HLO := Hid.mk' (And.intro hlong hgood)
      have hpmI : (p : Int) < (m : Int) := by omega
      clear hO hN hlong hgood hlF hc0
      go_upto_block 2 with fail
      go_cut [8, 9] (fun lv fv wc => lv = .int .i64 (N : Int) ∧ fv = .int .i64 (O : Int) ∧ Hid (∃ j, wc = wr.drewN j))
      case first =>
        go_wp2_with fail
        go_loopw [8, 9, 10, 11] (fun lv fv cv kv wx => ∃ (t k off cnt : Nat) (c : Int), lv = .int .i64 (cnt : Int) ∧ fv = .int .i64 (off : Int) ∧ cv = .int .i64 c ∧ kv = .int .i64 (k : Int) ∧ k + t = tries ∧ -1 ≤ c ∧ c < (p : Int) ∧ cnt ≤ 4294967296 ∧ Hid (Lz.longF (Sums.bl s) p t c (off, cnt) = (O, N)) ∧ Hid (∃ j, wx = wr.drewN j)) (fun _ _ _ kv _ => tries - (intOf kv).toNat)
        case atStart => exact ⟨tries, 0, 0, 0, c0, rfl, rfl, rfl, rfl, by omega, hnl.1, hnl.2, by omega, HLF, ⟨0, rfl⟩⟩
        case round =>
          obtain ⟨t, k, off, cnt, c, rfl, rfl, rfl, rfl, hkt, hc1, hc2, hcb, hl, hwx⟩ := hrel
          rename World => wx
          clear HLF hnl
          by_cases hin : 0 ≤ c ∧ (p : Int) - c ≤ 65535 ∧ 0 < t
          · obtain ⟨i1, i2, i3⟩ := hin
            obtain ⟨q, rfl⟩ : ∃ q : Nat, c = (q : Int) := ⟨c.toNat, by omega⟩
            obtain ⟨t1, rfl⟩ : ∃ t1, t = t1 + 1 := ⟨t - 1, by omega⟩
            have hqp : q < p := by omega
            have heq := hl.out
            rw [Lz.longF_step _ _ _ _ _ ⟨i1, i2⟩, Int.toNat_natCast] at heq
            obtain ⟨A, hA⟩ : ∃ A, Lz.agree (Sums.bl s) q p = A := ⟨_, rfl⟩
            have hAb := Lz.agree_le (Sums.bl s) q p
            rw [hA] at heq hAb
            rw [Sums.bl_length] at hAb
            have HAG := Hid.mk' (fun w => refAgrees_any s q p w hs hqp (by omega))
            rw [hA] at HAG
            have hnq : wx.cell? ⟨g, q, none⟩ = some (.int .i64 (Lz.nearOf (Sums.bl s) q)) := by
              obtain ⟨j, rfl⟩ := hwx.out
              exact nearR_cell hgr.out.near (show q < m by omega)
            have hnq2 := Lz.nearOf_lt (Sums.bl s) q
            obtain ⟨c3, hc3⟩ : ∃ c3, Lz.nearOf (Sums.bl s) q = c3 := ⟨_, rfl⟩
            rw [hc3] at hnq hnq2 heq
            have hqm : (q : Int) < (m : Int) := by omega
            have hqmN : q < m := by omega
            have i1B : decide ((0 : Int) ≤ (q : Int)) = true := by simp
            have i2B : decide ((p : Int) - (q : Int) ≤ 65535) = true := by simp; omega
            have i3I : (k : Int) < (tries : Int) := by omega
            have i3B : decide ((k : Int) < (tries : Int)) = true := by simp; omega
            have i3N : decide (k < tries) = true := by simp; omega
            obtain ⟨d, hd⟩ : ∃ d, p - q = d := ⟨_, rfl⟩
            have hdI : (p : Int) - (q : Int) = (d : Int) := by omega
            have HEQ := Hid.mk' heq
            have hAb2 : A ≤ 4294967296 := by omega
            have hkb : k + 1 ≤ 4294967297 := by omega
            rw [hd] at HEQ
            have HCL := Hid.mk' (And.intro hnq2 hkt)
            clear heq hA hc3 hnq2 hAb hd hkt hl
            by_cases hbet : cnt < A
            · have hbI : (cnt : Int) < (A : Int) := by omega
              go_wp2_with (first | (go_at_call 45; refine (HAG.out _).mono ?_; rintro e w1 ⟨rfl, nd, rfl⟩) | fail)
              go_roundw
              case rel =>
                have hh := HEQ.out
                rw [if_pos hbet] at hh
                have hcl := HCL.out
                exact ⟨t1, k + 1, d, A, c3, rfl, rfl, rfl, by simp, by omega, hcl.1.1, by omega, hAb2, hh, by obtain ⟨j, rfl⟩ := hwx.out; exact ⟨j + nd, World.drewN_drewN _ _ _⟩⟩
              case measure =>
                have hcl := HCL.out
                simp [intOf]
                omega
            · have hbI : ¬ (cnt : Int) < (A : Int) := by omega
              go_wp2_with (first | (go_at_call 45; refine (HAG.out _).mono ?_; rintro e w1 ⟨rfl, nd, rfl⟩) | fail)
              go_roundw
              case rel =>
                have hh := HEQ.out
                rw [if_neg hbet] at hh
                have hcl := HCL.out
                exact ⟨t1, k + 1, off, cnt, c3, rfl, rfl, rfl, by simp, by omega, hcl.1.1, by omega, hcb, hh, by obtain ⟨j, rfl⟩ := hwx.out; exact ⟨j + nd, World.drewN_drewN _ _ _⟩⟩
              case measure =>
                have hcl := HCL.out
                simp [intOf]
                omega
          · have hR : (O, N) = (off, cnt) := by
              rw [← hl.out]
              by_cases h : 0 ≤ c ∧ (p : Int) - c ≤ 65535
              · obtain rfl : t = 0 := by omega
                rfl
              · exact Lz.longF_stop _ _ _ _ _ h
            simp only [Prod.mk.injEq] at hR
            obtain ⟨rfl, rfl⟩ := hR
            by_cases i3 : 0 < t
            · have i3I : (k : Int) < (tries : Int) := by omega
              have i3B : decide ((k : Int) < (tries : Int)) = true := by simp; omega
              have i3N : decide (k < tries) = true := by simp; omega
              by_cases i1 : 0 ≤ c
              · have i1B : decide ((0 : Int) ≤ c) = true := by simp; omega
                have i2B : decide ((p : Int) - c ≤ 65535) = false := by simp; omega
                clear hl hin hkt
                go_wp2
                go_meet
                exact ⟨rfl, rfl, hwx⟩
              · have i1B : decide ((0 : Int) ≤ c) = false := by simp; omega
                clear hl hin hkt
                go_wp2
                go_meet
                exact ⟨rfl, rfl, hwx⟩
            · have i3I : ¬ (k : Int) < (tries : Int) := by omega
              have i3B : decide ((k : Int) < (tries : Int)) = false := by simp; omega
              have i3N : decide (k < tries) = false := by simp; omega
              clear hl hin hkt
              go_wp2
              go_meet
              exact ⟨rfl, rfl, hwx⟩
      case rest =>
        obtain ⟨rfl, rfl, hwx⟩ := hcut
        rename World => wx
        have HG : Hid (GrR (Sums.bl s) m tries (.slice (some ⟨g, 0, none⟩) m acap) w (.slice b n cap) L n p wx) := by
          obtain ⟨j, rfl⟩ := hwx.out
          exact hgr.out.drew j
        clear hwx hgr HLF hnl hnc
        obtain ⟨f, hf, he⟩ := HG.out.eq
        rw [HSL.out] at hf
        obtain ⟨f1, rfl⟩ : ∃ f1, f = f1 + 1 := ⟨f - 1, by omega⟩
        have hlim := HG.out.lim
        have hsz : w.heap.size ≤ wx.heap.size := HG.out.bel.size
        by_cases hc0 : N = 0
        · subst hc0
          rw [greedyF_skip _ _ _ _ (by rw [HSL.out]; exact hend) (by rw [HLO.out.1])] at he
          have HE := Hid.mk' he
          clear he
          go_wp2
          go_roundw
          case rel =>
            exact ⟨L, n, p + 1, by simp, by omega, ⟨HG.out.row, HG.out.len, ⟨f1, by rw [HSL.out]; omega, HE.out⟩, HG.out.near, HG.out.bel, by omega⟩⟩
          case measure =>
            simp [intOf]
            omega
        · have hcI : ((N : Int) == 0) = false := by simp; exact hc0
          obtain ⟨g1, g2, g3, g4, g5⟩ : 4 ≤ N ∧ N ≤ s.size - 5 - p ∧ 1 ≤ O ∧ O ≤ 65535 ∧ O ≤ p := by
            rcases HLO.out.2 with h | h
            · exact absurd h.1 hc0
            · exact h
          rw [greedyF_copy _ _ _ _ O N (by rw [HSL.out]; exact hend) HLO.out.1 hc0] at he
          have HE := Hid.mk' he
          have hnb : n + 1 ≤ 4294967297 := by omega
          clear he
          go_wp2_with (first | (at_builtin; refine wpList_append_own _ rfl _ _ 55 rfl w.heap.size 85 i0 _ 3 24 Try.underlying55 hi hz0 hz1 hz2 rfl (by decide) (.slice b n cap) n (cpv L) rfl (by exact (HG.out.row.alloc _)) ⟨wx.heap.size, 0, none⟩ 1 1 [.int .i64 (p : Int), .int .i64 (O : Int), .int .i64 (N : Int)] rfl rfl (n3_news _ _ _ _ _) (cp_one _ _ _) (by unfold maxLen; omega) (by omega) (by simp; omega) ?_; intro v3 w3 hown3 hgrow3 _; have HO3 := Hid.mk' hown3; have HG3 := Hid.mk' hgrow3; obtain ⟨b3, cap3, rfl⟩ := row_shape hown3; clear hown3 hgrow3) | fail)
          go_roundw
          case rel =>
            have hlen := HG.out.len
            refine ⟨L ++ [⟨p, O, N⟩], n + 1, p + N, by simp, by omega, ⟨?_, by simp; omega, ⟨f1, by rw [HSL.out]; omega, by rw [List.append_assoc]; exact HE.out⟩, row_apart HG.out.near HG.out.row (by decide) HG3.out, ?_, by omega⟩⟩
            · rw [cpv_append]
              exact HO3.out
            · exact (HG.out.bel.alloc hsz _).grown HG3.out (by simp; omega) (fun k hk => (HG.out.row.lt k hk).1)
          case measure =>
            simp [intOf]
            omega
end Go.Proofs.Ytchjmhgalbkjkaa
