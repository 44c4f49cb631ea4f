/-
  lz4.greedy: copies taken from the front. Conditions: as it says.
-/
import Derived.Test.YtchjmhgalbkjkaaLng
import Derived.Test.YtchjmhgalbkjkaaWrn
namespace Go.Proofs.Ytchjmhgalbkjkaa
open Go.RowKit
set_option linter.unusedVariables false
theorem greedyF_stop (bs : List Nat) (tries f p : Nat) (h : bs.length < p + 12) : Lz.greedyF bs tries f p = [] := by
  cases f with
  | zero => rfl
  | succ f => rw [Lz.greedyF, if_pos h]
theorem greedyF_skip (bs : List Nat) (tries f p : Nat) (h : ¬ bs.length < p + 12) (h0 : (Lz.long bs tries p).2 = 0) : Lz.greedyF bs tries (f + 1) p = Lz.greedyF bs tries f (p + 1) := by
  rw [Lz.greedyF, if_neg h, if_pos h0]
theorem greedyF_copy (bs : List Nat) (tries f p off cnt : Nat) (h : ¬ bs.length < p + 12) (hl : Lz.long bs tries p = (off, cnt)) (h0 : ¬ cnt = 0) : Lz.greedyF bs tries (f + 1) p = ⟨p, off, cnt⟩ :: Lz.greedyF bs tries f (p + cnt) := by
  rw [Lz.greedyF, if_neg h, hl, if_neg h0]
theorem okc_mono (n i j : Nat) : ∀ (l : List Lz.Cp), i ≤ j → okc n j l → okc n i l
  | [], _, _ => trivial
  | c :: l, h, ⟨h1, h2⟩ => ⟨by omega, h2⟩
theorem okc_greedyF (bs : List Nat) (hb : ∀ z ∈ bs, z < 256) (tries : Nat) : ∀ (f p : Nat), okc bs.length p (Lz.greedyF bs tries f p)
  | 0, p => trivial
  | f + 1, p => by
    rw [Lz.greedyF]
    split
    · trivial
    · rename_i h
      have hg := Lz.long_good bs hb tries p (by omega)
      split
      · have ih := okc_greedyF bs hb tries f (p + 1)
        exact okc_mono _ _ _ _ (by omega) ih
      · rename_i h0
        rcases hg with hg | hg
        · exact absurd hg.1 h0
        · exact ⟨Nat.le_refl _, hg.1, by simp only; omega, by simp only; omega, okc_greedyF bs hb tries f _⟩
theorem infoM : (Try.prog.info? 72).map (fun i => (i.zero, i.size, i.bytes)) = some (some (.agg #[.int .i64 0, .int .i64 0, .int .i64 0]), 3, 24) := by kernel_rfl
theorem n3_news (w : World) (x y z : Value) (t : TypeId) : ∀ (j : Nat) (u : Value), [x, y, z][j]? = some u → (w.alloc (.cells #[x, y, z] t)).cell? ((⟨w.heap.size, 0, none⟩ : Addr).add j) = some u := by
  intro j u hu
  have hj : j < 3 := (List.getElem?_eq_some_iff.1 hu).1
  have := heap_alloc_new w (.cells #[x, y, z] t)
  rcases (show j = 0 ∨ j = 1 ∨ j = 2 by omega) with rfl | rfl | rfl <;> rw [Addr.add_lit] <;> simp only [World.cell?] <;> rw [this] <;> exact hu
theorem n3_next (w : World) (o : Obj) (x y z : Value) (t : TypeId) : ∀ (j : Nat) (u : Value), [x, y, z][j]? = some u → ((w.alloc o).alloc (.cells #[x, y, z] t)).cell? ((⟨w.heap.size + 1, 0, none⟩ : Addr).add j) = some u := by
  intro j u hu
  have := n3_news (w.alloc o) x y z t j u hu
  rw [show (w.alloc o).heap.size = w.heap.size + 1 by simp] at this
  exact this
theorem cp_one (a b c : Int) : ∀ u ∈ [Value.int .i64 a, .int .i64 b, .int .i64 c], u.oneCell' = true := by
  intro u hu
  simp at hu
  rcases hu with rfl | rfl | rfl <;> rfl
theorem row_shape {w : World} {base n size : Nat} {e : TypeId} {v : Value} {xs : List Value} (h : w.ownsRow base e size v n xs) : ∃ b cap, v = .slice b n cap := by
  rcases h.2 with ⟨rfl, rfl⟩ | ⟨g, cap, cur, rfl, _⟩
  · exact ⟨none, 0, rfl⟩
  · exact ⟨some ⟨g, 0, none⟩, cap, rfl⟩
theorem row_other {w : World} {base n size : Nat} {e : TypeId} {v : Value} {xs : List Value} (h : w.ownsRow base e size v n xs) {B : Nat} {cs : Array Value} {t : TypeId} {fz : Nat × Nat} (hB : w.heap[B]? = some (.cells cs t fz)) (ht : t ≠ e) : v.ownBlock ≠ some B := by
  rcases h.2 with ⟨rfl, _⟩ | ⟨g, cap, cur, rfl, _, h2, _⟩
  · simp [Value.ownBlock]
  · intro q
    simp only [Value.ownBlock, Option.some.injEq] at q
    subst q
    rw [h2] at hB
    simp only [Option.some.injEq, Obj.cells.injEq] at hB
    exact ht hB.2.1.symm
theorem row_kept {w w' : World} {base n size : Nat} {e : TypeId} {v : Value} {xs : List Value} (h : w.ownsRow base e size v n xs) (hb : ∀ k, v.ownBlock = some k → w'.heap[k]? = w.heap[k]?) : w'.ownsRow base e size v n xs := by
  refine ⟨h.1, ?_⟩
  rcases h.2 with h0 | ⟨g, cap, cur, rfl, h1, h2, h3⟩
  · exact .inl h0
  · exact .inr ⟨g, cap, cur, rfl, h1, by rw [hb g rfl]; exact h2, h3⟩
theorem cpr_of {w : World} {base n : Nat} {v : Value} {l : List Lz.Cp} (h : w.ownsRow base 72 3 v n (cpv l)) (hn : n = l.length) : Cpr w v l := by
  subst hn
  rcases h.2 with ⟨rfl, h0⟩ | ⟨g, cap, cur, rfl, h1, h2, h3, h4, h5, h6⟩
  · exact .inl ⟨rfl, List.length_eq_zero_iff.1 h0⟩
  · exact .inr ⟨g, cap, cur, (0, 0), rfl, h3, h2, by rw [Nat.mul_comm]; exact h6⟩
theorem below_up2 {base : Nat} {a b c : World} (h : Below base a b) (hb : base ≤ b.heap.size) (k : Below b.heap.size b c) : Below base a c :=
  h.trans ⟨k.os, k.tape, k.output, k.size, fun i hi => k.block i (by omega)⟩
structure Gr (bs : List Nat) (m g tries : Nat) (w0 : World) (ov : Value) (L : List Lz.Cp) (n p : Nat) (w : World) : Prop where
  row : w.ownsRow w0.heap.size 72 3 ov n (cpv L)
  len : n = L.length
  eq : ∃ f, bs.length < p + f ∧ L ++ Lz.greedyF bs tries f p = Lz.greedy bs tries
  near : w.heap[g]? = some (.cells (nearV bs m m).toArray 3 (0, 0))
  bel : Below w0.heap.size w0 w
  siz : w0.heap.size ≤ w.heap.size
  lim : n ≤ p
set_option maxRecDepth 100000 in
set_option maxHeartbeats 1000000 in
theorem greedy_any (s : ByteArray) (tries : Nat) (w : World) (hs : s.size ≤ 4294967296) (ht : tries ≤ 4294967296) :
    Calls Try.prog 22 #[.string s, .int .i64 (tries : Int)] w fun e w' => ∃ v, e = .returned v ∧ Cpr w' v (Lz.greedy (Sums.bl s) tries) ∧ Below w.heap.size w w' := by
  obtain ⟨i0, hi, hz0, hz1, hz2⟩ := info_parts infoM
  have HNS := Hid.mk' (nearestSame_any s w hs)
  have hsl := Sums.bl_length s
  have HSL := Hid.mk' hsl
  obtain ⟨m, hm⟩ : ∃ m, s.size - 3 = m := ⟨_, rfl⟩
  rw [hm] at HNS
  have HM := Hid.mk' hm
  clear hm hsl
  go_enter Try.func22, Try.ntmps22
  go_wp2_with (first | (go_at_call 37; refine HNS.out.mono ?_; rintro e w1 ⟨g, rfl, hg, hnear, hbel1⟩; have HN := Hid.mk' hnear; have HB1 := Hid.mk' hbel1; clear hnear hbel1) | fail)
  go_loopw [5, 7] (fun ov pv wr => ∃ (L : List Lz.Cp) (n p : Nat), pv = .int .i64 (p : Int) ∧ p ≤ s.size ∧ Gr (Sums.bl s) m g tries w ov L n p wr) (fun _ pv _ => s.size + 1 - (intOf pv).toNat)
  case atStart => exact ⟨[], 0, 0, rfl, Nat.zero_le _, ⟨World.ownsRow_nil _ _ _ _, rfl, ⟨s.size + 1, by rw [HSL.out]; omega, by rw [List.nil_append, Lz.greedy, HSL.out]⟩, HN.out, HB1.out, HB1.out.size, Nat.le_refl _⟩⟩
  case round =>
    obtain ⟨L, n, p, rfl, hps, hgr⟩ := hrel
    clear HNS HN HB1
    obtain ⟨b, cap, rfl⟩ := row_shape hgr.row
    by_cases hend : s.size < p + 12
    · have hI : ¬ (p : Int) ≤ (s.size : Int) - 12 := by omega
      obtain ⟨f, hf, he⟩ := hgr.eq
      rw [greedyF_stop _ _ _ _ (by rw [HSL.out]; exact hend), List.append_nil] at he
      have HG := Hid.mk' hgr
      have HE := Hid.mk' he
      clear hgr he
      go_wp2
      go_ret
      exact ⟨_, rfl, by rw [← HE.out]; exact cpr_of HG.out.row HG.out.len, HG.out.bel⟩
    · have hI : (p : Int) ≤ (s.size : Int) - 12 := by omega
      obtain ⟨off, hoff⟩ : ∃ off, (Lz.long (Sums.bl s) tries p).1 = off := ⟨_, rfl⟩
      obtain ⟨cnt, hcnt⟩ : ∃ cnt, (Lz.long (Sums.bl s) tries p).2 = cnt := ⟨_, rfl⟩
      have hlong : Lz.long (Sums.bl s) tries p = (off, cnt) := by rw [← hoff, ← hcnt]
      have hgood := Lz.long_good (Sums.bl s) (Sums.bl_byt s) tries p (by rw [HSL.out]; omega)
      rw [hlong, Lz.Good, HSL.out] at hgood
      have HL := Hid.mk' (longest_any s g m p tries wr hs HM.out.symm (by have := HM.out; omega) ht hgr.near)
      rw [hlong] at HL
      obtain ⟨f, hf, he⟩ := hgr.eq
      rw [HSL.out] at hf
      obtain ⟨f1, rfl⟩ : ∃ f1, f = f1 + 1 := ⟨f - 1, by omega⟩
      have HG := Hid.mk' hgr
      have hsz := hgr.siz
      have hlim := hgr.lim
      have hglt : g < wr.heap.size := (Array.getElem?_eq_some_iff.1 hgr.near).1
      by_cases hc0 : cnt = 0
      · subst hc0
        rw [greedyF_skip _ _ _ _ (by rw [HSL.out]; exact hend) (by rw [hlong])] at he
        have HE := Hid.mk' he
        clear hgr he hlong hoff hcnt hgood
        go_wp2_with (first | (go_at_call 38; refine HL.out.mono ?_; rintro e w2 ⟨rfl, hb2⟩; unfold mtV; have HB2 := Hid.mk' hb2; clear hb2) | fail)
        go_roundw
        case rel =>
          refine ⟨L, n, p + 1, by simp, by omega, ⟨?_, HG.out.len, ⟨f1, by rw [HSL.out]; omega, HE.out⟩, ?_, ?_, ?_, by omega⟩⟩
          · exact (row_kept HG.out.row fun k hk => HB2.out.block k (HG.out.row.lt k hk).2).alloc _
          · rw [Below.heap_alloc _ _ _ (Nat.lt_of_lt_of_le hglt HB2.out.size), HB2.out.block g hglt]
            exact HG.out.near
          · exact (below_up2 HG.out.bel hsz HB2.out).alloc (Nat.le_trans hsz HB2.out.size) _
          · have := HB2.out.size
            simp
            omega
        case measure =>
          simp [intOf]
          omega
      · have hcI : ((cnt : Int) == 0) = false := by simp; exact hc0
        obtain ⟨g1, g2, g3, g4, g5⟩ : 4 ≤ cnt ∧ cnt ≤ s.size - 5 - p ∧ 1 ≤ off ∧ off ≤ 65535 ∧ off ≤ p := by
          rcases hgood with h | h
          · exact absurd h.1 hc0
          · exact h
        rw [greedyF_copy _ _ _ _ off cnt (by rw [HSL.out]; exact hend) hlong hc0] at he
        have hat : atOf p cnt = p := by unfold atOf; rw [if_neg hc0]
        simp only [hat] at HL
        have HE := Hid.mk' he
        have hnb : n + 1 ≤ 4294967297 := by omega
        clear hgr he hlong hoff hcnt hgood hat
        go_wp2_with (first | (go_at_call 38; refine HL.out.mono ?_; rintro e w2 ⟨rfl, hb2⟩; unfold mtV; have hr2 := row_kept HG.out.row fun k hk => hb2.block k (HG.out.row.lt k hk).2; have HR2 := Hid.mk' hr2; have hs2 := Nat.le_trans hsz hb2.size; have HB2 := Hid.mk' hb2; clear hb2 hr2) | (at_builtin; refine wpList_append_own _ rfl _ _ 51 rfl w.heap.size 72 i0 _ 3 24 Try.underlying51 hi hz0 hz1 hz2 rfl (by decide) (.slice b n cap) n (cpv L) rfl (by exact ((HR2.out.alloc _).alloc _)) ⟨w2.heap.size + 1, 0, none⟩ 1 1 [.int .i64 (p : Int), .int .i64 (off : Int), .int .i64 (cnt : Int)] rfl rfl (n3_next _ _ _ _ _ _) (cp_one _ _ _) (by unfold maxLen; omega) (by omega) (by simp; omega) ?_; intro v3 w3 hown3 hgrow3 _; have hcb : w3.heap[w2.heap.size]? = some (.cells #[.int .i64 (p : Int), .int .i64 (off : Int), .int .i64 (cnt : Int)] 72 (0, 0)) := (hgrow3.block w2.heap.size (by simp; omega) (fun e => by have := (HR2.out.lt _ e.symm).2; omega)).trans ((Below.heap_alloc _ _ _ (by simp)).trans (heap_alloc_new w2 _)); obtain ⟨m0, m1, m2⟩ := three_cell hcb; have HO3 := Hid.mk' hown3; have HG3 := Hid.mk' hgrow3; obtain ⟨b3, cap3, rfl⟩ := row_shape hown3; clear hown3 hgrow3 hcb) | fail)
        go_roundw
        case rel =>
          have hlen := HG.out.len
          have hsz3 : w2.heap.size + 2 ≤ w3.heap.size := by have := HG3.out.size; simp at this; omega
          refine ⟨L ++ [⟨p, off, cnt⟩], n + 1, p + cnt, by simp, by omega, ⟨?_, by simp; omega, ⟨f1, by rw [HSL.out]; omega, by rw [List.append_assoc]; exact HE.out⟩, ?_, ?_, by omega, by omega⟩⟩
          · rw [cpv_append]
            exact HO3.out
          · rw [HG3.out.block g (by have := HB2.out.size; simp; omega) (fun e => row_other HR2.out ((HB2.out.block g hglt).trans HG.out.near) (by decide) e.symm), Below.heap_alloc _ _ _ (by have := HB2.out.size; simp; omega), Below.heap_alloc _ _ _ (Nat.lt_of_lt_of_le hglt HB2.out.size), HB2.out.block g hglt]
            exact HG.out.near
          · exact (((below_up2 HG.out.bel hsz HB2.out).alloc hs2 _).alloc (by simp; omega) _).grown HG3.out (by simp; omega) (fun k hk => (HR2.out.lt k hk).1)
        case measure =>
          simp [intOf]
          omega
end Go.Proofs.Ytchjmhgalbkjkaa
