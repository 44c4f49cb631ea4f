/-
  made: a packed text out of steps. Conditions: the steps lie in a row, the text ahead is within reach.
-/
import Derived.Test.YtchjmhgalbkjkaaMadC
import Derived.Deep.RegionWith
namespace Go.Proofs.Ytchjmhgalbkjkaa
open Go.RowKit Go.Shelf
set_option linter.unusedVariables false
theorem cell_of {W : World} {k : Nat} {cs : Array Value} {t : TypeId} {fz : Nat × Nat} (h : W.heap[k]? = some (.cells cs t fz)) (o : Nat) (v : Value) (hv : cs[o]? = some v) : W.cell? ⟨k, o, none⟩ = some v := by
  simp [World.cell?, h, hv]
theorem froz_of {W : World} {k : Nat} {cs : Array Value} {t : TypeId} (h : W.heap[k]? = some (.cells cs t (0, 0))) (o : Nat) : W.frozen? ⟨k, o, none⟩ = false := by
  simp [World.frozen?, h]
theorem fin_box {W : World} {b : Nat} {t : TypeId} {x0 x1 x2 x3 : Value} (h : W.heap[b]? = some (.cells #[x0, x1, x2, x3] t (0, 0))) (v0 v1 v2 v3 : Value) : ((((W.setCell ⟨b, 0, none⟩ v0).setCell ⟨b, 1, none⟩ v1).setCell ⟨b, 2, none⟩ v2).setCell ⟨b, 3, none⟩ v3).heap[b]? = some (.cells #[v0, v1, v2, v3] t (0, 0)) :=
  setc_at (setc_at (setc_at (setc_at h 0 v0) 1 v1) 2 v2) 3 v3
theorem fin_row {W : World} {b : Nat} {cs : Array Value} {t : TypeId} {base n size : Nat} {e : TypeId} {v : Value} {xs : List Value} (h : W.heap[b]? = some (.cells cs t (0, 0))) (hr : W.ownsRow base e size v n xs) (ht : t ≠ e) (v0 v1 v2 v3 : Value) : ((((W.setCell ⟨b, 0, none⟩ v0).setCell ⟨b, 1, none⟩ v1).setCell ⟨b, 2, none⟩ v2).setCell ⟨b, 3, none⟩ v3).ownsRow base e size v n xs := by
  have hne := own_ty hr h ht
  have hn : v.ownBlock = none ∨ v.ownBlock ≠ some b := .inr hne
  exact (((hr.kept (grown_setc W b 0 v0) hn).kept (grown_setc _ b 1 v1) hn).kept (grown_setc _ b 2 v2) hn).kept (grown_setc _ b 3 v3) hn
theorem lits_bytes (tb E : ByteArray) (et c0 h0 : Nat) (LB : ByteArray) (pre : List Nat) (hpre : ∀ z ∈ pre, z < 256) (htb : tb = nums pre) (hE : E.size = et) (hh0 : min et 15 = h0) (hc0 : 16 * h0 = c0) (hLB : nums (Lz.lenb et) = LB) : ((tb ++ nums [c0]) ++ LB) ++ E = nums (pre ++ Lz.lits (Sums.bl E) 0) := by
  have he : Lz.lits (Sums.bl E) 0 = [c0] ++ (Lz.lenb et ++ Sums.bl E) := by
    simp only [Lz.lits, Sums.bl_length, hE, hh0, hc0]
    simp
  have b0 : ∀ z ∈ [c0], z < 256 := by simp; omega
  have hx : ∀ z ∈ pre ++ ([c0] ++ (Lz.lenb et ++ Sums.bl E)), z < 256 := by
    intro z hz
    simp only [List.mem_append] at hz
    rcases hz with h | h | h | h
    · exact hpre z h
    · exact b0 z h
    · exact lenb_byt _ z h
    · exact Sums.bl_byt _ z h
  apply Sums.bl_inj
  rw [he, Sums.bl_append, Sums.bl_append, Sums.bl_append, bl_nums _ hx, htb, ← hLB, bl_nums _ hpre, bl_nums _ b0, bl_nums _ (lenb_byt _)]
  simp
/-- steps, as they lie -/
def Steps (w : World) (p : Option Addr) (L : List St) : Prop := ∀ (i : Nat) (x : St), L[i]? = some x → ∃ g off, p = some ⟨g, off, none⟩ ∧ g < w.heap.size ∧ w.cell? ⟨g, off + i * 3, none⟩ = some (.string x.lit) ∧ w.cell? ⟨g, off + i * 3 + 1, none⟩ = some (.int .i64 x.back) ∧ w.cell? ⟨g, off + i * 3 + 2, none⟩ = some (.int .i64 x.many) ∧ x.lit.size ≤ 140737488355328 ∧ (-9223372036854775808 ≤ x.back ∧ x.back ≤ 9223372036854775807) ∧ (-9223372036854775808 ≤ x.many ∧ x.many ≤ 9223372036854775807)
theorem Steps.below {w w' : World} {p : Option Addr} {L : List St} {B : Nat} (h : Steps w p L) (hb : Below B w w') (hB : w.heap.size ≤ B) : Steps w' p L := by
  intro i x hx
  obtain ⟨g, off, h1, h2, h3, h4, h5, h6⟩ := h i x hx
  have e := hb.block g (by omega)
  refine ⟨g, off, h1, by have := hb.size; omega, ?_, ?_, ?_, h6⟩
  · simp only [World.cell?, e] at h3 ⊢; exact h3
  · simp only [World.cell?, e] at h4 ⊢; exact h4
  · simp only [World.cell?, e] at h5 ⊢; exact h5
theorem Steps.take {w : World} {p : Option Addr} {L : List St} (h : Steps w p L) (k : Nat) : Steps w p (L.take k) := by
  intro i x hx
  refine h i x ?_
  rw [List.getElem?_take] at hx
  split at hx
  · exact hx
  · cases hx
/-- the end's literals -/
def endOf (en : ByteArray) : ByteArray := en.extract 0 (min en.size 100000)
def lastPt (ps : List Lz.Pc) (en : ByteArray) : Pt := ((Lz.enc ps).length, endOf en, 0, 0)
def MadeAre (bef : ByteArray) (L : List St) (en : ByteArray) (w : World) (e : Ending) (w' : World) : Prop :=
  ∃ (lv av : Value) (ps : List Lz.Pc), ps = mkP (Sums.bl bef) (L.take 60) ∧ e = .returned (.agg #[.string (nums (Lz.enc ps ++ Lz.lits (Sums.bl (endOf en)) 0)), .string (nums ((Lz.sayP (Sums.bl bef) ps).drop bef.size) ++ endOf en), lv, av]) ∧
    w'.ownsRow w.heap.size 39 3 lv (ps.length + 1) (pqv (ptsP 0 ps ++ [lastPt ps en])) ∧ w'.ownsRow w.heap.size 3 1 av (ps.length + 1) (plv (ptsP 0 ps ++ [lastPt ps en])) ∧ Below w.heap.size w w'
theorem made_step (bef : ByteArray) (L : List St) (i : Nat) (x : St) (hx : L[i]? = some x) (S : List Nat) (tb T : ByteArray) (pts : List Pt) (bk ln : Nat) (hS : S = Lz.sayP (Sums.bl bef) (mkP (Sums.bl bef) (L.take i))) (htb : tb = nums (Lz.enc (mkP (Sums.bl bef) (L.take i)))) (hpts : pts = ptsP 0 (mkP (Sums.bl bef) (L.take i))) (hT : T = litOf S.length x) (hbk : bk = offOf S.length x) (hln : ln = lenOf x) :
    Lz.grow bk ln (S ++ Sums.bl T) = Lz.sayP (Sums.bl bef) (mkP (Sums.bl bef) (L.take (i + 1))) ∧ tb ++ nums (Lz.enc1 ⟨Sums.bl T, bk, ln⟩) = nums (Lz.enc (mkP (Sums.bl bef) (L.take (i + 1)))) ∧ pts ++ [(tb.size, T, bk, ln)] = ptsP 0 (mkP (Sums.bl bef) (L.take (i + 1))) := by
  have hpc : pcOf S x = ⟨Sums.bl T, bk, ln⟩ := by rw [pcOf, hT, hbk, hln]
  have htk : L.take (i + 1) = L.take i ++ [x] := by rw [List.take_add_one, hx]; rfl
  have hmk : mkP (Sums.bl bef) (L.take (i + 1)) = mkP (Sums.bl bef) (L.take i) ++ [⟨Sums.bl T, bk, ln⟩] := by
    rw [htk, mkP_append, ← hS, mkP, mkP, hpc]
  have hbe := enc_byt (L.take i) (Sums.bl bef)
  have hb1 := enc1_byt S x
  rw [hpc] at hb1
  rw [hmk]
  refine ⟨?_, ?_, ?_⟩
  · rw [Lz.sayP_append, ← hS]
    rfl
  · rw [Lz.enc_append, htb, nums_append _ _ hbe hb1, Lz.enc, Lz.enc, List.append_nil]
  · rw [ptsP_snoc, hpts, htb, nums_size, Nat.zero_add, nums_bl]
theorem enc1_bytes (tb T : ByteArray) (t r2 bk ln c0 o1 o2 : Nat) (LB LM : ByteArray) (hT : T.size = t) (hln : 4 + r2 = ln) (hc0 : 16 * min t 15 + min r2 15 = c0) (ho1 : bk % 256 = o1) (ho2 : bk / 256 = o2) (hbk : bk ≤ 65535) (hLB : nums (Lz.lenb t) = LB) (hLM : nums (Lz.lenb r2) = LM) :
    ((((tb ++ nums [c0]) ++ LB) ++ T) ++ nums [o1, o2]) ++ LM = tb ++ nums (Lz.enc1 ⟨Sums.bl T, bk, ln⟩) := by
  have he : Lz.enc1 ⟨Sums.bl T, bk, ln⟩ = [c0] ++ (Lz.lenb t ++ (Sums.bl T ++ ([o1, o2] ++ Lz.lenb r2))) := by
    simp only [Lz.enc1, Lz.lits, Sums.bl_length, hT, ho1, ho2]
    rw [show ln - 4 = r2 by omega, hc0]
    simp
  have b0 : ∀ z ∈ [c0], z < 256 := by simp; omega
  have b1 : ∀ z ∈ [o1, o2], z < 256 := by simp; omega
  apply Sums.bl_inj
  rw [he]
  have hx : ∀ z ∈ [c0] ++ (Lz.lenb t ++ (Sums.bl T ++ ([o1, o2] ++ Lz.lenb r2))), z < 256 := by
    intro z hz
    simp only [List.mem_append] at hz
    rcases hz with h | h | h | h | h
    · exact b0 z h
    · exact lenb_byt _ z h
    · exact Sums.bl_byt _ z h
    · exact b1 z h
    · exact lenb_byt _ z h
  rw [Sums.bl_append, Sums.bl_append, Sums.bl_append, Sums.bl_append, Sums.bl_append, Sums.bl_append, bl_nums _ hx, ← hLB, ← hLM, bl_nums _ b0, bl_nums _ b1, bl_nums _ (lenb_byt _), bl_nums _ (lenb_byt _)]
  simp
set_option maxRecDepth 100000 in
set_option maxHeartbeats 4000000 in
theorem made_any (bef en : ByteArray) (p : Option Addr) (cap : Nat) (L : List St) (w : World) (hbef : bef.size ≤ 140737488355328) (hen : en.size ≤ 140737488355328) (hL : L.length ≤ 140737488355328) (hst : Steps w p L) :
    Calls Try.prog 12 #[.string bef, .slice p L.length cap, .string en] w (MadeAre bef L en w) := by
  obtain ⟨i0, hi, hz0, hz1, hz2⟩ := info_parts infoB
  obtain ⟨i1, hi1, hy0, hy1, hy2⟩ := info_parts infoI
  obtain ⟨i2, hi2, hx0, hx1, hx2⟩ := info_parts infoQ
  obtain ⟨b, hb⟩ : ∃ b, w.heap.size = b := ⟨_, rfl⟩
  obtain ⟨n, hn⟩ : ∃ n, L.length = n := ⟨_, rfl⟩
  rw [hn]
  obtain ⟨W1, hW1⟩ : ∃ W1, (w.alloc (.cells #[.string ⟨#[]⟩, .string ⟨#[]⟩, .slice none 0 0, .slice none 0 0] 31)).alloc (.cells #[.string ⟨#[]⟩, .string ⟨#[]⟩, .slice none 0 0, .slice none 0 0] 31) = W1 := ⟨_, rfl⟩
  have hs1 : W1.heap.size = b + 2 := by rw [← hW1]; simp [hb]
  have hconv := Go.Lib.run_convert_string_bytes (P := Try.prog) W1 9 58 5 bef Try.underlying9 Try.underlying58 Try.underlying5
  have HST : Hid (Mb b w ⟨#[]⟩ (.slice (some ⟨b + 2, 0, none⟩) bef.size (grownCap W1 bef.size 0 5)) (.slice none 0 0) (.slice none 0 0) bef.size (Sums.bl bef) 0 [] 0 [] (Go.Lib.bytesWorld W1 5 bef)) := by
    have hold : ∀ k, k < W1.heap.size → (Go.Lib.bytesWorld W1 5 bef).heap[k]? = W1.heap[k]? := fun k hk => Go.Lib.bytesWorld_at_old W1 5 bef k hk
    have hrs := own_text W1 b bef (by omega) (by unfold maxLen; omega)
    rw [hs1] at hrs
    refine ⟨(hold b (by omega)).trans ?_, (hold (b + 1) (by omega)).trans ?_, hrs, World.ownsRow_nil _ _ _ _, World.ownsRow_nil _ _ _ _, ?_, by rw [Go.Lib.bytesWorld_size]; omega⟩
    · rw [← hW1, ← hb, Below.heap_alloc _ _ _ (by simp)]
      exact heap_alloc_new w _
    · rw [← hW1]
      have := heap_alloc_new (w.alloc (.cells #[.string ⟨#[]⟩, .string ⟨#[]⟩, .slice none 0 0, .slice none 0 0] 31)) (.cells #[.string ⟨#[]⟩, .string ⟨#[]⟩, .slice none 0 0, .slice none 0 0] 31)
      simpa [hb] using this
    · have hb1 : Below b w W1 := by rw [← hW1]; exact ((Below.refl b w).alloc (by omega) _).alloc (by simp; omega) _
      exact hb1.trans ⟨rfl, rfl, rfl, by rw [Go.Lib.bytesWorld_size]; omega, fun k hk => hold k (by omega)⟩
  have HSTP := Hid.mk' hst
  clear hst
  go_enter Try.func12, Try.ntmps12
  go_wp2
  go_loopw [8, 9] (fun sv iv wr => ∃ (i : Nat) (S : List Nat) (lv av : Value) (tb : ByteArray) (pts : List Pt), iv = .int .i64 (i : Int) ∧ i ≤ n ∧ i ≤ 60 ∧ S = Lz.sayP (Sums.bl bef) (mkP (Sums.bl bef) (L.take i)) ∧ tb = nums (Lz.enc (mkP (Sums.bl bef) (L.take i))) ∧ pts = ptsP 0 (mkP (Sums.bl bef) (L.take i)) ∧ Mb b w tb sv lv av S.length S i pts i pts wr) (fun _ iv _ => 60 - (intOf iv).toNat)
  case atStart =>
    refine ⟨0, Sums.bl bef, .slice none 0 0, .slice none 0 0, ⟨#[]⟩, [], rfl, Nat.zero_le _, Nat.zero_le _, rfl, rfl, rfl, ?_⟩
    rw [Sums.bl_length]
    exact HST.out
  case round =>
    obtain ⟨i, S, lv, av, tb, pts, rfl, hin, hi60, hS, htb, hpts, hmb⟩ := hrel
    obtain ⟨m, hm⟩ : ∃ m, S.length = m := ⟨_, rfl⟩
    rw [hm] at hmb
    have hmle : m ≤ 140737488355328 + 4603 * 60 := by
      rw [← hm, hS, sayP_len, Sums.bl_length]
      have := mkP_tot (L.take i) (Sums.bl bef)
      have h2 : (L.take i).length ≤ 60 := by rw [List.length_take]; omega
      omega
    obtain ⟨nb, hnb⟩ : ∃ nb, tb.size = nb := ⟨_, rfl⟩
    have hnble : nb ≤ 300000 := by
      rw [← hnb, htb, nums_size]
      have := enc_small (L.take i) (Sums.bl bef)
      have h2 : (L.take i).length ≤ 60 := by rw [List.length_take]; omega
      omega
    have HM := Hid.mk' hm
    have HS := Hid.mk' hS
    have HTB := Hid.mk' htb
    have HPT := Hid.mk' hpts
    have HMB := Hid.mk' hmb
    obtain ⟨bs, cs, rfl⟩ := ownM_shape hmb.rs
    have hbel := hmb.bel
    obtain ⟨lb, lc, rfl⟩ := row_shape' hmb.rl
    obtain ⟨ab, ac, rfl⟩ := row_shape' hmb.ra
    have hsz0 := hmb.siz
    clear hm hS htb hpts hmb
    by_cases hc : i < n ∧ i < 60
    · obtain ⟨⟨xl, xb, xm⟩, hx⟩ : ∃ x, L[i]? = some x := ⟨_, List.getElem?_eq_getElem (by omega)⟩
      obtain ⟨g, off, rfl, hg1, hg2, hg3, hg4, hg5, hg6, hg7⟩ := HSTP.out i _ hx
      simp only at hg2 hg3 hg4 hg5 hg6 hg7
      have e := hbel.block g (by omega)
      have c1 : wr.cell? ⟨g, off + i * 3, none⟩ = some (.string xl) := by simp only [World.cell?, e] at hg2 ⊢; exact hg2
      have c2 : wr.cell? ⟨g, off + i * 3 + 1, none⟩ = some (.int .i64 xb) := by simp only [World.cell?, e] at hg3 ⊢; exact hg3
      have c3 : wr.cell? ⟨g, off + i * 3 + 2, none⟩ = some (.int .i64 xm) := by simp only [World.cell?, e] at hg4 ⊢; exact hg4
      have HX := Hid.mk' hx
      have h1 : (i : Int) < (n : Int) := by omega
      have h2 : (i : Int) < 60 := by omega
      have h3 : i < n := by omega
      obtain ⟨T0, hT0⟩ : ∃ T0, xl.extract 0 (min xl.size 4000) = T0 := ⟨_, rfl⟩
      have hT0i : xl.extract 0 (min (xl.size : Int) 4000).toNat = T0 := by
        rw [show (min (xl.size : Int) 4000).toNat = min xl.size 4000 by omega]
        exact hT0
      obtain ⟨t0, hT0s⟩ : ∃ t0, T0.size = t0 := ⟨_, rfl⟩
      have hT04 : t0 ≤ 4000 := by
        rw [← hT0s, ← hT0, ByteArray.size_extract]
        omega
      have HT0 := Hid.mk' hT0
      have HBEL := Hid.mk' hbel
      clear hT0 hg2 hg3 hg4 e hx hbel
      by_cases hz : m + t0 = 0
      · have hzI : ((m : Int) + (t0 : Int) == 0) = true := by simp; omega
        have HLT : Hid ((⟨#[122]⟩ : ByteArray) = litOf m ⟨xl, xb, xm⟩) := by
          refine Hid.mk' ?_
          unfold litOf
          simp only [HT0.out, hT0s]
          rw [if_pos hz]
        obtain ⟨t, ht⟩ : ∃ t, t = 1 := ⟨_, rfl⟩
        have htp : 0 < m + t := by omega
        have ht4 : t ≤ 4000 := by omega
        have hTs : (⟨#[122]⟩ : ByteArray).size = t := by rw [ht]; rfl
        clear ht
        obtain ⟨m1, hm1⟩ : ∃ m1, m + t = m1 := ⟨_, rfl⟩
        have hm1I : (m : Int) + (t : Int) = (m1 : Int) := by omega
        obtain ⟨q, hq⟩ : ∃ q, min m1 65535 = q := ⟨_, rfl⟩
        have hqI : min (m1 : Int) 65535 = (q : Int) := by omega
        have hq0 : 0 < q := by omega
        have hq1 : q ≤ 65535 := by omega
        obtain ⟨r1, hr1⟩ : ∃ r1, pickN xb (q : Int) = r1 := ⟨_, rfl⟩
        obtain ⟨r2, hr2⟩ : ∃ r2, pickN xm 600 = r2 := ⟨_, rfl⟩
        have hr1l : r1 < q := by have := pickN_lt xb (q : Int) (by omega); omega
        have hr2l : r2 < 600 := by have := pickN_lt xm 600 (by omega); omega
        obtain ⟨bk, hbk⟩ : ∃ bk, 1 + r1 = bk := ⟨_, rfl⟩
        have hbkI : 1 + (r1 : Int) = (bk : Int) := by omega
        obtain ⟨ln, hln⟩ : ∃ ln, 4 + r2 = ln := ⟨_, rfl⟩
        have hlnI : 4 + (r2 : Int) = (ln : Int) := by omega
        have hlrI : (ln : Int) - 4 = (r2 : Int) := by omega
        have HP1 := Hid.mk' (fun W => pick_det xb (q : Int) W (by omega) (by omega) hg6.1 hg6.2)
        have HP2 := Hid.mk' (fun W => pick_det xm 600 W (by omega) (by omega) hg7.1 hg7.2)
        rw [hr1] at HP1
        rw [hr2] at HP2
        have HL1 := Hid.mk' (fun W => lengthed_any t W (by omega))
        have HL2 := Hid.mk' (fun W => lengthed_any r2 W (by omega))
        obtain ⟨h0, hh0⟩ : ∃ h0, min t 15 = h0 := ⟨_, rfl⟩
        obtain ⟨l0, hl0⟩ : ∃ l0, min r2 15 = l0 := ⟨_, rfl⟩
        obtain ⟨LB, hLB⟩ : ∃ LB, nums (Lz.lenb t) = LB := ⟨_, rfl⟩
        obtain ⟨LM, hLM⟩ : ∃ LM, nums (Lz.lenb r2) = LM := ⟨_, rfl⟩
        rw [hh0, hLB] at HL1
        rw [hl0, hLM] at HL2
        obtain ⟨lbs, hLBs⟩ : ∃ k, LB.size = k := ⟨_, rfl⟩
        obtain ⟨lms, hLMs⟩ : ∃ k, LM.size = k := ⟨_, rfl⟩
        have hlb4 : lbs ≤ 394 := by rw [← hLBs, ← hLB, nums_size, Lz.lenb_length]; exact beh_small t (by omega)
        have hlm4 : lms ≤ 394 := by rw [← hLMs, ← hLM, nums_size, Lz.lenb_length]; exact beh_small r2 (by omega)
        obtain ⟨c0, hc0⟩ : ∃ c0, 16 * h0 + l0 = c0 := ⟨_, rfl⟩
        have hc0I : 16 * (h0 : Int) + (l0 : Int) = (c0 : Int) := by omega
        have hc0l : c0 < 256 := by omega
        have hc0u : IntKind.u8.wrap (c0 : Int) = (c0 : Int) := by rw [IntKind.wrap_u8]; omega
        obtain ⟨o1, ho1⟩ : ∃ o1, bk % 256 = o1 := ⟨_, rfl⟩
        obtain ⟨o2, ho2⟩ : ∃ o2, bk / 256 = o2 := ⟨_, rfl⟩
        have ho1I : (bk : Int) % 256 = (o1 : Int) := by omega
        have ho2I : (bk : Int) / 256 = (o2 : Int) := by omega
        have ho1u : IntKind.u8.wrap (o1 : Int) = (o1 : Int) := by rw [IntKind.wrap_u8]; omega
        have ho2u : IntKind.u8.wrap (o2 : Int) = (o2 : Int) := by rw [IntKind.wrap_u8]; omega
        have hcv1 : ∀ (W : World) (a : Addr) (u : Value), (convert 58 9 (.slice (some ⟨W.heap.size, 0, none⟩) 1 1)).run Try.prog ((W.setCell a u).alloc (.cells #[.int .u8 (c0 : Int)] 5)) = .ok (.string (nums [c0])) ((W.setCell a u).alloc (.cells #[.int .u8 (c0 : Int)] 5)) := fun W a u => conv_one (by have := heap_alloc_new (W.setCell a u) (.cells #[.int .u8 (c0 : Int)] 5); rw [show (W.setCell a u).heap.size = W.heap.size by simp [World.setCell]] at this; exact this)
        have hcv2 : ∀ (W : World) (a : Addr) (u : Value) (o : Obj), (convert 58 9 (.slice (some ⟨W.heap.size + 1, 0, none⟩) 2 2)).run Try.prog (((W.setCell a u).alloc o).alloc (.cells #[.int .u8 (o1 : Int), .int .u8 (o2 : Int)] 5)) = .ok (.string (nums [o1, o2])) (((W.setCell a u).alloc o).alloc (.cells #[.int .u8 (o1 : Int), .int .u8 (o2 : Int)] 5)) := fun W a u o => conv_two (by have := heap_alloc_new ((W.setCell a u).alloc o) (.cells #[.int .u8 (o1 : Int), .int .u8 (o2 : Int)] 5); rw [show ((W.setCell a u).alloc o).heap.size = W.heap.size + 1 by simp [World.setCell]] at this; exact this)
        have hn1 := nums_size [c0]
        have hn2 := nums_size [o1, o2]
        simp only [List.length_cons, List.length_nil, Nat.zero_add] at hn1 hn2
        have hnb1 : m + t + (m + t) / 4 + 192 ≤ 281474976710656 := by omega
        have HE := Hid.mk' (And.intro hr1 (And.intro hr2 (And.intro hh0 (And.intro hl0 (And.intro hLB (And.intro hLM (And.intro hc0 (And.intro ho1 (And.intro ho2 (And.intro hbk (And.intro hln (And.intro hm1 hq))))))))))))
        clear hr1 hr2 hh0 hl0 hLB hLM hc0 ho1 ho2 hbk hln hq
        go_wp2_with (first | (at_builtin; refine at_text _ rfl _ _ 58 9 rfl b i0 Try.underlying58 Try.underlying9 hi hz0 hz1 hz2 (.slice bs m cs) m (byv S) rfl (by exact (HMB.out.new _).rs) ⟨#[122]⟩ rfl (by rw [hTs]; exact hnb1) (by simp; omega) ?_; intro v1 w1 hown1 hgrow1; rw [hTs] at hown1; rw [strc_byv, ← byv_append, hm1] at hown1; have HM1 := Hid.mk' ((HMB.out.new _).said hgrow1 hown1); obtain ⟨b1, k1, rfl⟩ := ownM_shape hown1; have px := part_blk hgrow1 (HMB.out.new _).rs wr.heap.size _ 60 rfl (by decide) (heap_alloc_new _ _); obtain ⟨d2, d3⟩ : w1.cell? ⟨wr.heap.size, 1, none⟩ = some (.int .i64 xb) ∧ w1.cell? ⟨wr.heap.size, 2, none⟩ = some (.int .i64 xm) := (by simp [World.cell?, px]); clear hown1 hgrow1 px) | (go_at_call_of 15 xb; refine (HP1.out _).mono ?_; rintro e w2 ⟨rfl, rfl⟩) | (go_at_call_of 15 xm; refine (HP2.out _).mono ?_; rintro e w2 ⟨rfl, rfl⟩) | (go_at_call_of 27 t; refine (HL1.out _).mono ?_; rintro e w2 ⟨rfl, hb2⟩; have HM2 := Hid.mk' (HM1.out.below hb2); clear hb2) | (go_at_call_of 27 r2; refine (HL2.out _).mono ?_; rintro e w3 ⟨rfl, hb3⟩; have HM3 := Hid.mk' (HM2.out.below hb3); obtain ⟨q0, q2, q3, _⟩ := HM3.out.cells; have hsz3 := HM3.out.siz; clear hb3) | (at_builtin; refine wpList_append_own _ rfl _ _ 29 rfl b 3 i1 _ 1 8 Try.underlying29 hi1 hy0 hy1 hy2 rfl (by decide) (.slice ab i ac) i (plv pts) rfl (by exact (HM3.out.new _).ra) ⟨_, 0, none⟩ 1 1 [.int .i64 (nb : Int)] rfl rfl (int_news _ _ _ (by simp)) (int_one _) (by unfold maxLen; omega) (by omega) (by simp; omega) ?_; intro v4 w4 hown4 hgrow4 _; obtain ⟨ab4, ac4, rfl⟩ := row_shape' hown4; have HM4 := Hid.mk' ((HM3.out.new _).places (pa' := pts ++ [(nb, ⟨#[122]⟩, bk, ln)]) hgrow4 (by rw [plv_append]; exact hown4)); obtain ⟨_, f4, f5⟩ := HM4.out; have f6 := HM4.out.1.cells.2.1; have hsz4 := HM4.out.1.siz; clear hown4 hgrow4) | (at_builtin; refine wpList_append_own _ rfl _ _ 28 rfl b 39 i2 _ 3 32 Try.underlying28 hi2 hx0 hx1 hx2 rfl (by decide) (.slice lb i lc) i (pqv pts) rfl (by exact (HM4.out.1.new _).rl) ⟨_, 0, none⟩ 1 1 [.string ⟨#[122]⟩, .int .i64 (bk : Int), .int .i64 (ln : Int)] rfl rfl (three_news _ _ _ _ _ (by simp)) (three_one _ _ _) (by unfold maxLen; omega) (by omega) (by exact (Nat.le_trans (Nat.le_add_right b 2) (HM4.out.1.new _).siz)) ?_; intro v5 w5 hown5 hgrow5 _; obtain ⟨lb5, lc5, rfl⟩ := row_shape' hown5; have HM5 := Hid.mk' ((HM4.out.1.new _).seqs (pl' := pts ++ [(nb, ⟨#[122]⟩, bk, ln)]) hgrow5 (by rw [pqv_append]; exact hown5)); obtain ⟨_, f7, f8⟩ := HM5.out; have g0 := HM5.out.1.cells.1; have g1 := fun o o' => ((HM5.out.1.new o).new o').cells.1; have g2 := fun o o' => ((HM5.out.1.new o).new o').frozen 0; have hsz5 := HM5.out.1.siz; clear hown5 hgrow5) | fail)
        have HM6 := Hid.mk' (((HM5.out.1.new (.cells #[.int .u8 (c0 : Int)] 5)).new (.cells #[.int .u8 (o1 : Int), .int .u8 (o2 : Int)] 5)).text (((((tb ++ nums [c0]) ++ LB) ++ ⟨#[122]⟩) ++ nums [o1, o2]) ++ LM))
        obtain ⟨TX, hTX⟩ : ∃ TX, ((((tb ++ nums [c0]) ++ LB) ++ ⟨#[122]⟩) ++ nums [o1, o2]) ++ LM = TX := ⟨_, rfl⟩
        obtain ⟨M, hM⟩ : ∃ M, S ++ Sums.bl ⟨#[122]⟩ = M := ⟨_, rfl⟩
        rw [hTX] at HM6 ⊢
        rw [ho1I]
        rw [hM] at HM6
        have HTX := Hid.mk' hTX
        have HMM := Hid.mk' hM
        obtain ⟨pt2, hpt2⟩ : ∃ pt2, pts ++ [(nb, ⟨#[122]⟩, bk, ln)] = pt2 := ⟨_, rfl⟩
        rw [hpt2] at HM6
        have HPT2 := Hid.mk' hpt2
        clear hTX hM hpt2 g0 g1 g2 f4 f5 f6 f7 f8 q0 q2 q3 d2 d3 c1 c2 c3 HM5 HM4 HM3 HM2 HM1 hcv1 hcv2
        go_loopw [8, 18] (fun sv kv wi => ∃ (k m2 : Nat), kv = .int .i64 (k : Int) ∧ k ≤ ln ∧ m2 = m1 + k ∧ Mb b w TX sv (.slice lb5 (i + 1) lc5) (.slice ab4 (i + 1) ac4) m2 (Lz.grow bk k M) (i + 1) pt2 (i + 1) pt2 wi) (fun _ kv _ => ln - (intOf kv).toNat)
        case atStart => exact ⟨0, m1, rfl, Nat.zero_le _, rfl, HM6.out⟩
        case round =>
          obtain ⟨k, m2, rfl, hk, hm2, hmb2⟩ := hrel
          rename World => wi
          by_cases hkl : k = ln
          · subst hkl
            have HMB2 := Hid.mk' hmb2
            have HM2E := Hid.mk' hm2
            clear hmb2 hm2
            go_wp2
            go_roundw
            case rel =>
              obtain ⟨e1, e2, e3, e4, e5, e6, e7, e8, e9, e10, e11, e12, e13⟩ := HE.out
              have hms := HM.out
              have hbko : bk = offOf S.length ⟨xl, xb, xm⟩ := by
                rw [hms]
                unfold offOf
                rw [← HLT.out, hTs, hm1, e13]
                simp only
                omega
              have hlno : k = lenOf ⟨xl, xb, xm⟩ := by
                unfold lenOf
                simp only
                omega
              obtain ⟨s1, s2, s3⟩ := made_step bef L i _ HX.out S tb ⟨#[122]⟩ pts bk k HS.out HTB.out HPT.out (by rw [hms]; exact HLT.out) hbko hlno
              have s4 := enc1_bytes tb ⟨#[122]⟩ t r2 bk k c0 o1 o2 LB LM hTs e11 (by rw [e3, e4]; exact e7) e8 e9 (by omega) e5 e6
              refine ⟨i + 1, Lz.sayP (Sums.bl bef) (mkP (Sums.bl bef) (L.take (i + 1))), .slice lb5 (i + 1) lc5, .slice ab4 (i + 1) ac4, TX, pt2, by simp, by omega, by omega, rfl, ?_, ?_, ?_⟩
              · rw [← HTX.out, s4, s2]
              · rw [← HPT2.out, ← s3, hnb]
              · have hl := HMB2.out
                have hlen := hl.rs.1
                rw [byv_len] at hlen
                rw [← s1, HMM.out, hlen]
                exact hl
            case measure =>
              simp [intOf]
              omega
          · have hkI : (k : Int) < (ln : Int) := by omega
            obtain ⟨g2, cap2, rfl, hcap⟩ := ownM_some hmb2.rs (by omega)
            obtain ⟨d, hd⟩ : ∃ d, d + bk = m2 := ⟨m2 - bk, by omega⟩
            have hdI : (m2 : Int) - (bk : Int) = (d : Int) := by omega
            have hdm : d < m2 := by omega
            obtain ⟨G, hG⟩ : ∃ G, Lz.grow bk k M = G := ⟨_, rfl⟩
            rw [hG] at hmb2
            have hGl : G.length = m2 := by rw [← byv_len]; exact hmb2.rs.1
            obtain ⟨c, hc⟩ : ∃ c, c = G.getD d 0 := ⟨_, rfl⟩
            have hcell : wi.cell? ⟨g2, d, none⟩ = some (.int .u8 (c : Int)) := by
              rw [hmb2.rs.cellAt g2 rfl d hdm]
              unfold byv
              rw [List.getElem?_map, List.getElem?_eq_getElem (by omega), hc, List.getD_eq_getElem?_getD, List.getElem?_eq_getElem (by omega)]
              rfl
            have hG1 : Lz.grow bk (k + 1) M = G ++ [c] := by
              rw [Lz.grow_add, hG, Lz.grow, Lz.grow, hGl, show m2 - bk = d by omega, ← hc]
            have HG1 := Hid.mk' hG1
            have HMB2 := Hid.mk' hmb2
            have hmb : m2 + 1 + (m2 + 1) / 4 + 192 ≤ 281474976710656 := by omega
            have HM2E := Hid.mk' hm2
            have HD := Hid.mk' hd
            have hsz2 := hmb2.siz
            clear hmb2 hGl hG1 hc hG hm2 hd
            go_wp2_with (first | (at_builtin; refine at_cells _ rfl _ _ 58 rfl b i0 Try.underlying58 hi hz0 hz1 hz2 (.slice (some ⟨g2, 0, none⟩) m2 cap2) m2 (byv G) rfl (by exact (HMB2.out.new _).rs) ⟨wi.heap.size, 0, none⟩ 1 1 [.int .u8 (c : Int)] rfl (by decide) rfl (one_news _ _ _) (one_cell _) hmb (by simp; omega) ?_; intro v3 w3 hown3 hgrow3; have HM7 := Hid.mk' ((HMB2.out.new _).said (S' := G ++ [c]) hgrow3 (by rw [byv_append]; exact hown3)); clear hown3 hgrow3) | fail)
            go_roundw
            case rel =>
              have hm2 := HM2E.out
              refine ⟨k + 1, m2 + 1, by simp, by omega, by omega, ?_⟩
              rw [HG1.out]
              exact HM7.out
            case measure =>
              simp [intOf]
              omega
      · have hzI : ((m : Int) + (t0 : Int) == 0) = false := by simp; omega
        have HLT : Hid (T0 = litOf m ⟨xl, xb, xm⟩) := by
          refine Hid.mk' ?_
          unfold litOf
          simp only [HT0.out, hT0s]
          rw [if_neg hz]
        obtain ⟨t, ht⟩ : ∃ t, t = t0 := ⟨_, rfl⟩
        subst ht
        have htp : 0 < m + t := by omega
        have hTs := hT0s
        have ht4 := hT04
        obtain ⟨m1, hm1⟩ : ∃ m1, m + t = m1 := ⟨_, rfl⟩
        have hm1I : (m : Int) + (t : Int) = (m1 : Int) := by omega
        obtain ⟨q, hq⟩ : ∃ q, min m1 65535 = q := ⟨_, rfl⟩
        have hqI : min (m1 : Int) 65535 = (q : Int) := by omega
        have hq0 : 0 < q := by omega
        have hq1 : q ≤ 65535 := by omega
        obtain ⟨r1, hr1⟩ : ∃ r1, pickN xb (q : Int) = r1 := ⟨_, rfl⟩
        obtain ⟨r2, hr2⟩ : ∃ r2, pickN xm 600 = r2 := ⟨_, rfl⟩
        have hr1l : r1 < q := by have := pickN_lt xb (q : Int) (by omega); omega
        have hr2l : r2 < 600 := by have := pickN_lt xm 600 (by omega); omega
        obtain ⟨bk, hbk⟩ : ∃ bk, 1 + r1 = bk := ⟨_, rfl⟩
        have hbkI : 1 + (r1 : Int) = (bk : Int) := by omega
        obtain ⟨ln, hln⟩ : ∃ ln, 4 + r2 = ln := ⟨_, rfl⟩
        have hlnI : 4 + (r2 : Int) = (ln : Int) := by omega
        have hlrI : (ln : Int) - 4 = (r2 : Int) := by omega
        have HP1 := Hid.mk' (fun W => pick_det xb (q : Int) W (by omega) (by omega) hg6.1 hg6.2)
        have HP2 := Hid.mk' (fun W => pick_det xm 600 W (by omega) (by omega) hg7.1 hg7.2)
        rw [hr1] at HP1
        rw [hr2] at HP2
        have HL1 := Hid.mk' (fun W => lengthed_any t W (by omega))
        have HL2 := Hid.mk' (fun W => lengthed_any r2 W (by omega))
        obtain ⟨h0, hh0⟩ : ∃ h0, min t 15 = h0 := ⟨_, rfl⟩
        obtain ⟨l0, hl0⟩ : ∃ l0, min r2 15 = l0 := ⟨_, rfl⟩
        obtain ⟨LB, hLB⟩ : ∃ LB, nums (Lz.lenb t) = LB := ⟨_, rfl⟩
        obtain ⟨LM, hLM⟩ : ∃ LM, nums (Lz.lenb r2) = LM := ⟨_, rfl⟩
        rw [hh0, hLB] at HL1
        rw [hl0, hLM] at HL2
        obtain ⟨lbs, hLBs⟩ : ∃ k, LB.size = k := ⟨_, rfl⟩
        obtain ⟨lms, hLMs⟩ : ∃ k, LM.size = k := ⟨_, rfl⟩
        have hlb4 : lbs ≤ 394 := by rw [← hLBs, ← hLB, nums_size, Lz.lenb_length]; exact beh_small t (by omega)
        have hlm4 : lms ≤ 394 := by rw [← hLMs, ← hLM, nums_size, Lz.lenb_length]; exact beh_small r2 (by omega)
        obtain ⟨c0, hc0⟩ : ∃ c0, 16 * h0 + l0 = c0 := ⟨_, rfl⟩
        have hc0I : 16 * (h0 : Int) + (l0 : Int) = (c0 : Int) := by omega
        have hc0l : c0 < 256 := by omega
        have hc0u : IntKind.u8.wrap (c0 : Int) = (c0 : Int) := by rw [IntKind.wrap_u8]; omega
        obtain ⟨o1, ho1⟩ : ∃ o1, bk % 256 = o1 := ⟨_, rfl⟩
        obtain ⟨o2, ho2⟩ : ∃ o2, bk / 256 = o2 := ⟨_, rfl⟩
        have ho1I : (bk : Int) % 256 = (o1 : Int) := by omega
        have ho2I : (bk : Int) / 256 = (o2 : Int) := by omega
        have ho1u : IntKind.u8.wrap (o1 : Int) = (o1 : Int) := by rw [IntKind.wrap_u8]; omega
        have ho2u : IntKind.u8.wrap (o2 : Int) = (o2 : Int) := by rw [IntKind.wrap_u8]; omega
        have hcv1 : ∀ (W : World) (a : Addr) (u : Value), (convert 58 9 (.slice (some ⟨W.heap.size, 0, none⟩) 1 1)).run Try.prog ((W.setCell a u).alloc (.cells #[.int .u8 (c0 : Int)] 5)) = .ok (.string (nums [c0])) ((W.setCell a u).alloc (.cells #[.int .u8 (c0 : Int)] 5)) := fun W a u => conv_one (by have := heap_alloc_new (W.setCell a u) (.cells #[.int .u8 (c0 : Int)] 5); rw [show (W.setCell a u).heap.size = W.heap.size by simp [World.setCell]] at this; exact this)
        have hcv2 : ∀ (W : World) (a : Addr) (u : Value) (o : Obj), (convert 58 9 (.slice (some ⟨W.heap.size + 1, 0, none⟩) 2 2)).run Try.prog (((W.setCell a u).alloc o).alloc (.cells #[.int .u8 (o1 : Int), .int .u8 (o2 : Int)] 5)) = .ok (.string (nums [o1, o2])) (((W.setCell a u).alloc o).alloc (.cells #[.int .u8 (o1 : Int), .int .u8 (o2 : Int)] 5)) := fun W a u o => conv_two (by have := heap_alloc_new ((W.setCell a u).alloc o) (.cells #[.int .u8 (o1 : Int), .int .u8 (o2 : Int)] 5); rw [show ((W.setCell a u).alloc o).heap.size = W.heap.size + 1 by simp [World.setCell]] at this; exact this)
        have hn1 := nums_size [c0]
        have hn2 := nums_size [o1, o2]
        simp only [List.length_cons, List.length_nil, Nat.zero_add] at hn1 hn2
        have hnb1 : m + t + (m + t) / 4 + 192 ≤ 281474976710656 := by omega
        have HE := Hid.mk' (And.intro hr1 (And.intro hr2 (And.intro hh0 (And.intro hl0 (And.intro hLB (And.intro hLM (And.intro hc0 (And.intro ho1 (And.intro ho2 (And.intro hbk (And.intro hln (And.intro hm1 hq))))))))))))
        clear hr1 hr2 hh0 hl0 hLB hLM hc0 ho1 ho2 hbk hln hq
        go_wp2_with (first | (at_builtin; refine at_text _ rfl _ _ 58 9 rfl b i0 Try.underlying58 Try.underlying9 hi hz0 hz1 hz2 (.slice bs m cs) m (byv S) rfl (by exact (HMB.out.new _).rs) T0 rfl (by rw [hTs]; exact hnb1) (by simp; omega) ?_; intro v1 w1 hown1 hgrow1; rw [hTs] at hown1; rw [strc_byv, ← byv_append, hm1] at hown1; have HM1 := Hid.mk' ((HMB.out.new _).said hgrow1 hown1); obtain ⟨b1, k1, rfl⟩ := ownM_shape hown1; have px := part_blk hgrow1 (HMB.out.new _).rs wr.heap.size _ 60 rfl (by decide) (heap_alloc_new _ _); obtain ⟨d2, d3⟩ : w1.cell? ⟨wr.heap.size, 1, none⟩ = some (.int .i64 xb) ∧ w1.cell? ⟨wr.heap.size, 2, none⟩ = some (.int .i64 xm) := (by simp [World.cell?, px]); clear hown1 hgrow1 px) | (go_at_call_of 15 xb; refine (HP1.out _).mono ?_; rintro e w2 ⟨rfl, rfl⟩) | (go_at_call_of 15 xm; refine (HP2.out _).mono ?_; rintro e w2 ⟨rfl, rfl⟩) | (go_at_call_of 27 t; refine (HL1.out _).mono ?_; rintro e w2 ⟨rfl, hb2⟩; have HM2 := Hid.mk' (HM1.out.below hb2); clear hb2) | (go_at_call_of 27 r2; refine (HL2.out _).mono ?_; rintro e w3 ⟨rfl, hb3⟩; have HM3 := Hid.mk' (HM2.out.below hb3); obtain ⟨q0, q2, q3, _⟩ := HM3.out.cells; have hsz3 := HM3.out.siz; clear hb3) | (at_builtin; refine wpList_append_own _ rfl _ _ 29 rfl b 3 i1 _ 1 8 Try.underlying29 hi1 hy0 hy1 hy2 rfl (by decide) (.slice ab i ac) i (plv pts) rfl (by exact (HM3.out.new _).ra) ⟨_, 0, none⟩ 1 1 [.int .i64 (nb : Int)] rfl rfl (int_news _ _ _ (by simp)) (int_one _) (by unfold maxLen; omega) (by omega) (by simp; omega) ?_; intro v4 w4 hown4 hgrow4 _; obtain ⟨ab4, ac4, rfl⟩ := row_shape' hown4; have HM4 := Hid.mk' ((HM3.out.new _).places (pa' := pts ++ [(nb, T0, bk, ln)]) hgrow4 (by rw [plv_append]; exact hown4)); obtain ⟨_, f4, f5⟩ := HM4.out; have f6 := HM4.out.1.cells.2.1; have hsz4 := HM4.out.1.siz; clear hown4 hgrow4) | (at_builtin; refine wpList_append_own _ rfl _ _ 28 rfl b 39 i2 _ 3 32 Try.underlying28 hi2 hx0 hx1 hx2 rfl (by decide) (.slice lb i lc) i (pqv pts) rfl (by exact (HM4.out.1.new _).rl) ⟨_, 0, none⟩ 1 1 [.string T0, .int .i64 (bk : Int), .int .i64 (ln : Int)] rfl rfl (three_news _ _ _ _ _ (by simp)) (three_one _ _ _) (by unfold maxLen; omega) (by omega) (by exact (Nat.le_trans (Nat.le_add_right b 2) (HM4.out.1.new _).siz)) ?_; intro v5 w5 hown5 hgrow5 _; obtain ⟨lb5, lc5, rfl⟩ := row_shape' hown5; have HM5 := Hid.mk' ((HM4.out.1.new _).seqs (pl' := pts ++ [(nb, T0, bk, ln)]) hgrow5 (by rw [pqv_append]; exact hown5)); obtain ⟨_, f7, f8⟩ := HM5.out; have g0 := HM5.out.1.cells.1; have g1 := fun o o' => ((HM5.out.1.new o).new o').cells.1; have g2 := fun o o' => ((HM5.out.1.new o).new o').frozen 0; have hsz5 := HM5.out.1.siz; clear hown5 hgrow5) | fail)
        have HM6 := Hid.mk' (((HM5.out.1.new (.cells #[.int .u8 (c0 : Int)] 5)).new (.cells #[.int .u8 (o1 : Int), .int .u8 (o2 : Int)] 5)).text (((((tb ++ nums [c0]) ++ LB) ++ T0) ++ nums [o1, o2]) ++ LM))
        obtain ⟨TX, hTX⟩ : ∃ TX, ((((tb ++ nums [c0]) ++ LB) ++ T0) ++ nums [o1, o2]) ++ LM = TX := ⟨_, rfl⟩
        obtain ⟨M, hM⟩ : ∃ M, S ++ Sums.bl T0 = M := ⟨_, rfl⟩
        rw [hTX] at HM6 ⊢
        rw [ho1I]
        rw [hM] at HM6
        have HTX := Hid.mk' hTX
        have HMM := Hid.mk' hM
        obtain ⟨pt2, hpt2⟩ : ∃ pt2, pts ++ [(nb, T0, bk, ln)] = pt2 := ⟨_, rfl⟩
        rw [hpt2] at HM6
        have HPT2 := Hid.mk' hpt2
        clear hTX hM hpt2 g0 g1 g2 f4 f5 f6 f7 f8 q0 q2 q3 d2 d3 c1 c2 c3 HM5 HM4 HM3 HM2 HM1 hcv1 hcv2
        go_loopw [8, 18] (fun sv kv wi => ∃ (k m2 : Nat), kv = .int .i64 (k : Int) ∧ k ≤ ln ∧ m2 = m1 + k ∧ Mb b w TX sv (.slice lb5 (i + 1) lc5) (.slice ab4 (i + 1) ac4) m2 (Lz.grow bk k M) (i + 1) pt2 (i + 1) pt2 wi) (fun _ kv _ => ln - (intOf kv).toNat)
        case atStart => exact ⟨0, m1, rfl, Nat.zero_le _, rfl, HM6.out⟩
        case round =>
          obtain ⟨k, m2, rfl, hk, hm2, hmb2⟩ := hrel
          rename World => wi
          by_cases hkl : k = ln
          · subst hkl
            have HMB2 := Hid.mk' hmb2
            have HM2E := Hid.mk' hm2
            clear hmb2 hm2
            go_wp2
            go_roundw
            case rel =>
              obtain ⟨e1, e2, e3, e4, e5, e6, e7, e8, e9, e10, e11, e12, e13⟩ := HE.out
              have hms := HM.out
              have hbko : bk = offOf S.length ⟨xl, xb, xm⟩ := by
                rw [hms]
                unfold offOf
                rw [← HLT.out, hTs, hm1, e13]
                simp only
                omega
              have hlno : k = lenOf ⟨xl, xb, xm⟩ := by
                unfold lenOf
                simp only
                omega
              obtain ⟨s1, s2, s3⟩ := made_step bef L i _ HX.out S tb T0 pts bk k HS.out HTB.out HPT.out (by rw [hms]; exact HLT.out) hbko hlno
              have s4 := enc1_bytes tb T0 t r2 bk k c0 o1 o2 LB LM hTs e11 (by rw [e3, e4]; exact e7) e8 e9 (by omega) e5 e6
              refine ⟨i + 1, Lz.sayP (Sums.bl bef) (mkP (Sums.bl bef) (L.take (i + 1))), .slice lb5 (i + 1) lc5, .slice ab4 (i + 1) ac4, TX, pt2, by simp, by omega, by omega, rfl, ?_, ?_, ?_⟩
              · rw [← HTX.out, s4, s2]
              · rw [← HPT2.out, ← s3, hnb]
              · have hl := HMB2.out
                have hlen := hl.rs.1
                rw [byv_len] at hlen
                rw [← s1, HMM.out, hlen]
                exact hl
            case measure =>
              simp [intOf]
              omega
          · have hkI : (k : Int) < (ln : Int) := by omega
            obtain ⟨g2, cap2, rfl, hcap⟩ := ownM_some hmb2.rs (by omega)
            obtain ⟨d, hd⟩ : ∃ d, d + bk = m2 := ⟨m2 - bk, by omega⟩
            have hdI : (m2 : Int) - (bk : Int) = (d : Int) := by omega
            have hdm : d < m2 := by omega
            obtain ⟨G, hG⟩ : ∃ G, Lz.grow bk k M = G := ⟨_, rfl⟩
            rw [hG] at hmb2
            have hGl : G.length = m2 := by rw [← byv_len]; exact hmb2.rs.1
            obtain ⟨c, hc⟩ : ∃ c, c = G.getD d 0 := ⟨_, rfl⟩
            have hcell : wi.cell? ⟨g2, d, none⟩ = some (.int .u8 (c : Int)) := by
              rw [hmb2.rs.cellAt g2 rfl d hdm]
              unfold byv
              rw [List.getElem?_map, List.getElem?_eq_getElem (by omega), hc, List.getD_eq_getElem?_getD, List.getElem?_eq_getElem (by omega)]
              rfl
            have hG1 : Lz.grow bk (k + 1) M = G ++ [c] := by
              rw [Lz.grow_add, hG, Lz.grow, Lz.grow, hGl, show m2 - bk = d by omega, ← hc]
            have HG1 := Hid.mk' hG1
            have HMB2 := Hid.mk' hmb2
            have hmb : m2 + 1 + (m2 + 1) / 4 + 192 ≤ 281474976710656 := by omega
            have HM2E := Hid.mk' hm2
            have HD := Hid.mk' hd
            have hsz2 := hmb2.siz
            clear hmb2 hGl hG1 hc hG hm2 hd
            go_wp2_with (first | (at_builtin; refine at_cells _ rfl _ _ 58 rfl b i0 Try.underlying58 hi hz0 hz1 hz2 (.slice (some ⟨g2, 0, none⟩) m2 cap2) m2 (byv G) rfl (by exact (HMB2.out.new _).rs) ⟨wi.heap.size, 0, none⟩ 1 1 [.int .u8 (c : Int)] rfl (by decide) rfl (one_news _ _ _) (one_cell _) hmb (by simp; omega) ?_; intro v3 w3 hown3 hgrow3; have HM7 := Hid.mk' ((HMB2.out.new _).said (S' := G ++ [c]) hgrow3 (by rw [byv_append]; exact hown3)); clear hown3 hgrow3) | fail)
            go_roundw
            case rel =>
              have hm2 := HM2E.out
              refine ⟨k + 1, m2 + 1, by simp, by omega, by omega, ?_⟩
              rw [HG1.out]
              exact HM7.out
            case measure =>
              simp [intOf]
              omega
    · have htk : L.take 60 = L.take i := by
        by_cases hq : i < n
        · rw [show i = 60 by omega]
        · rw [List.take_of_length_le (by omega), List.take_of_length_le (by omega)]
      have HTK := Hid.mk' htk
      clear htk
      by_cases hq : i < n
      · have hqI : (i : Int) < (n : Int) := by omega
        have hqJ : ¬ (i : Int) < 60 := by omega
        obtain ⟨E, hE⟩ : ∃ E, endOf en = E := ⟨_, rfl⟩
        have hEi : en.extract 0 (min (en.size : Int) 100000).toNat = E := by
          rw [show (min (en.size : Int) 100000).toNat = min en.size 100000 by omega]
          exact hE
        obtain ⟨et, hEs⟩ : ∃ et, E.size = et := ⟨_, rfl⟩
        have hE1 : et ≤ 100000 := by
          rw [← hEs, ← hE, endOf, ByteArray.size_extract]
          omega
        have HL1 := Hid.mk' (fun W => lengthed_any et W (by omega))
        obtain ⟨h0, hh0⟩ : ∃ h0, min et 15 = h0 := ⟨_, rfl⟩
        obtain ⟨LB, hLB⟩ : ∃ LB, nums (Lz.lenb et) = LB := ⟨_, rfl⟩
        rw [hh0, hLB] at HL1
        obtain ⟨lbs, hLBs⟩ : ∃ k, LB.size = k := ⟨_, rfl⟩
        have hlb4 : lbs ≤ 394 := by rw [← hLBs, ← hLB, nums_size, Lz.lenb_length]; exact beh_small et (by omega)
        obtain ⟨c0, hc0⟩ : ∃ c0, 16 * h0 = c0 := ⟨_, rfl⟩
        have hc0I : 16 * (h0 : Int) = (c0 : Int) := by omega
        have hc0l : c0 < 256 := by omega
        have hc0u : IntKind.u8.wrap (c0 : Int) = (c0 : Int) := by rw [IntKind.wrap_u8]; omega
        have hcv1 : ∀ (W : World) (a : Addr) (u : Value), (convert 58 9 (.slice (some ⟨W.heap.size, 0, none⟩) 1 1)).run Try.prog ((W.setCell a u).alloc (.cells #[.int .u8 (c0 : Int)] 5)) = .ok (.string (nums [c0])) ((W.setCell a u).alloc (.cells #[.int .u8 (c0 : Int)] 5)) := fun W a u => conv_one (by have := heap_alloc_new (W.setCell a u) (.cells #[.int .u8 (c0 : Int)] 5); rw [show (W.setCell a u).heap.size = W.heap.size by simp [World.setCell]] at this; exact this)
        have hn1 := nums_size [c0]
        simp only [List.length_cons, List.length_nil, Nat.zero_add] at hn1
        obtain ⟨SD, hSD⟩ : ∃ SD, nums (S.drop bef.size) = SD := ⟨_, rfl⟩
        have hmS : bef.size ≤ m := by
          rw [← HM.out, HS.out, sayP_len, Sums.bl_length]
          omega
        obtain ⟨sds, hSDs⟩ : ∃ k, SD.size = k := ⟨_, rfl⟩
        have hsd : sds ≤ 140737488355328 + 4603 * 60 := by
          rw [← hSDs, ← hSD, nums_size, List.length_drop, HM.out]
          omega
        have HE := Hid.mk' (And.intro hE (And.intro hh0 (And.intro hLB (And.intro hc0 hSD))))
        have HSD := Hid.mk' hSD
        clear hE hh0 hLB hc0 hSD
        go_wp2_with (first | (go_at_call_of 27 et; refine (HL1.out _).mono ?_; rintro e w3 ⟨rfl, hb3⟩; have HM3 := Hid.mk' (HMB.out.below hb3); obtain ⟨q0, q2, q3, _⟩ := HM3.out.cells; have hsz3 := HM3.out.siz; clear hb3) | (at_builtin; refine wpList_append_own _ rfl _ _ 29 rfl b 3 i1 _ 1 8 Try.underlying29 hi1 hy0 hy1 hy2 rfl (by decide) (.slice ab i ac) i (plv pts) rfl (by exact (HM3.out.new _).ra) ⟨_, 0, none⟩ 1 1 [.int .i64 (nb : Int)] rfl rfl (int_news _ _ _ (by simp)) (int_one _) (by unfold maxLen; omega) (by omega) (by simp; omega) ?_; intro v4 w4 hown4 hgrow4 _; obtain ⟨ab4, ac4, rfl⟩ := row_shape' hown4; have HM4 := Hid.mk' ((HM3.out.new _).places (pa' := pts ++ [(nb, E, 0, 0)]) hgrow4 (by rw [plv_append]; exact hown4)); obtain ⟨_, f4, f5⟩ := HM4.out; have f6 := HM4.out.1.cells.2.1; have hsz4 := HM4.out.1.siz; clear hown4 hgrow4) | (at_builtin; refine wpList_append_own _ rfl _ _ 28 rfl b 39 i2 _ 3 32 Try.underlying28 hi2 hx0 hx1 hx2 rfl (by decide) (.slice lb i lc) i (pqv pts) rfl (by exact (HM4.out.1.new _).rl) ⟨_, 0, none⟩ 1 1 [.string E, .int .i64 0, .int .i64 0] rfl rfl (three_news _ _ _ _ _ (by simp)) (three_one _ _ _) (by unfold maxLen; omega) (by omega) (by exact (Nat.le_trans (Nat.le_add_right b 2) (HM4.out.1.new _).siz)) ?_; intro v5 w5 hown5 hgrow5 _; obtain ⟨lb5, lc5, rfl⟩ := row_shape' hown5; have HM5 := Hid.mk' ((HM4.out.1.new _).seqs (pl' := pts ++ [(nb, E, 0, 0)]) hgrow5 (by rw [pqv_append]; exact hown5)); obtain ⟨_, f7, f8⟩ := HM5.out; have g0 := HM5.out.1.cells.1; have g1 := fun o => (HM5.out.1.new o).cells.1; have g2 := fun o => (HM5.out.1.new o).frozen 0; have hsz5 := HM5.out.1.siz; have HM6 := Hid.mk' ((HM5.out.1.new (.cells #[.int .u8 (c0 : Int)] 5)).text (((tb ++ nums [c0]) ++ LB) ++ E)); obtain ⟨vs, hv1, hv2⟩ := rest_text b m bef.size _ S _ hmS HM.out HM6.out.rs; rw [HSD.out] at hv2; have j1 := HM6.out.cells.2.2.2; have j2 := HM6.out.frozen 1; have j3 := fun u => cell_of (box_set HM6.out 1 u) 2 _ rfl; have j4 := fun u => cell_of (box_set HM6.out 1 u) 3 _ rfl; have j5 := fun u => cell_of (HM6.out.turned 1 u).1 0 _ rfl; have j6 := fun u => cell_of (HM6.out.turned 1 u).1 1 _ rfl; have j7 := fun u => cell_of (HM6.out.turned 1 u).1 2 _ rfl; have j8 := fun u => cell_of (HM6.out.turned 1 u).1 3 _ rfl; have j9 := fun u o => froz_of (HM6.out.turned 1 u).1 o; clear hown5 hgrow5) | fail)
        have hT6 := HM6.out.turned 1 (.string (SD ++ E))
        generalize hW7 : World.setCell _ ⟨b + 1, 1, none⟩ (.string (SD ++ E)) = W7 at hT6 ⊢
        obtain ⟨k1, k2, k3, k4, k5, k6⟩ := hT6
        have hfb := fin_box k1 (.string (tb ++ nums [c0] ++ LB ++ E)) (.string (SD ++ E)) (.slice lb5 (i + 1) lc5) (.slice ab4 (i + 1) ac4)
        have r0 := cell_of hfb 0 _ rfl
        have r1 := cell_of hfb 1 _ rfl
        have r2 := cell_of hfb 2 _ rfl
        have r3 := cell_of hfb 3 _ rfl
        obtain ⟨e1, e2, e3, e4, e5⟩ := HE.out
        have hpl : (mkP (Sums.bl bef) (L.take i)).length = i := by rw [mkP_length, List.length_take]; omega
        refine bodyPost_ret (v := .agg #[.string (tb ++ nums [c0] ++ LB ++ E), .string (SD ++ E), .slice lb5 (i + 1) lc5, .slice ab4 (i + 1) ac4]) (by simp [results, Try.results12, go_sem, r0, r1, r2, r3]) rfl ⟨.slice lb5 (i + 1) lc5, .slice ab4 (i + 1) ac4, mkP (Sums.bl bef) (L.take i), by rw [HTK.out], ?_, ?_, ?_, ?_⟩
        · rw [e1, lits_bytes tb E et c0 h0 LB _ (enc_byt _ _) HTB.out hEs e2 e4 e3, ← e5, HS.out]
        · have := fin_row k1 k3 (by decide) (.string (tb ++ nums [c0] ++ LB ++ E)) (.string (SD ++ E)) (.slice lb5 (i + 1) lc5) (.slice ab4 (i + 1) ac4)
          rw [hpl, hb, lastPt, e1, ← HPT.out, ← nums_size (Lz.enc _), ← HTB.out, hnb]
          exact this
        · have := fin_row k1 k4 (by decide) (.string (tb ++ nums [c0] ++ LB ++ E)) (.string (SD ++ E)) (.slice lb5 (i + 1) lc5) (.slice ab4 (i + 1) ac4)
          rw [hpl, hb, lastPt, e1, ← HPT.out, ← nums_size (Lz.enc _), ← HTB.out, hnb]
          exact this
        · rw [hb]
          exact (((k5.setCell (p := ⟨b, 0, none⟩) (Nat.le_refl _) _).setCell (p := ⟨b, 1, none⟩) (Nat.le_refl _) _).setCell (p := ⟨b, 2, none⟩) (Nat.le_refl _) _).setCell (p := ⟨b, 3, none⟩) (Nat.le_refl _) _
      · have hqI : ¬ (i : Int) < (n : Int) := by omega
        obtain ⟨E, hE⟩ : ∃ E, endOf en = E := ⟨_, rfl⟩
        have hEi : en.extract 0 (min (en.size : Int) 100000).toNat = E := by
          rw [show (min (en.size : Int) 100000).toNat = min en.size 100000 by omega]
          exact hE
        obtain ⟨et, hEs⟩ : ∃ et, E.size = et := ⟨_, rfl⟩
        have hE1 : et ≤ 100000 := by
          rw [← hEs, ← hE, endOf, ByteArray.size_extract]
          omega
        have HL1 := Hid.mk' (fun W => lengthed_any et W (by omega))
        obtain ⟨h0, hh0⟩ : ∃ h0, min et 15 = h0 := ⟨_, rfl⟩
        obtain ⟨LB, hLB⟩ : ∃ LB, nums (Lz.lenb et) = LB := ⟨_, rfl⟩
        rw [hh0, hLB] at HL1
        obtain ⟨lbs, hLBs⟩ : ∃ k, LB.size = k := ⟨_, rfl⟩
        have hlb4 : lbs ≤ 394 := by rw [← hLBs, ← hLB, nums_size, Lz.lenb_length]; exact beh_small et (by omega)
        obtain ⟨c0, hc0⟩ : ∃ c0, 16 * h0 = c0 := ⟨_, rfl⟩
        have hc0I : 16 * (h0 : Int) = (c0 : Int) := by omega
        have hc0l : c0 < 256 := by omega
        have hc0u : IntKind.u8.wrap (c0 : Int) = (c0 : Int) := by rw [IntKind.wrap_u8]; omega
        have hcv1 : ∀ (W : World) (a : Addr) (u : Value), (convert 58 9 (.slice (some ⟨W.heap.size, 0, none⟩) 1 1)).run Try.prog ((W.setCell a u).alloc (.cells #[.int .u8 (c0 : Int)] 5)) = .ok (.string (nums [c0])) ((W.setCell a u).alloc (.cells #[.int .u8 (c0 : Int)] 5)) := fun W a u => conv_one (by have := heap_alloc_new (W.setCell a u) (.cells #[.int .u8 (c0 : Int)] 5); rw [show (W.setCell a u).heap.size = W.heap.size by simp [World.setCell]] at this; exact this)
        have hn1 := nums_size [c0]
        simp only [List.length_cons, List.length_nil, Nat.zero_add] at hn1
        obtain ⟨SD, hSD⟩ : ∃ SD, nums (S.drop bef.size) = SD := ⟨_, rfl⟩
        have hmS : bef.size ≤ m := by
          rw [← HM.out, HS.out, sayP_len, Sums.bl_length]
          omega
        obtain ⟨sds, hSDs⟩ : ∃ k, SD.size = k := ⟨_, rfl⟩
        have hsd : sds ≤ 140737488355328 + 4603 * 60 := by
          rw [← hSDs, ← hSD, nums_size, List.length_drop, HM.out]
          omega
        have HE := Hid.mk' (And.intro hE (And.intro hh0 (And.intro hLB (And.intro hc0 hSD))))
        have HSD := Hid.mk' hSD
        clear hE hh0 hLB hc0 hSD
        go_wp2_with (first | (go_at_call_of 27 et; refine (HL1.out _).mono ?_; rintro e w3 ⟨rfl, hb3⟩; have HM3 := Hid.mk' (HMB.out.below hb3); obtain ⟨q0, q2, q3, _⟩ := HM3.out.cells; have hsz3 := HM3.out.siz; clear hb3) | (at_builtin; refine wpList_append_own _ rfl _ _ 29 rfl b 3 i1 _ 1 8 Try.underlying29 hi1 hy0 hy1 hy2 rfl (by decide) (.slice ab i ac) i (plv pts) rfl (by exact (HM3.out.new _).ra) ⟨_, 0, none⟩ 1 1 [.int .i64 (nb : Int)] rfl rfl (int_news _ _ _ (by simp)) (int_one _) (by unfold maxLen; omega) (by omega) (by simp; omega) ?_; intro v4 w4 hown4 hgrow4 _; obtain ⟨ab4, ac4, rfl⟩ := row_shape' hown4; have HM4 := Hid.mk' ((HM3.out.new _).places (pa' := pts ++ [(nb, E, 0, 0)]) hgrow4 (by rw [plv_append]; exact hown4)); obtain ⟨_, f4, f5⟩ := HM4.out; have f6 := HM4.out.1.cells.2.1; have hsz4 := HM4.out.1.siz; clear hown4 hgrow4) | (at_builtin; refine wpList_append_own _ rfl _ _ 28 rfl b 39 i2 _ 3 32 Try.underlying28 hi2 hx0 hx1 hx2 rfl (by decide) (.slice lb i lc) i (pqv pts) rfl (by exact (HM4.out.1.new _).rl) ⟨_, 0, none⟩ 1 1 [.string E, .int .i64 0, .int .i64 0] rfl rfl (three_news _ _ _ _ _ (by simp)) (three_one _ _ _) (by unfold maxLen; omega) (by omega) (by exact (Nat.le_trans (Nat.le_add_right b 2) (HM4.out.1.new _).siz)) ?_; intro v5 w5 hown5 hgrow5 _; obtain ⟨lb5, lc5, rfl⟩ := row_shape' hown5; have HM5 := Hid.mk' ((HM4.out.1.new _).seqs (pl' := pts ++ [(nb, E, 0, 0)]) hgrow5 (by rw [pqv_append]; exact hown5)); obtain ⟨_, f7, f8⟩ := HM5.out; have g0 := HM5.out.1.cells.1; have g1 := fun o => (HM5.out.1.new o).cells.1; have g2 := fun o => (HM5.out.1.new o).frozen 0; have hsz5 := HM5.out.1.siz; have HM6 := Hid.mk' ((HM5.out.1.new (.cells #[.int .u8 (c0 : Int)] 5)).text (((tb ++ nums [c0]) ++ LB) ++ E)); obtain ⟨vs, hv1, hv2⟩ := rest_text b m bef.size _ S _ hmS HM.out HM6.out.rs; rw [HSD.out] at hv2; have j1 := HM6.out.cells.2.2.2; have j2 := HM6.out.frozen 1; have j3 := fun u => cell_of (box_set HM6.out 1 u) 2 _ rfl; have j4 := fun u => cell_of (box_set HM6.out 1 u) 3 _ rfl; have j5 := fun u => cell_of (HM6.out.turned 1 u).1 0 _ rfl; have j6 := fun u => cell_of (HM6.out.turned 1 u).1 1 _ rfl; have j7 := fun u => cell_of (HM6.out.turned 1 u).1 2 _ rfl; have j8 := fun u => cell_of (HM6.out.turned 1 u).1 3 _ rfl; have j9 := fun u o => froz_of (HM6.out.turned 1 u).1 o; clear hown5 hgrow5) | fail)
        have hT6 := HM6.out.turned 1 (.string (SD ++ E))
        generalize hW7 : World.setCell _ ⟨b + 1, 1, none⟩ (.string (SD ++ E)) = W7 at hT6 ⊢
        obtain ⟨k1, k2, k3, k4, k5, k6⟩ := hT6
        have hfb := fin_box k1 (.string (tb ++ nums [c0] ++ LB ++ E)) (.string (SD ++ E)) (.slice lb5 (i + 1) lc5) (.slice ab4 (i + 1) ac4)
        have r0 := cell_of hfb 0 _ rfl
        have r1 := cell_of hfb 1 _ rfl
        have r2 := cell_of hfb 2 _ rfl
        have r3 := cell_of hfb 3 _ rfl
        obtain ⟨e1, e2, e3, e4, e5⟩ := HE.out
        have hpl : (mkP (Sums.bl bef) (L.take i)).length = i := by rw [mkP_length, List.length_take]; omega
        refine bodyPost_ret (v := .agg #[.string (tb ++ nums [c0] ++ LB ++ E), .string (SD ++ E), .slice lb5 (i + 1) lc5, .slice ab4 (i + 1) ac4]) (by simp [results, Try.results12, go_sem, r0, r1, r2, r3]) rfl ⟨.slice lb5 (i + 1) lc5, .slice ab4 (i + 1) ac4, mkP (Sums.bl bef) (L.take i), by rw [HTK.out], ?_, ?_, ?_, ?_⟩
        · rw [e1, lits_bytes tb E et c0 h0 LB _ (enc_byt _ _) HTB.out hEs e2 e4 e3, ← e5, HS.out]
        · have := fin_row k1 k3 (by decide) (.string (tb ++ nums [c0] ++ LB ++ E)) (.string (SD ++ E)) (.slice lb5 (i + 1) lc5) (.slice ab4 (i + 1) ac4)
          rw [hpl, hb, lastPt, e1, ← HPT.out, ← nums_size (Lz.enc _), ← HTB.out, hnb]
          exact this
        · have := fin_row k1 k4 (by decide) (.string (tb ++ nums [c0] ++ LB ++ E)) (.string (SD ++ E)) (.slice lb5 (i + 1) lc5) (.slice ab4 (i + 1) ac4)
          rw [hpl, hb, lastPt, e1, ← HPT.out, ← nums_size (Lz.enc _), ← HTB.out, hnb]
          exact this
        · rw [hb]
          exact (((k5.setCell (p := ⟨b, 0, none⟩) (Nat.le_refl _) _).setCell (p := ⟨b, 1, none⟩) (Nat.le_refl _) _).setCell (p := ⟨b, 2, none⟩) (Nat.le_refl _) _).setCell (p := ⟨b, 3, none⟩) (Nat.le_refl _) _
end Go.Proofs.Ytchjmhgalbkjkaa

