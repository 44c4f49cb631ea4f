/-
  lz4.longest: the best of so many candidates. Conditions: as it says.
-/
import Derived.Test.YtchjmhgalbkjkaaNrs
import Derived.Laws.ResultCell
namespace Go.Proofs.Ytchjmhgalbkjkaa
open Go.RowKit
set_option linter.unusedVariables false
def mtV (a off cnt : Nat) : Value := .agg #[.int .i64 (a : Int), .int .i64 (off : Int), .int .i64 (cnt : Int)]
def atOf (p cnt : Nat) : Nat := if cnt = 0 then 0 else p
theorem near_cell {w : World} {g m q : Nat} {bs : List Nat} (h : w.heap[g]? = some (.cells (nearV bs m m).toArray 3 (0, 0))) (hq : q < m) : w.cell? ⟨g, q, none⟩ = some (.int .i64 (Lz.nearOf bs q)) := by
  simp [World.cell?, h, nearV, hq]
structure Lg (bs : List Nat) (m p g : Nat) (R : Nat × Nat) (w0 : World) (t : Nat) (c : Int) (off cnt : Nat) (w : World) : Prop where
  eq : Lz.longF bs p t c (off, cnt) = R
  c1 : -1 ≤ c
  c2 : c < (p : Int)
  res : w.heap[w0.heap.size]? = some (.cells #[.int .i64 0, .int .i64 0, .int .i64 0] 72 (0, 0))
  best : w.heap[w0.heap.size + 1]? = some (.cells #[.int .i64 (atOf p cnt : Nat), .int .i64 (off : Int), .int .i64 (cnt : Int)] 72 (0, 0))
  near : w.heap[g]? = some (.cells (nearV bs m m).toArray 3 (0, 0))
  bel : Below w0.heap.size w0 w
  cb : cnt ≤ 4294967296
theorem cell3 {w : World} {b : Nat} {f0 f1 f2 : Value} {t : TypeId} (h : w.heap[b]? = some (.cells #[f0, f1, f2] t (0, 0))) : w.cell? ⟨b, 0, none⟩ = some f0 ∧ w.cell? ⟨b, 1, none⟩ = some f1 ∧ w.cell? ⟨b, 2, none⟩ = some f2 ∧ w.frozen? ⟨b, 0, none⟩ = false ∧ w.frozen? ⟨b, 1, none⟩ = false ∧ w.frozen? ⟨b, 2, none⟩ = false := by
  simp [World.cell?, World.frozen?, h]
def set3 (w : World) (b : Nat) (x y z : Value) : World := ((w.setCell ⟨b, 0, none⟩ x).setCell ⟨b, 1, none⟩ y).setCell ⟨b, 2, none⟩ z
theorem set3_same {w : World} {b : Nat} {f0 f1 f2 x y z : Value} {t : TypeId} (h : w.heap[b]? = some (.cells #[f0, f1, f2] t (0, 0))) : (set3 w b x y z).heap[b]? = some (.cells #[x, y, z] t (0, 0)) := by
  simp [set3, World.setCell, Array.getElem?_modify, h]
theorem set3_other (w : World) (b k : Nat) (x y z : Value) (h : k ≠ b) : (set3 w b x y z).heap[k]? = w.heap[k]? := by
  simp only [set3, World.setCell, Array.getElem?_modify]
  rw [if_neg (by omega), if_neg (by omega), if_neg (by omega)]
theorem set3_below {base b : Nat} {w0 w : World} (h : Below base w0 w) (hb : base ≤ b) (x y z : Value) : Below base w0 (set3 w b x y z) :=
  below_setc (below_setc (below_setc h hb 0 x) hb 1 y) hb 2 z
set_option maxRecDepth 100000 in
set_option maxHeartbeats 1000000 in
theorem longest_any (s : ByteArray) (g m p tries : Nat) (w : World) (hs : s.size ≤ 4294967296) (hm : m = s.size - 3) (hp : p < m) (ht : tries ≤ 4294967296) (hg : w.heap[g]? = some (.cells (nearV (Sums.bl s) m m).toArray 3 (0, 0))) :
    Calls Try.prog 38 #[.string s, .slice (some ⟨g, 0, none⟩) m m, .int .i64 (p : Int), .int .i64 (tries : Int)] w fun e w' => e = .returned (mtV (atOf p (Lz.long (Sums.bl s) tries p).2) (Lz.long (Sums.bl s) tries p).1 (Lz.long (Sums.bl s) tries p).2) ∧ Below w.heap.size w w' := by
  have hglt : g < w.heap.size := (Array.getElem?_eq_some_iff.1 hg).1
  obtain ⟨R, hR⟩ : ∃ R, Lz.long (Sums.bl s) tries p = R := ⟨_, rfl⟩
  rw [hR]
  have hnc := near_cell hg hp
  have hnl := Lz.nearOf_lt (Sums.bl s) p
  have hst : Lg (Sums.bl s) m p g R w tries (Lz.nearOf (Sums.bl s) p) 0 0 ((w.alloc (.cells #[.int .i64 0, .int .i64 0, .int .i64 0] 72)).alloc (.cells #[.int .i64 0, .int .i64 0, .int .i64 0] 72)) := by
    refine ⟨hR, hnl.1, hnl.2, ?_, ?_, ?_, ((Below.refl _ _).alloc (Nat.le_refl _) _).alloc (by simp) _, by omega⟩
    · rw [Below.heap_alloc _ _ _ (by simp)]
      exact heap_alloc_new w _
    · have := heap_alloc_new (w.alloc (.cells #[.int .i64 0, .int .i64 0, .int .i64 0] 72)) (.cells #[.int .i64 0, .int .i64 0, .int .i64 0] 72)
      simpa [atOf] using this
    · rw [Below.heap_alloc _ _ _ (by simp; omega), Below.heap_alloc _ _ _ hglt]
      exact hg
  have HST := Hid.mk' hst
  obtain ⟨c0, hc0⟩ : ∃ c0, Lz.nearOf (Sums.bl s) p = c0 := ⟨_, rfl⟩
  rw [hc0] at hnc HST
  have hnc2 : ∀ o, (w.alloc o).cell? ⟨g, p, none⟩ = some (.int .i64 c0) := fun o => by
    rw [← hnc]
    simp only [World.cell?]
    rw [Below.heap_alloc _ _ _ hglt]
  have hnc3 : ∀ o o', ((w.alloc o).alloc o').cell? ⟨g, p, none⟩ = some (.int .i64 c0) := fun o o' => by
    rw [← hnc]
    simp only [World.cell?]
    rw [Below.heap_alloc _ _ _ (by simp; omega), Below.heap_alloc _ _ _ hglt]
  have hpm : (p : Int) < (m : Int) := by omega
  have hm3 : m + 3 ≤ s.size := by omega
  clear hR hst hnl hc0 hm
  go_enter Try.func38, Try.ntmps38
  go_wp2
  go_loopw [3, 10] (fun tv cv wr => ∃ (t : Nat) (c : Int) (off cnt : Nat), tv = .int .i64 (t : Int) ∧ cv = .int .i64 c ∧ t ≤ tries ∧ Lg (Sums.bl s) m p g R w t c off cnt wr) (fun tv _ _ => (intOf tv).toNat)
  case atStart => exact ⟨tries, c0, 0, 0, rfl, rfl, Nat.le_refl _, HST.out⟩
  case round =>
    obtain ⟨t, c, off, cnt, rfl, rfl, htt, hlg⟩ := hrel
    clear HST hnc hnc2 hnc3
    obtain ⟨r0, r1, r2, r3, r4, r5⟩ := cell3 hlg.res
    obtain ⟨b0, b1, b2, b3, b4, b5⟩ := cell3 hlg.best
    have hc1 := hlg.c1
    have hc2 := hlg.c2
    by_cases hin : 0 ≤ c ∧ (p : Int) - c ≤ 65535 ∧ 0 < t
    · obtain ⟨i1, i2, i3⟩ := hin
      obtain ⟨q, rfl⟩ : ∃ q : Nat, c = (q : Int) := ⟨c.toNat, by omega⟩
      obtain ⟨t1, rfl⟩ : ∃ t1, t = t1 + 1 := ⟨t - 1, by omega⟩
      have hqp : q < p := by omega
      have heq := hlg.eq
      rw [Lz.longF_step _ _ _ _ _ ⟨i1, i2⟩, Int.toNat_natCast] at heq
      obtain ⟨A, hA⟩ : ∃ A, Lz.agree (Sums.bl s) q p = A := ⟨_, rfl⟩
      have hAb := Lz.agree_le (Sums.bl s) q p
      rw [hA] at heq hAb
      rw [Sums.bl_length] at hAb
      have HAG := Hid.mk' (fun w => agreed_any s q p w hs hqp (by omega))
      rw [hA] at HAG
      have hnq := near_cell hlg.near (show q < m by omega)
      have hnl := Lz.nearOf_lt (Sums.bl s) q
      obtain ⟨c3, hc3⟩ : ∃ c3, Lz.nearOf (Sums.bl s) q = c3 := ⟨_, rfl⟩
      rw [hc3] at hnq hnl heq
      have hqm : (q : Int) < (m : Int) := by omega
      have hqmN : q < m := by omega
      have i1B : decide ((0 : Int) ≤ (q : Int)) = true := by simp
      have i2B : decide ((p : Int) - (q : Int) ≤ 65535) = true := by simp; omega
      have i3I : (0 : Int) < ((t1 + 1 : Nat) : Int) := by omega
      obtain ⟨d, hd⟩ : ∃ d, p - q = d := ⟨_, rfl⟩
      have hdI : (p : Int) - (q : Int) = (d : Int) := by omega
      have HLG := Hid.mk' hlg
      have HEQ := Hid.mk' heq
      have hAb2 : A ≤ 4294967296 := by omega
      have hcb := hlg.cb
      rw [hd] at HEQ
      have HCL := Hid.mk' hnl
      have htb : t1 ≤ 4294967296 := by omega
      clear hlg heq hA hc3 hnl hAb hd
      by_cases hbet : cnt < A
      · have hbI : (cnt : Int) < (A : Int) := by omega
        go_wp2_with (first | (go_at_call 51; refine (HAG.out _).mono ?_; rintro e w1 ⟨rfl, nd, rfl⟩) | fail)
        go_roundw
        case rel =>
          have hh := HEQ.out
          rw [if_pos hbet] at hh
          have hcl := HCL.out
          refine ⟨t1, c3, d, A, by simp, rfl, by omega, ⟨hh, hcl.1, by omega, ?_, ?_, ?_, ?_, hAb2⟩⟩
          · exact (set3_other (wr.drewN nd) (w.heap.size + 1) w.heap.size _ _ _ (by omega)).trans HLG.out.res
          · have := set3_same (w := wr.drewN nd) (b := w.heap.size + 1) (x := .int .i64 (p : Int)) (y := .int .i64 (d : Int)) (z := .int .i64 (A : Int)) HLG.out.best
            rw [show atOf p A = p by unfold atOf; rw [if_neg (by omega)]]
            exact this
          · exact (set3_other (wr.drewN nd) (w.heap.size + 1) g _ _ _ (by omega)).trans HLG.out.near
          · exact set3_below (HLG.out.bel.drewN' nd) (by omega) _ _ _
        case measure =>
          simp [intOf]
      · have hbI : ¬ (cnt : Int) < (A : Int) := by omega
        go_wp2_with (first | (go_at_call 51; refine (HAG.out _).mono ?_; rintro e w1 ⟨rfl, nd, rfl⟩) | fail)
        go_roundw
        case rel =>
          have hh := HEQ.out
          rw [if_neg hbet] at hh
          have hcl := HCL.out
          exact ⟨t1, c3, off, cnt, by simp, rfl, by omega, ⟨hh, hcl.1, by omega, HLG.out.res, HLG.out.best, HLG.out.near, HLG.out.bel.drewN' nd, hcb⟩⟩
        case measure =>
          simp [intOf]
    · have hR : R = (off, cnt) := by
        rw [← hlg.eq]
        by_cases h : 0 ≤ c ∧ (p : Int) - c ≤ 65535
        · obtain rfl : t = 0 := by omega
          rfl
        · exact Lz.longF_stop _ _ _ _ _ h
      subst hR
      have HLG := Hid.mk' hlg
      clear hlg
      by_cases i1 : 0 ≤ c
      · by_cases i2 : (p : Int) - c ≤ 65535
        · obtain rfl : t = 0 := by omega
          have i1B : decide ((0 : Int) ≤ c) = true := by simp; omega
          have i2B : decide ((p : Int) - c ≤ 65535) = true := by simp; omega
          go_wp2
          obtain ⟨f0, f1, f2, _⟩ := cell3 (set3_same (x := .int .i64 (atOf p cnt : Nat)) (y := .int .i64 (off : Int)) (z := .int .i64 (cnt : Int)) HLG.out.res)
          unfold set3 at f0 f1 f2
          exact bodyPost_ret (v := mtV (atOf p cnt) off cnt) (by simp [results, Try.results38, mtV, f0, f1, f2, go_sem]) rfl ⟨rfl, set3_below HLG.out.bel (Nat.le_refl _) _ _ _⟩
        · have i1B : decide ((0 : Int) ≤ c) = true := by simp; omega
          have i2B : decide ((p : Int) - c ≤ 65535) = false := by simp; omega
          go_wp2
          obtain ⟨f0, f1, f2, _⟩ := cell3 (set3_same (x := .int .i64 (atOf p cnt : Nat)) (y := .int .i64 (off : Int)) (z := .int .i64 (cnt : Int)) HLG.out.res)
          unfold set3 at f0 f1 f2
          exact bodyPost_ret (v := mtV (atOf p cnt) off cnt) (by simp [results, Try.results38, mtV, f0, f1, f2, go_sem]) rfl ⟨rfl, set3_below HLG.out.bel (Nat.le_refl _) _ _ _⟩
      · have i1B : decide ((0 : Int) ≤ c) = false := by simp; omega
        go_wp2
        obtain ⟨f0, f1, f2, _⟩ := cell3 (set3_same (x := .int .i64 (atOf p cnt : Nat)) (y := .int .i64 (off : Int)) (z := .int .i64 (cnt : Int)) HLG.out.res)
        unfold set3 at f0 f1 f2
        exact bodyPost_ret (v := mtV (atOf p cnt) off cnt) (by simp [results, Try.results38, mtV, f0, f1, f2, go_sem]) rfl ⟨rfl, set3_below HLG.out.bel (Nat.le_refl _) _ _ _⟩
end Go.Proofs.Ytchjmhgalbkjkaa
