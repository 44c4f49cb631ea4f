/-
  object: the reader, its first methods; how it gives up. Conditions: as each says.
-/
import Derived.Test.YtkplbggefiemdaaGreatDoorCloneS
import Derived.WalkLawsBesides
import Derived.Deep.LoopGhost
import Derived.Deep.DeepCutAuto
import Derived.Deep.CutBlock
import Derived.Deep.RegionHeld3
import Derived.Lib.AppendStr
import Derived.Deep.AppendLies
import Derived.Defers
import Derived.Recover
namespace Go.Proofs.YtkplbggefiemdaaGreatDoor
open Go.RowKit
set_option linter.unusedVariables false
/-- a reader: its text, its place, how deep it is -/
structure Rr (g : Nat) (S : ByteArray) (p d : Nat) (w : World) : Prop where
  row : w.heap[g]? = some (.cells #[.string S, .int .i64 (p : Int), .int .i64 (d : Int)] 61 (0, 0))
  le : p ≤ S.size
theorem Rr.lt {g : Nat} {S : ByteArray} {p d : Nat} {w : World} (h : Rr g S p d w) : g < w.heap.size := (Array.getElem?_eq_some_iff.1 h.row).1
structure RrC (g : Nat) (S : ByteArray) (p d : Nat) (w : World) : Prop where
  c0 : w.cell? ⟨g, 0, none⟩ = some (.string S)
  c1 : w.cell? ⟨g, 1, none⟩ = some (.int .i64 (p : Int))
  c2 : w.cell? ⟨g, 2, none⟩ = some (.int .i64 (d : Int))
  f1 : w.frozen? ⟨g, 1, none⟩ = false
  f2 : w.frozen? ⟨g, 2, none⟩ = false
theorem Rr.cells {g : Nat} {S : ByteArray} {p d : Nat} {w : World} (h : Rr g S p d w) : RrC g S p d w :=
  ⟨by simp [World.cell?, h.row], by simp [World.cell?, h.row], by simp [World.cell?, h.row], by simp [World.frozen?, h.row], by simp [World.frozen?, h.row]⟩
theorem Rr.drewN {g : Nat} {S : ByteArray} {p d : Nat} {w : World} (h : Rr g S p d w) (n : Nat) : Rr g S p d (w.drewN n) := ⟨h.row, h.le⟩
def hasO (c : Nat) : List Nat → Bool
  | x :: r => x == c
  | [] => false
theorem ob_idx (S : ByteArray) (p x : Nat) (r : List Nat) (h : (Sums.bl S).drop p = x :: r) (W : World) : (Instr.index 9 (.string S) (.int .i64 (p : Int))).run Tryz.prog W = .ok (.int .u8 (x : Int)) W := by
  have hs : p < S.size := by
    rcases Nat.lt_or_ge p S.size with q | q
    · exact q
    · rw [List.drop_eq_nil_of_le (by rw [Sums.bl_length]; exact q)] at h; cases h
  have hg := Sums.bl_get S p hs
  have hx : (Sums.bl S).getD p 0 = x := by
    have := congrArg (·.getD 0 0) h
    simpa [List.getD] using this
  rw [run_index_string W 9 _ .i64 p Tryz.underlying9, dif_pos ⟨by omega, by omega⟩]
  have : (x : Int) = (S[p].toNat : Int) := by rw [← hx, hg]
  rw [this]; rfl
theorem ob_facts (S : ByteArray) (p x : Nat) (r : List Nat) (h : (Sums.bl S).drop p = x :: r) : p < S.size ∧ x < 256 ∧ (Sums.bl S).drop (p + 1) = r := by
  have hs : p < S.size := by
    rcases Nat.lt_or_ge p S.size with q | q
    · exact q
    · rw [List.drop_eq_nil_of_le (by rw [Sums.bl_length]; exact q)] at h; cases h
  refine ⟨hs, Sums.bl_byt S x ?_, ?_⟩
  · have : x ∈ (Sums.bl S).drop p := by rw [h]; simp
    exact List.mem_of_mem_drop this
  · rw [← List.drop_drop, h]; rfl
theorem ob_nil (S : ByteArray) (p : Nat) (hp : p ≤ S.size) (h : (Sums.bl S).drop p = []) : p = S.size := by
  have := congrArg List.length h
  simp [Sums.bl_length] at this
  omega
set_option maxRecDepth 100000 in
theorem atEnd_any (g : Nat) (S : ByteArray) (p d : Nat) (z : Bool) (w : World) (h : Rr g S p d w) (hS : S.size ≤ 65536) (hz : decide (p = S.size) = z) :
    Calls Tryz.prog 66 #[.pointer (some ⟨g, 0, none⟩)] w fun e w' => e = .returned (.bool z) ∧ ∃ n, w' = w.drewN n := by
  obtain ⟨c0, c1, c2, f1, f2⟩ := h.cells
  have hSI : (S.size : Int) ≤ 65536 := by omega
  have t1 : ((p : Int) == (S.size : Int)) = z := by rw [← hz, Bool.eq_iff_iff]; simp; omega
  have t2 : (p == S.size) = z := by rw [← hz]; rw [Bool.eq_iff_iff]; simp
  have HZ := Hid.mk' hz
  clear h hz
  go_enter Tryz.func66, Tryz.ntmps66
  go_wp2_with fail
  go_quiet (fail)
  go_wp2_with fail
  go_ret
  exact ⟨by first | rfl | exact ret_b t1 | exact ret_b t2, _, rfl⟩
def rngO (lo hi : Nat) : List Nat → Bool
  | x :: r => decide (lo ≤ x) && decide (x ≤ hi)
  | [] => false
set_option maxRecDepth 100000 in
set_option maxHeartbeats 2000000 in
theorem is_any (g : Nat) (S : ByteArray) (p d c : Nat) (l : List Nat) (w : World) (h : Rr g S p d w) (hS : S.size ≤ 65536) (hl : (Sums.bl S).drop p = l) :
    Calls Tryz.prog 126 #[.pointer (some ⟨g, 0, none⟩), .int .u8 (c : Int)] w fun e w' => e = .returned (.bool (hasO c l)) ∧ ∃ n, w' = w.drewN n := by
  obtain ⟨c0, c1, c2, f1, f2⟩ := h.cells
  have HR := Hid.mk' h
  have HS := Hid.mk' hS
  cases l with
  | nil =>
    have hpe := ob_nil S p h.le hl
    have HA := Hid.mk' (fun w h => atEnd_any g S p d true w h HS.out (decide_eq_true hpe))
    clear h hS hl hpe
    go_enter Tryz.func126, Tryz.ntmps126
    go_wp2_with fail
    go_quiet ((go_at_call 66; exact Calls.quiet_of (HA.out _ (HR.out.drewN _))))
    go_wp2_with fail
    go_ret
    exact ⟨rfl, _, rfl⟩
  | cons x r =>
    have hi := ob_idx S p x r hl
    obtain ⟨n1, n2, n3⟩ := ob_facts S p x r hl
    have hpb : (p : Int) < (S.size : Int) := by omega
    have HA := Hid.mk' (fun w h => atEnd_any g S p d false w h HS.out (decide_eq_false (by omega)))
    have e1 : ((x : Int) == (c : Int)) = hasO c (x :: r) := by simp only [hasO]; rw [Bool.eq_iff_iff]; simp; omega
    obtain ⟨z, hz⟩ : ∃ z, hasO c (x :: r) = z := ⟨_, rfl⟩
    rw [hz] at e1 ⊢
    clear h hS hl n3 hz
    go_enter Tryz.func126, Tryz.ntmps126
    go_wp2_with fail
    go_quiet ((go_at_call 66; exact Calls.quiet_of (HA.out _ (HR.out.drewN _))))
    go_wp2_with fail
    go_ret
    exact ⟨by first | rfl | exact ret_b e1, _, rfl⟩
def adv (b : Bool) (p : Nat) : Nat := if b = true then p + 1 else p
theorem Rr.step {g : Nat} {S : ByteArray} {p d : Nat} {w : World} (h : Rr g S p d w) (hp : p < S.size) : Rr g S (p + 1) d (w.setCell ⟨g, 1, none⟩ (.int .i64 ((p : Int) + 1))) ∧ Only g w (w.setCell ⟨g, 1, none⟩ (.int .i64 ((p : Int) + 1))) := by
  have e := setCell_eq_setRow w g 1 _ 61 (0, 0) (.int .i64 ((p : Int) + 1)) h.row
  rw [e]
  refine ⟨⟨?_, by omega⟩, ⟨rfl, rfl, rfl, by simp [World.setRow], fun k _ hk => ?_⟩⟩
  · have := setRow_heap w g _ ((#[.string S, .int .i64 (p : Int), .int .i64 (d : Int)] : Array Value).setIfInBounds 1 (.int .i64 ((p : Int) + 1))) 61 (0, 0) h.row
    simpa using this
  · simp only [World.setRow, Array.getElem?_modify]
    rw [if_neg (by omega)]
set_option maxRecDepth 100000 in
set_option maxHeartbeats 4000000 in
theorem takeOf_any (g : Nat) (S : ByteArray) (p d lo hi : Nat) (l : List Nat) (w : World) (h : Rr g S p d w) (hS : S.size ≤ 65536) (hl : (Sums.bl S).drop p = l) :
    Calls Tryz.prog 152 #[.pointer (some ⟨g, 0, none⟩), .int .u8 (lo : Int), .int .u8 (hi : Int)] w fun e w' => e = .returned (.bool (rngO lo hi l)) ∧ Rr g S (adv (rngO lo hi l) p) d w' ∧ Only g w w' := by
  obtain ⟨c0, c1, c2, f1, f2⟩ := h.cells
  have HR := Hid.mk' h
  have HS := Hid.mk' hS
  cases l with
  | nil =>
    have hpe := ob_nil S p h.le hl
    have HA := Hid.mk' (fun w h => atEnd_any g S p d true w h HS.out (decide_eq_true hpe))
    clear h hS hl hpe
    go_enter Tryz.func152, Tryz.ntmps152
    go_wp2_with fail
    go_quiet ((go_at_call 66; exact Calls.quiet_of (HA.out _ (HR.out.drewN _))))
    go_wp2_with fail
    go_ret
    exact ⟨rfl, HR.out.drewN _, (Only.refl _ _).drewN _⟩
  | cons x r =>
    have hi' := ob_idx S p x r hl
    obtain ⟨n1, n2, n3⟩ := ob_facts S p x r hl
    have hpb : (p : Int) < (S.size : Int) := by omega
    have hpb2 : (p : Int) ≤ 65536 := by omega
    have HA := Hid.mk' (fun w h => atEnd_any g S p d false w h HS.out (decide_eq_false (by omega)))
    have HQ : Hid (∀ n, Rr g S p d (w.drewN n) ∧ Only g w (w.drewN n)) := fun n => ⟨HR.out.drewN n, (Only.refl _ _).drewN n⟩
    have HN1 := Hid.mk' n1
    simp only [rngO]
    clear h hS hl n3 n1
    by_cases h1 : lo ≤ x
    · have t1 : ¬ (x : Int) < (lo : Int) := by omega
      have t2 : decide ((x : Int) < (lo : Int)) = false := by simp; omega
      have t3 : decide (x < lo) = false := by simp; omega
      by_cases h2 : x ≤ hi
      · have t4 : ¬ (hi : Int) < (x : Int) := by omega
        have t5 : decide ((hi : Int) < (x : Int)) = false := by simp; omega
        have t6 : decide (hi < x) = false := by simp; omega
        rw [decide_eq_true h1, decide_eq_true h2]
        clear h1 h2
        go_enter Tryz.func152, Tryz.ntmps152
        go_wp2_with fail
        go_quiet ((go_at_call 66; exact Calls.quiet_of (HA.out _ (HR.out.drewN _))))
        have H2 := Hid.mk' (HQ.out nq)
        generalize w.drewN nq = w2 at H2 ⊢
        clear c0 c1 c2 f1 f2
        obtain ⟨c0, c1, c2, f1, f2⟩ := H2.out.1.cells
        go_wp2_with fail
        go_ret
        have q := H2.out.1.step HN1.out
        exact ⟨rfl, q.1, H2.out.2.trans q.2⟩
      · have t4 : (hi : Int) < (x : Int) := by omega
        have t5 : decide ((hi : Int) < (x : Int)) = true := by simp; omega
        have t6 : decide (hi < x) = true := by simp; omega
        rw [decide_eq_true h1, decide_eq_false h2]
        clear h1 h2
        go_enter Tryz.func152, Tryz.ntmps152
        go_wp2_with fail
        go_quiet ((go_at_call 66; exact Calls.quiet_of (HA.out _ (HR.out.drewN _))))
        go_wp2_with fail
        go_ret
        exact ⟨rfl, HR.out.drewN _, (Only.refl _ _).drewN _⟩
    · have t1 : (x : Int) < (lo : Int) := by omega
      have t2 : decide ((x : Int) < (lo : Int)) = true := by simp; omega
      have t3 : decide (x < lo) = true := by simp; omega
      rw [decide_eq_false h1]
      clear h1
      go_enter Tryz.func152, Tryz.ntmps152
      go_wp2_with fail
      go_quiet ((go_at_call 66; exact Calls.quiet_of (HA.out _ (HR.out.drewN _))))
      go_wp2_with fail
      go_ret
      exact ⟨rfl, HR.out.drewN _, (Only.refl _ _).drewN _⟩
end Go.Proofs.YtkplbggefiemdaaGreatDoor

namespace Go.Proofs.YtkplbggefiemdaaGreatDoor
open Go.RowKit
set_option linter.unusedVariables false
/-- a reader that gives up -/
def flt (c p : Nat) : List PanicEntry := [{ v := .iface 63 (.agg #[.int .i64 (c : Int), .int .i64 (p : Int)]), recovered := false }]
theorem giveUp_any (g c p : Nat) (w : World) : Calls Tryz.prog 96 #[.pointer (some ⟨g, 0, none⟩), .int .i64 (c : Int), .int .i64 (p : Int)] w fun e w' => e = .panicked (flt c p) ∧ w' = w := by
  unfold flt
  go_enter Tryz.func96, Tryz.ntmps96
  go_wp2_with fail
  exact ⟨rfl, rfl, rfl⟩
theorem cant_any (g : Nat) (S : ByteArray) (p d : Nat) (w : World) (h : Rr g S p d w) : Calls Tryz.prog 67 #[.pointer (some ⟨g, 0, none⟩)] w fun e w' => e = .panicked (flt 130 p) ∧ w' = w := by
  obtain ⟨c0, c1, c2, f1, f2⟩ := h.cells
  have HG := Hid.mk' (fun w => giveUp_any g 130 p w)
  clear h
  go_enter Tryz.func67, Tryz.ntmps67
  go_wp2_with fail
  refine (HG.out _).mono ?_
  rintro e w1 ⟨rfl, hw⟩
  have hw2 := hw.symm
  subst hw2
  clear hw
  exact ⟨rfl, rfl, rfl⟩
/-- what a call does that must find something: it returns, or gives up here -/
def ndE (b : Bool) (p : Nat) : Ending := if b = true then .returned (.tuple #[]) else .panicked (flt 130 p)
set_option maxHeartbeats 1000000 in
theorem needOf_any (g : Nat) (S : ByteArray) (p d lo hi : Nat) (l : List Nat) (w : World) (h : Rr g S p d w) (hS : S.size ≤ 65536) (hl : (Sums.bl S).drop p = l) :
    Calls Tryz.prog 177 #[.pointer (some ⟨g, 0, none⟩), .int .u8 (lo : Int), .int .u8 (hi : Int)] w fun e w' => e = ndE (rngO lo hi l) p ∧ Rr g S (adv (rngO lo hi l) p) d w' ∧ Only g w w' := by
  have HT := Hid.mk' (takeOf_any g S p d lo hi l w h hS hl)
  cases hb : rngO lo hi l
  · rw [hb] at HT
    clear h hb
    go_enter Tryz.func177, Tryz.ntmps177
    go_wp2_with fail
    refine HT.out.mono ?_
    rintro e w1 ⟨rfl, hr, ho⟩
    have HR : Hid (Rr g S p d w1) := hr
    have HO := Hid.mk' ho
    clear hr ho HT
    go_wp2_with fail
    refine (cant_any g S p d _ HR.out).mono ?_
    rintro e w2 ⟨rfl, hw⟩
    have hw2 := hw.symm
    subst hw2
    clear hw
    exact ⟨rfl, rfl, HR.out, HO.out⟩
  · rw [hb] at HT
    clear h hb
    go_enter Tryz.func177, Tryz.ntmps177
    go_wp2_with fail
    refine HT.out.mono ?_
    rintro e w1 ⟨rfl, hr, ho⟩
    have HR := Hid.mk' hr
    have HO := Hid.mk' ho
    clear hr ho HT
    go_wp2_with fail
    go_end0
    exact ⟨rfl, HR.out, HO.out⟩
set_option maxHeartbeats 1000000 in
theorem take_any (g : Nat) (S : ByteArray) (p d c : Nat) (l : List Nat) (w : World) (h : Rr g S p d w) (hS : S.size ≤ 65536) (hl : (Sums.bl S).drop p = l) :
    Calls Tryz.prog 125 #[.pointer (some ⟨g, 0, none⟩), .int .u8 (c : Int)] w fun e w' => e = .returned (.bool (rngO c c l)) ∧ Rr g S (adv (rngO c c l) p) d w' ∧ Only g w w' := by
  have HT := Hid.mk' (takeOf_any g S p d c c l w h hS hl)
  clear h
  go_enter Tryz.func125, Tryz.ntmps125
  go_wp2_with fail
  refine HT.out.mono ?_
  rintro e w1 ⟨rfl, hr, ho⟩
  have HR := Hid.mk' (And.intro hr ho)
  clear hr ho HT
  go_wp2_with fail
  go_ret
  exact ⟨rfl, HR.out.1, HR.out.2⟩
set_option maxHeartbeats 1000000 in
theorem need_any (g : Nat) (S : ByteArray) (p d c : Nat) (l : List Nat) (w : World) (h : Rr g S p d w) (hS : S.size ≤ 65536) (hl : (Sums.bl S).drop p = l) :
    Calls Tryz.prog 153 #[.pointer (some ⟨g, 0, none⟩), .int .u8 (c : Int)] w fun e w' => e = ndE (rngO c c l) p ∧ Rr g S (adv (rngO c c l) p) d w' ∧ Only g w w' := by
  have HT := Hid.mk' (needOf_any g S p d c c l w h hS hl)
  clear h
  cases hb : rngO c c l
  · rw [hb] at HT
    clear hb
    go_enter Tryz.func153, Tryz.ntmps153
    go_wp2_with fail
    refine HT.out.mono ?_
    rintro e w1 ⟨rfl, hr, ho⟩
    exact ⟨rfl, rfl, hr, ho⟩
  · rw [hb] at HT
    clear hb
    go_enter Tryz.func153, Tryz.ntmps153
    go_wp2_with fail
    refine HT.out.mono ?_
    rintro e w1 ⟨he, hr, ho⟩
    have he2 : e = .returned (.tuple #[]) := he
    subst he2
    have HR := Hid.mk' (And.intro hr ho)
    clear hr ho HT he
    go_wp2_with fail
    go_end0
    exact ⟨rfl, HR.out.1, HR.out.2⟩
end Go.Proofs.YtkplbggefiemdaaGreatDoor

namespace Go.Proofs.YtkplbggefiemdaaGreatDoor
open Go.RowKit
set_option linter.unusedVariables false
theorem take_t (g : Nat) (S : ByteArray) (p d c : Nat) (w : World) (h : Rr g S p d w) (hS : S.size ≤ 65536) (hl : rngO c c ((Sums.bl S).drop p) = true) :
    Calls Tryz.prog 125 #[.pointer (some ⟨g, 0, none⟩), .int .u8 (c : Int)] w fun e w' => e = .returned (.bool true) ∧ Rr g S (p + 1) d w' ∧ Only g w w' := by
  have q := take_any g S p d c _ w h hS rfl
  rw [hl] at q
  exact q
theorem take_f (g : Nat) (S : ByteArray) (p d c : Nat) (w : World) (h : Rr g S p d w) (hS : S.size ≤ 65536) (hl : rngO c c ((Sums.bl S).drop p) = false) :
    Calls Tryz.prog 125 #[.pointer (some ⟨g, 0, none⟩), .int .u8 (c : Int)] w fun e w' => e = .returned (.bool false) ∧ Rr g S p d w' ∧ Only g w w' := by
  have q := take_any g S p d c _ w h hS rfl
  rw [hl] at q
  exact q
theorem rng1 (c x : Nat) (r : List Nat) : rngO c c (x :: r) = decide (x = c) := by
  simp only [rngO]
  rw [Bool.eq_iff_iff]
  simp
  omega
def isBl : List Nat → Bool
  | x :: r => decide (x = 32 ∨ x = 9 ∨ x = 10 ∨ x = 13)
  | [] => false
/-- the place behind blanks -/
def blF : List Nat → Nat → Nat
  | x :: r, p => if x = 32 ∨ x = 9 ∨ x = 10 ∨ x = 13 then blF r (p + 1) else p
  | [], p => p
theorem blF_le : ∀ (l : List Nat) (p : Nat), p ≤ blF l p ∧ blF l p ≤ p + l.length
  | [], p => by simp [blF]
  | x :: r, p => by
    have := blF_le r (p + 1)
    rw [blF]
    split <;> simp <;> omega
def blP (L : List Nat) (p : Nat) : Nat := blF (L.drop p) p
theorem blP_le (L : List Nat) (p : Nat) : p ≤ blP L p := (blF_le _ _).1
theorem bl_round (L : List Nat) (q : Nat) : (∃ c r, L.drop q = c :: r ∧ (c = 32 ∨ c = 9 ∨ c = 10 ∨ c = 13) ∧ blF (L.drop q) q = blF (L.drop (q + 1)) (q + 1) ∧ (L.drop (q + 1)).length < (L.drop q).length) ∨ ((rngO 32 32 (L.drop q) = false ∧ rngO 9 9 (L.drop q) = false ∧ rngO 10 10 (L.drop q) = false ∧ rngO 13 13 (L.drop q) = false) ∧ blF (L.drop q) q = q) := by
  cases hq : L.drop q with
  | nil => exact .inr ⟨⟨rfl, rfl, rfl, rfl⟩, rfl⟩
  | cons c r =>
    have hn : L.drop (q + 1) = r := by rw [← List.drop_drop, hq]; rfl
    by_cases h : c = 32 ∨ c = 9 ∨ c = 10 ∨ c = 13
    · refine .inl ⟨c, r, rfl, h, ?_, ?_⟩
      · rw [hn, blF, if_pos h]
      · rw [hn]; simp
    · refine .inr ⟨⟨?_, ?_, ?_, ?_⟩, by rw [blF, if_neg h]⟩
      all_goals rw [rng1]; simp; omega
set_option maxRecDepth 100000 in
set_option maxHeartbeats 4000000 in
theorem blanks_any (g : Nat) (S : ByteArray) (p d : Nat) (w : World) (h : Rr g S p d w) (hS : S.size ≤ 65536) :
    Calls Tryz.prog 94 #[.pointer (some ⟨g, 0, none⟩)] w fun e w' => e = .returned (.tuple #[]) ∧ Rr g S (blP (Sums.bl S) p) d w' ∧ Only g w w' := by
  have HS := Hid.mk' hS
  have HR := Hid.mk' h
  obtain ⟨N, hN⟩ : ∃ N, blP (Sums.bl S) p = N := ⟨_, rfl⟩
  rw [hN]
  have HN := Hid.mk' hN
  clear h hS hN
  go_enter Tryz.func94, Tryz.ntmps94
  go_wp2_with fail
  go_loopg [] ((Sums.bl S).drop p).length (fun k wr => ∃ q : Nat, Hid (((Sums.bl S).drop q).length = k ∧ blF ((Sums.bl S).drop q) q = N) ∧ Hid (Rr g S q d wr ∧ Only g w wr))
  case atStart => exact ⟨p, ⟨rfl, HN.out⟩, ⟨HR.out, Only.refl _ _⟩⟩
  case round =>
    obtain ⟨q, HK, H⟩ := hrel
    rcases bl_round (Sums.bl S) q with ⟨c, r, hd, hc, hb, hlt⟩ | ⟨⟨h1, h2, h3, h4⟩, hb⟩
    · have HB := Hid.mk' (And.intro hb hlt)
      have HD := Hid.mk' hd
      clear hb hlt hd HN HR
      rcases hc with rfl | rfl | rfl | rfl
      · have T32 : Hid (rngO 32 32 ((Sums.bl S).drop q) = true) := Hid.mk' (by rw [HD.out]; rfl)
        go_wp2_with fail
        refine (take_t g S q d 32 _ H.out.1 HS.out (by exact T32.out)).mono ?_
        rintro e vz ⟨rfl, hr1, ho1⟩
        have HZ : Hid (Rr g S (q + 1) d vz ∧ Only g w vz) := ⟨hr1, H.out.2.trans ho1⟩
        clear hr1 ho1
        go_wp2_with fail
        go_roundg ((Sums.bl S).drop (q + 1)).length
        case measure => have := HK.out.1; have := HB.out.2; omega
        case rel => exact ⟨q + 1, ⟨rfl, HB.out.1.symm.trans HK.out.2⟩, HZ⟩
      · have F32 : Hid (rngO 32 32 ((Sums.bl S).drop q) = false) := Hid.mk' (by rw [HD.out]; rfl)
        have T9 : Hid (rngO 9 9 ((Sums.bl S).drop q) = true) := Hid.mk' (by rw [HD.out]; rfl)
        go_wp2_with fail
        refine (take_f g S q d 32 _ H.out.1 HS.out (by exact F32.out)).mono ?_
        rintro e v0 ⟨rfl, hr1, ho1⟩
        have H0 : Hid (Rr g S q d v0 ∧ Only g w v0) := ⟨hr1, H.out.2.trans ho1⟩
        clear hr1 ho1
        go_wp2_with fail
        refine (take_t g S q d 9 _ H0.out.1 HS.out (by exact T9.out)).mono ?_
        rintro e vz ⟨rfl, hr1, ho1⟩
        have HZ : Hid (Rr g S (q + 1) d vz ∧ Only g w vz) := ⟨hr1, H0.out.2.trans ho1⟩
        clear hr1 ho1
        go_wp2_with fail
        go_roundg ((Sums.bl S).drop (q + 1)).length
        case measure => have := HK.out.1; have := HB.out.2; omega
        case rel => exact ⟨q + 1, ⟨rfl, HB.out.1.symm.trans HK.out.2⟩, HZ⟩
      · have F32 : Hid (rngO 32 32 ((Sums.bl S).drop q) = false) := Hid.mk' (by rw [HD.out]; rfl)
        have F9 : Hid (rngO 9 9 ((Sums.bl S).drop q) = false) := Hid.mk' (by rw [HD.out]; rfl)
        have T10 : Hid (rngO 10 10 ((Sums.bl S).drop q) = true) := Hid.mk' (by rw [HD.out]; rfl)
        go_wp2_with fail
        refine (take_f g S q d 32 _ H.out.1 HS.out (by exact F32.out)).mono ?_
        rintro e v0 ⟨rfl, hr1, ho1⟩
        have H0 : Hid (Rr g S q d v0 ∧ Only g w v0) := ⟨hr1, H.out.2.trans ho1⟩
        clear hr1 ho1
        go_wp2_with fail
        refine (take_f g S q d 9 _ H0.out.1 HS.out (by exact F9.out)).mono ?_
        rintro e v1 ⟨rfl, hr1, ho1⟩
        have H1 : Hid (Rr g S q d v1 ∧ Only g w v1) := ⟨hr1, H0.out.2.trans ho1⟩
        clear hr1 ho1
        go_wp2_with fail
        refine (take_t g S q d 10 _ H1.out.1 HS.out (by exact T10.out)).mono ?_
        rintro e vz ⟨rfl, hr1, ho1⟩
        have HZ : Hid (Rr g S (q + 1) d vz ∧ Only g w vz) := ⟨hr1, H1.out.2.trans ho1⟩
        clear hr1 ho1
        go_wp2_with fail
        go_roundg ((Sums.bl S).drop (q + 1)).length
        case measure => have := HK.out.1; have := HB.out.2; omega
        case rel => exact ⟨q + 1, ⟨rfl, HB.out.1.symm.trans HK.out.2⟩, HZ⟩
      · have F32 : Hid (rngO 32 32 ((Sums.bl S).drop q) = false) := Hid.mk' (by rw [HD.out]; rfl)
        have F9 : Hid (rngO 9 9 ((Sums.bl S).drop q) = false) := Hid.mk' (by rw [HD.out]; rfl)
        have F10 : Hid (rngO 10 10 ((Sums.bl S).drop q) = false) := Hid.mk' (by rw [HD.out]; rfl)
        have T13 : Hid (rngO 13 13 ((Sums.bl S).drop q) = true) := Hid.mk' (by rw [HD.out]; rfl)
        go_wp2_with fail
        refine (take_f g S q d 32 _ H.out.1 HS.out (by exact F32.out)).mono ?_
        rintro e v0 ⟨rfl, hr1, ho1⟩
        have H0 : Hid (Rr g S q d v0 ∧ Only g w v0) := ⟨hr1, H.out.2.trans ho1⟩
        clear hr1 ho1
        go_wp2_with fail
        refine (take_f g S q d 9 _ H0.out.1 HS.out (by exact F9.out)).mono ?_
        rintro e v1 ⟨rfl, hr1, ho1⟩
        have H1 : Hid (Rr g S q d v1 ∧ Only g w v1) := ⟨hr1, H0.out.2.trans ho1⟩
        clear hr1 ho1
        go_wp2_with fail
        refine (take_f g S q d 10 _ H1.out.1 HS.out (by exact F10.out)).mono ?_
        rintro e v2 ⟨rfl, hr1, ho1⟩
        have H2 : Hid (Rr g S q d v2 ∧ Only g w v2) := ⟨hr1, H1.out.2.trans ho1⟩
        clear hr1 ho1
        go_wp2_with fail
        refine (take_t g S q d 13 _ H2.out.1 HS.out (by exact T13.out)).mono ?_
        rintro e vz ⟨rfl, hr1, ho1⟩
        have HZ : Hid (Rr g S (q + 1) d vz ∧ Only g w vz) := ⟨hr1, H2.out.2.trans ho1⟩
        clear hr1 ho1
        go_wp2_with fail
        go_roundg ((Sums.bl S).drop (q + 1)).length
        case measure => have := HK.out.1; have := HB.out.2; omega
        case rel => exact ⟨q + 1, ⟨rfl, HB.out.1.symm.trans HK.out.2⟩, HZ⟩
    · have HB := Hid.mk' hb
      have F32 := Hid.mk' h1
      have F9 := Hid.mk' h2
      have F10 := Hid.mk' h3
      have F13 := Hid.mk' h4
      clear hb h1 h2 h3 h4 HN HR
      go_wp2_with fail
      refine (take_f g S q d 32 _ H.out.1 HS.out (by exact F32.out)).mono ?_
      rintro e v0 ⟨rfl, hr1, ho1⟩
      have H0 : Hid (Rr g S q d v0 ∧ Only g w v0) := ⟨hr1, H.out.2.trans ho1⟩
      clear hr1 ho1
      go_wp2_with fail
      refine (take_f g S q d 9 _ H0.out.1 HS.out (by exact F9.out)).mono ?_
      rintro e v1 ⟨rfl, hr1, ho1⟩
      have H1 : Hid (Rr g S q d v1 ∧ Only g w v1) := ⟨hr1, H0.out.2.trans ho1⟩
      clear hr1 ho1
      go_wp2_with fail
      refine (take_f g S q d 10 _ H1.out.1 HS.out (by exact F10.out)).mono ?_
      rintro e v2 ⟨rfl, hr1, ho1⟩
      have H2 : Hid (Rr g S q d v2 ∧ Only g w v2) := ⟨hr1, H1.out.2.trans ho1⟩
      clear hr1 ho1
      go_wp2_with fail
      refine (take_f g S q d 13 _ H2.out.1 HS.out (by exact F13.out)).mono ?_
      rintro e v3 ⟨rfl, hr1, ho1⟩
      have H3 : Hid (Rr g S q d v3 ∧ Only g w v3) := ⟨hr1, H2.out.2.trans ho1⟩
      clear hr1 ho1
      go_wp2_with fail
      go_end0
      have e : q = N := HB.out.symm.trans HK.out.2
      subst e
      exact ⟨rfl, H3.out⟩
def isDg : List Nat → Bool
  | x :: r => decide (48 ≤ x ∧ x ≤ 57)
  | [] => false
/-- the place behind digits -/
def dgF : List Nat → Nat → Nat
  | x :: r, p => if 48 ≤ x ∧ x ≤ 57 then dgF r (p + 1) else p
  | [], p => p
theorem dgF_le : ∀ (l : List Nat) (p : Nat), p ≤ dgF l p ∧ dgF l p ≤ p + l.length
  | [], p => by simp [dgF]
  | x :: r, p => by
    have := dgF_le r (p + 1)
    rw [dgF]
    split <;> simp <;> omega
theorem dg_round (L : List Nat) (q : Nat) : (rngO 48 57 (L.drop q) = true ∧ dgF (L.drop q) q = dgF (L.drop (q + 1)) (q + 1) ∧ (L.drop (q + 1)).length < (L.drop q).length) ∨ (rngO 48 57 (L.drop q) = false ∧ dgF (L.drop q) q = q) := by
  cases hq : L.drop q with
  | nil => exact .inr ⟨rfl, rfl⟩
  | cons c r =>
    have hn : L.drop (q + 1) = r := by rw [← List.drop_drop, hq]; rfl
    by_cases h : 48 ≤ c ∧ c ≤ 57
    · refine .inl ⟨?_, ?_, ?_⟩
      · simp [rngO]; omega
      · rw [hn, dgF, if_pos h]
      · rw [hn]; simp
    · refine .inr ⟨?_, by rw [dgF, if_neg h]⟩
      simp only [rngO]
      rw [Bool.eq_false_iff]
      simp
      omega
/-- what a method that reads does: it comes to a place, or gives up at one -/
inductive Rs where
  | ok (p : Nat)
  | no (c p : Nat)
def dgP (L : List Nat) (p : Nat) : Rs := if rngO 48 57 (L.drop p) = true then .ok (dgF (L.drop (p + 1)) (p + 1)) else .no 130 p
/-- a method that answers nothing -/
def Rs.Post (r : Rs) (g : Nat) (S : ByteArray) (d : Nat) (w : World) (e : Ending) (w' : World) : Prop :=
  match r with
  | .ok p => e = .returned (.tuple #[]) ∧ Rr g S p d w' ∧ Only g w w'
  | .no c p => e = .panicked (flt c p) ∧ Only g w w'
set_option maxRecDepth 100000 in
set_option maxHeartbeats 4000000 in
theorem digits_any (g : Nat) (S : ByteArray) (p d : Nat) (w : World) (h : Rr g S p d w) (hS : S.size ≤ 65536) :
    Calls Tryz.prog 162 #[.pointer (some ⟨g, 0, none⟩)] w ((dgP (Sums.bl S) p).Post g S d w) := by
  have HS := Hid.mk' hS
  have HT := Hid.mk' (needOf_any g S p d 48 57 _ w h hS rfl)
  unfold dgP
  cases hb : rngO 48 57 ((Sums.bl S).drop p)
  · rw [hb] at HT
    rw [if_neg (by decide)]
    unfold Rs.Post
    clear h hb hS
    go_enter Tryz.func162, Tryz.ntmps162
    go_wp2_with fail
    refine HT.out.mono ?_
    rintro e w1 ⟨rfl, hr, ho⟩
    exact ⟨rfl, rfl, ho⟩
  · rw [hb] at HT
    rw [if_pos rfl]
    unfold Rs.Post
    obtain ⟨N, hN⟩ : ∃ N, dgF ((Sums.bl S).drop (p + 1)) (p + 1) = N := ⟨_, rfl⟩
    show Calls _ _ _ _ fun e w' => e = .returned (.tuple #[]) ∧ Rr g S (dgF ((Sums.bl S).drop (p + 1)) (p + 1)) d w' ∧ Only g w w'
    rw [hN]
    have HN := Hid.mk' hN
    clear h hb hS hN
    go_enter Tryz.func162, Tryz.ntmps162
    go_wp2_with fail
    refine HT.out.mono ?_
    rintro e w1 ⟨he, hr, ho⟩
    have he2 : e = .returned (.tuple #[]) := he
    subst he2
    have HR : Hid (Rr g S (p + 1) d w1 ∧ Only g w w1) := ⟨hr, ho⟩
    clear hr ho HT he
    go_wp2_with fail
    go_loopg [] ((Sums.bl S).drop (p + 1)).length (fun k wr => ∃ q : Nat, Hid (((Sums.bl S).drop q).length = k ∧ dgF ((Sums.bl S).drop q) q = N) ∧ Hid (Rr g S q d wr ∧ Only g w wr))
    case atStart => exact ⟨p + 1, ⟨rfl, HN.out⟩, HR⟩
    case round =>
      obtain ⟨q, HK, H⟩ := hrel
      rcases dg_round (Sums.bl S) q with ⟨h1, hb, hlt⟩ | ⟨h1, hb⟩
      · have HC := Hid.mk' (fun w h => takeOf_any g S q d 48 57 _ w h HS.out rfl)
        rw [h1] at HC
        have HB := Hid.mk' (And.intro hb hlt)
        clear hb hlt h1 HN HR
        go_wp2_with fail
        refine (HC.out _ H.out.1).mono ?_
        rintro e w2 ⟨rfl, hr, ho⟩
        have HZ : Hid (Rr g S (q + 1) d w2 ∧ Only g w w2) := ⟨hr, H.out.2.trans ho⟩
        clear hr ho HC
        go_wp2_with fail
        go_roundg ((Sums.bl S).drop (q + 1)).length
        case measure => have := HK.out.1; have := HB.out.2; omega
        case rel => exact ⟨q + 1, ⟨rfl, HB.out.1.symm.trans HK.out.2⟩, HZ⟩
      · have HC := Hid.mk' (fun w h => takeOf_any g S q d 48 57 _ w h HS.out rfl)
        rw [h1] at HC
        have HB := Hid.mk' hb
        clear hb h1 HN HR
        go_wp2_with fail
        refine (HC.out _ H.out.1).mono ?_
        rintro e w2 ⟨rfl, hr, ho⟩
        have HZ : Hid (Rr g S q d w2 ∧ Only g w w2) := ⟨hr, H.out.2.trans ho⟩
        clear hr ho HC
        go_wp2_with fail
        go_end0
        have e : q = N := HB.out.symm.trans HK.out.2
        subst e
        exact ⟨rfl, HZ.out⟩
end Go.Proofs.YtkplbggefiemdaaGreatDoor

namespace Go.Proofs.YtkplbggefiemdaaGreatDoor
open Go.RowKit
set_option linter.unusedVariables false
def Rs.bind (r : Rs) (k : Nat → Rs) : Rs :=
  match r with
  | .ok p => k p
  | .no c p => .no c p
def nm0 (L : List Nat) (p : Nat) : Nat := adv (rngO 45 45 (L.drop p)) p
def nm1 (L : List Nat) (p : Nat) : Rs := if rngO 48 48 (L.drop p) = true then .ok (p + 1) else dgP L p
def nm2 (L : List Nat) (p : Nat) : Rs := if rngO 46 46 (L.drop p) = true then dgP L (p + 1) else .ok p
def nmS (L : List Nat) (p : Nat) : Nat := if rngO 43 43 (L.drop p) = true then p + 1 else adv (rngO 45 45 (L.drop p)) p
def nm3 (L : List Nat) (p : Nat) : Rs := if rngO 101 101 (L.drop p) = true then dgP L (nmS L (p + 1)) else if rngO 69 69 (L.drop p) = true then dgP L (nmS L (p + 1)) else .ok p
/-- a number: where it ends -/
def nmP (L : List Nat) (p : Nat) : Rs := (nm1 L (nm0 L p)).bind fun a => (nm2 L a).bind fun b => nm3 L b
/-- a method that answers a text -/
def Rs.PostS (r : Rs) (t : Nat → ByteArray) (g : Nat) (S : ByteArray) (d : Nat) (w : World) (e : Ending) (w' : World) : Prop :=
  match r with
  | .ok p => e = .returned (.string (t p)) ∧ Rr g S p d w' ∧ Only g w w'
  | .no c p => e = .panicked (flt c p) ∧ Only g w w'
theorem dg_two (g : Nat) (S : ByteArray) (p d : Nat) (w : World) (h : Rr g S p d w) (hS : S.size ≤ 65536) :
    (∃ q, dgP (Sums.bl S) p = .ok q ∧ Calls Tryz.prog 162 #[.pointer (some ⟨g, 0, none⟩)] w fun e w' => e = .returned (.tuple #[]) ∧ Rr g S q d w' ∧ Only g w w') ∨
    (∃ c q, dgP (Sums.bl S) p = .no c q ∧ Calls Tryz.prog 162 #[.pointer (some ⟨g, 0, none⟩)] w fun e w' => e = .panicked (flt c q) ∧ Only g w w') := by
  have q := digits_any g S p d w h hS
  cases hd : dgP (Sums.bl S) p with
  | ok a => rw [hd] at q; exact .inl ⟨a, rfl, q⟩
  | no c a => rw [hd] at q; exact .inr ⟨c, a, rfl, q⟩
theorem Rr.below {g B : Nat} {S : ByteArray} {p d : Nat} {a b : World} (k : Rr g S p d a) (hb : Below B a b) (hg : g < B) : Rr g S p d b := ⟨(hb.block g hg).trans k.row, k.le⟩
theorem take_b (g : Nat) (S : ByteArray) (p d c : Nat) (b : Bool) (w : World) (h : Rr g S p d w) (hS : S.size ≤ 65536) (hl : rngO c c ((Sums.bl S).drop p) = b) :
    Calls Tryz.prog 125 #[.pointer (some ⟨g, 0, none⟩), .int .u8 (c : Int)] w fun e w' => e = .returned (.bool b) ∧ Rr g S (adv b p) d w' ∧ Only g w w' := by
  have q := take_any g S p d c _ w h hS rfl
  rw [hl] at q
  exact q
theorem adv_le (b : Bool) (p : Nat) : p ≤ adv b p := by unfold adv; split <;> omega
theorem dgP_le {L : List Nat} {p q : Nat} (h : dgP L p = .ok q) : p < q := by
  unfold dgP at h
  split at h
  · have := (dgF_le (L.drop (p + 1)) (p + 1)).1
    simp at h
    omega
  · simp at h
theorem nm1_le {L : List Nat} {p q : Nat} (h : nm1 L p = .ok q) : p < q := by
  unfold nm1 at h
  split at h
  · simp at h; omega
  · exact dgP_le h
theorem nm2_le {L : List Nat} {p q : Nat} (h : nm2 L p = .ok q) : p ≤ q := by
  unfold nm2 at h
  split at h
  · have := dgP_le h; omega
  · simp at h; omega
theorem nmS_le (L : List Nat) (p : Nat) : p ≤ nmS L p := by
  unfold nmS
  split
  · omega
  · exact adv_le _ _
theorem nm3_le {L : List Nat} {p q : Nat} (h : nm3 L p = .ok q) : p ≤ q := by
  unfold nm3 at h
  have hs := nmS_le L (p + 1)
  split at h
  · have := dgP_le h; omega
  · split at h
    · have := dgP_le h; omega
    · simp at h; omega
theorem bind_ok {r : Rs} {k : Nat → Rs} {q : Nat} (h : r.bind k = .ok q) : ∃ a, r = .ok a ∧ k a = .ok q := by
  cases r with
  | ok a => exact ⟨a, rfl, h⟩
  | no c a => cases h
theorem nmP_lt {L : List Nat} {p q : Nat} (h : nmP L p = .ok q) : p < q := by
  obtain ⟨a, h1, h2⟩ := bind_ok h
  obtain ⟨b, h3, h4⟩ := bind_ok h2
  have x1 := nm1_le h1
  have x0 : p ≤ nm0 L p := adv_le _ _
  have x2 := nm2_le h3
  have x3 := nm3_le h4
  omega
theorem nmP_le {L : List Nat} {p q : Nat} (h : nmP L p = .ok q) : p ≤ q := Nat.le_of_lt (nmP_lt h)
theorem ob_slice (s : ByteArray) (a z : Nat) (W : World) (h : a ≤ z) (h2 : z ≤ s.size) : (Instr.slice 9 (.string s) (some (.int .i64 (a : Int))) (some (.int .i64 (z : Int))) none).run Tryz.prog W = .ok (.string (s.extract a z)) W := by
  have e1 : ((z : Int)).toNat = z := by omega
  have e3 : (z : Int) ≤ (s.size : Int) := by omega
  have e5 : (0 : Int) ≤ (z : Int) := by omega
  simp [go_sem, Instr.slice, e3, e5, h]
set_option maxRecDepth 100000 in
set_option maxHeartbeats 8000000 in
theorem number_any (g : Nat) (S : ByteArray) (p d : Nat) (w : World) (h : Rr g S p d w) (hS : S.size ≤ 65536) :
    Calls Tryz.prog 131 #[.pointer (some ⟨g, 0, none⟩)] w ((nmP (Sums.bl S) p).PostS (fun q => S.extract p q) g S d w) := by
  obtain ⟨c0, c1, c2, f1, f2⟩ := h.cells
  have HS := Hid.mk' hS
  have HR := Hid.mk' h
  obtain ⟨r, hr⟩ : ∃ r, nmP (Sums.bl S) p = r := ⟨_, rfl⟩
  rw [hr]
  unfold nmP at hr
  obtain ⟨q, hq⟩ : ∃ q, nm0 (Sums.bl S) p = q := ⟨_, rfl⟩
  rw [hq] at hr
  have H0 := Hid.mk' hr
  have HQ := Hid.mk' hq
  have HX0 : Hid ((nm1 (Sums.bl S) (nm0 (Sums.bl S) p)).bind (fun a => (nm2 (Sums.bl S) a).bind fun b => nm3 (Sums.bl S) b) = r) := Hid.mk' (by rw [hq]; exact hr)
  clear h hS hr hq
  go_enter Tryz.func131, Tryz.ntmps131
  go_wp2_with fail
  refine (take_b g S p d 45 _ _ HR.out HS.out rfl).mono ?_
  rintro e w1 ⟨rfl, hr1, ho1⟩
  have H1 : Hid (Rr g S q d w1 ∧ Only g w w1) := ⟨by rw [← HQ.out]; exact hr1, ho1⟩
  clear hr1 ho1 c0 c1 c2 f1 f2 HR HQ
  go_wp2_with fail
  obtain ⟨b, hb⟩ : ∃ b, rngO 48 48 ((Sums.bl S).drop q) = b := ⟨_, rfl⟩
  refine (take_b g S q d 48 b _ H1.out.1 HS.out hb).mono ?_
  rintro e w2 ⟨rfl, hr1, ho1⟩
  have H2 : Hid (Rr g S (adv b q) d w2 ∧ Only g w w2) := ⟨hr1, H1.out.2.trans ho1⟩
  have HE : Hid (nm1 (Sums.bl S) q = if b = true then .ok (q + 1) else dgP (Sums.bl S) q) := Hid.mk' (by unfold nm1; rw [hb])
  clear hr1 ho1 hb H1
  go_upto_if 12 with fail
  go_cut [] (fun wc => ∃ a, Hid (nm1 (Sums.bl S) q = .ok a) ∧ Hid (Rr g S a d wc ∧ Only g w wc))
  case first =>
    cases b
    · go_wp2_with fail
      rcases dg_two g S q d _ H2.out.1 HS.out with ⟨a, ha, hc⟩ | ⟨c, a, ha, hc⟩
      · refine hc.mono ?_
        rintro e w3 ⟨rfl, hr1, ho1⟩
        have H3 : Hid (Rr g S a d w3 ∧ Only g w w3) := ⟨hr1, H2.out.2.trans ho1⟩
        have HA : Hid (nm1 (Sums.bl S) q = .ok a) := Hid.mk' (HE.out.trans ha)
        clear hr1 ho1 hc ha
        go_wp2_with fail
        go_meet
        exact ⟨a, HA, H3⟩
      · refine hc.mono ?_
        rintro e w3 ⟨rfl, ho1⟩
        have hr := H0.out
        rw [show nm1 (Sums.bl S) q = .no c a from HE.out.trans ha] at hr
        have hr2 : Rs.no c a = r := hr
        subst hr2
        exact ⟨rfl, rfl, H2.out.2.trans ho1⟩
    · go_wp2_with fail
      go_meet
      exact ⟨q + 1, HE, H2⟩
  case rest =>
    obtain ⟨a, HA, H3⟩ := hcut
    have hr := H0.out
    rw [HA.out] at hr
    have HRa : Hid ((nm2 (Sums.bl S) a).bind (fun b => nm3 (Sums.bl S) b) = r) := hr
    clear hr H0 HA H2 HE
    rename World => wa
    go_wp2_with fail
    obtain ⟨b, hb⟩ : ∃ b, rngO 46 46 ((Sums.bl S).drop a) = b := ⟨_, rfl⟩
    refine (take_b g S a d 46 b _ H3.out.1 HS.out hb).mono ?_
    rintro e w2 ⟨rfl, hr1, ho1⟩
    have H2 : Hid (Rr g S (adv b a) d w2 ∧ Only g w w2) := ⟨hr1, H3.out.2.trans ho1⟩
    have HE : Hid (nm2 (Sums.bl S) a = if b = true then dgP (Sums.bl S) (a + 1) else .ok a) := Hid.mk' (by unfold nm2; rw [hb])
    clear hr1 ho1 hb H3
    go_upto_if 16 with fail
    go_cut [] (fun wc => ∃ z, Hid (nm2 (Sums.bl S) a = .ok z) ∧ Hid (Rr g S z d wc ∧ Only g w wc))
    case first =>
      cases b
      · go_wp2_with fail
        go_meet
        exact ⟨a, HE, H2⟩
      · go_wp2_with fail
        rcases dg_two g S (a + 1) d _ H2.out.1 HS.out with ⟨z, ha, hc⟩ | ⟨c, z, ha, hc⟩
        · refine hc.mono ?_
          rintro e w3 ⟨rfl, hr1, ho1⟩
          have H3 : Hid (Rr g S z d w3 ∧ Only g w w3) := ⟨hr1, H2.out.2.trans ho1⟩
          have HA : Hid (nm2 (Sums.bl S) a = .ok z) := Hid.mk' (HE.out.trans ha)
          clear hr1 ho1 hc ha
          go_wp2_with fail
          go_meet
          exact ⟨z, HA, H3⟩
        · refine hc.mono ?_
          rintro e w3 ⟨rfl, ho1⟩
          have hr := HRa.out
          rw [show nm2 (Sums.bl S) a = .no c z from HE.out.trans ha] at hr
          have hr2 : Rs.no c z = r := hr
          subst hr2
          exact ⟨rfl, rfl, H2.out.2.trans ho1⟩
    case rest =>
      obtain ⟨z, HA, H3⟩ := hcut
      have hr := HRa.out
      rw [HA.out] at hr
      have HRb : Hid (nm3 (Sums.bl S) z = r) := hr
      clear hr HRa HA H2 HE
      rename World => wb
      obtain ⟨b1, hb1⟩ : ∃ b, rngO 101 101 ((Sums.bl S).drop z) = b := ⟨_, rfl⟩
      obtain ⟨b2, hb2⟩ : ∃ b, rngO 69 69 ((Sums.bl S).drop z) = b := ⟨_, rfl⟩
      have HE : Hid (r = if b1 = true then dgP (Sums.bl S) (nmS (Sums.bl S) (z + 1)) else if b2 = true then dgP (Sums.bl S) (nmS (Sums.bl S) (z + 1)) else .ok z) := Hid.mk' (by rw [← HRb.out]; unfold nm3; rw [hb1, hb2])
      have HB1 := Hid.mk' hb1
      have HB2 := Hid.mk' hb2
      clear hb1 hb2 HRb
      go_upto_region 7 with fail
      go_cut [24] (fun v wc => ∃ b, v = .bool b ∧ Hid (r = if b = true then dgP (Sums.bl S) (nmS (Sums.bl S) (z + 1)) else .ok z) ∧ Hid (Rr g S (adv b z) d wc ∧ Only g w wc))
      case first =>
        cases b1
        · go_wp2_with fail
          refine (take_f g S z d 101 _ H3.out.1 HS.out (by exact HB1.out)).mono ?_
          rintro e w2 ⟨rfl, hr1, ho1⟩
          have H2 : Hid (Rr g S z d w2 ∧ Only g w w2) := ⟨hr1, H3.out.2.trans ho1⟩
          clear hr1 ho1
          go_wp2_with fail
          refine (take_b g S z d 69 b2 _ H2.out.1 HS.out (by exact HB2.out)).mono ?_
          rintro e w3 ⟨rfl, hr1, ho1⟩
          have H4 : Hid (Rr g S (adv b2 z) d w3 ∧ Only g w w3) := ⟨hr1, H2.out.2.trans ho1⟩
          clear hr1 ho1
          go_wp2_with fail
          go_meet
          exact ⟨b2, rfl, HE, H4⟩
        · go_wp2_with fail
          refine (take_t g S z d 101 _ H3.out.1 HS.out (by exact HB1.out)).mono ?_
          rintro e w2 ⟨rfl, hr1, ho1⟩
          have H2 : Hid (Rr g S (z + 1) d w2 ∧ Only g w w2) := ⟨hr1, H3.out.2.trans ho1⟩
          clear hr1 ho1
          go_wp2_with fail
          go_meet
          exact ⟨true, rfl, HE, H2⟩
      case rest =>
        obtain ⟨b, rfl, HF, H4⟩ := hcut
        clear H3 HE HB1 HB2
        rename World => wd
        go_upto_if 24 with fail
        go_cut [] (fun wc => ∃ y, Hid (r = .ok y) ∧ Hid (Rr g S y d wc ∧ Only g w wc))
        case first =>
          cases b
          · go_wp2_with fail
            go_meet
            exact ⟨z, HF, H4⟩
          · go_wp2_with fail
            obtain ⟨b3, hb3⟩ : ∃ b, rngO 43 43 ((Sums.bl S).drop (z + 1)) = b := ⟨_, rfl⟩
            refine (take_b g S (z + 1) d 43 b3 _ H4.out.1 HS.out hb3).mono ?_
            rintro e w2 ⟨rfl, hr1, ho1⟩
            have H5 : Hid (Rr g S (adv b3 (z + 1)) d w2 ∧ Only g w w2) := ⟨hr1, H4.out.2.trans ho1⟩
            have HX : Hid (nmS (Sums.bl S) (z + 1) = if b3 = true then z + 1 + 1 else adv (rngO 45 45 ((Sums.bl S).drop (z + 1))) (z + 1)) := Hid.mk' (by unfold nmS; rw [hb3])
            clear hr1 ho1 hb3
            go_upto_if 27 with fail
            go_cut [] (fun wc => Hid (Rr g S (nmS (Sums.bl S) (z + 1)) d wc ∧ Only g w wc))
            case first =>
              cases b3
              · go_wp2_with fail
                refine (take_b g S (z + 1) d 45 _ _ H5.out.1 HS.out rfl).mono ?_
                rintro e w3 ⟨rfl, hr1, ho1⟩
                have H6 : Hid (Rr g S (nmS (Sums.bl S) (z + 1)) d w3 ∧ Only g w w3) := ⟨by rw [HX.out]; exact hr1, H5.out.2.trans ho1⟩
                clear hr1 ho1
                go_wp2_with fail
                go_meet
                exact H6
              · have H6 : Hid (Rr g S (nmS (Sums.bl S) (z + 1)) d w2 ∧ Only g w w2) := ⟨by rw [HX.out]; exact H5.out.1, H5.out.2⟩
                go_wp2_with fail
                go_meet
                exact H6
            case rest =>
              have H6 := Hid.mk' hcut.out
              clear hcut H5 HX H4
              rename World => we
              go_wp2_with fail
              rcases dg_two g S (nmS (Sums.bl S) (z + 1)) d _ H6.out.1 HS.out with ⟨y, ha, hc⟩ | ⟨c, y, ha, hc⟩
              · refine hc.mono ?_
                rintro e w3 ⟨rfl, hr1, ho1⟩
                have H7 : Hid (Rr g S y d w3 ∧ Only g w w3) := ⟨hr1, H6.out.2.trans ho1⟩
                have HA : Hid (r = .ok y) := Hid.mk' (HF.out.trans ha)
                clear hr1 ho1 hc ha
                go_wp2_with fail
                go_meet
                exact ⟨y, HA, H7⟩
              · refine hc.mono ?_
                rintro e w3 ⟨rfl, ho1⟩
                have hr2 : r = Rs.no c y := HF.out.trans ha
                subst hr2
                exact ⟨rfl, rfl, H6.out.2.trans ho1⟩
        case rest =>
          obtain ⟨y, HY, H5⟩ := hcut
          clear HF H4
          rename World => wf
          have hr2 := HY.out
          subst hr2
          clear HY
          obtain ⟨c0, c1, c2, f1, f2⟩ := H5.out.1.cells
          have hyS : (y : Int) ≤ (S.size : Int) := by have := H5.out.1.le; omega
          have hpy : p ≤ y := nmP_le (by unfold nmP; exact HX0.out)
          have HLT : Hid (g < wf.heap.size) := Hid.mk' H5.out.1.lt
          have hsl : ∀ W, (Instr.slice 9 (.string S) (some (.int .i64 (p : Int))) (some (.int .i64 (y : Int))) none).run Tryz.prog W = .ok (.string (S.extract p y)) W := fun W => ob_slice S p y W hpy H5.out.1.le
          have HSZ : Hid ((S.extract p y).size ≤ 281474976710656) := Hid.mk' (by rw [ByteArray.size_extract]; have := HS.out; omega)
          obtain ⟨t, ht⟩ : ∃ t, S.extract p y = t := ⟨_, rfl⟩
          rw [ht] at hsl HSZ
          have HTT := Hid.mk' ht
          clear ht
          go_wp2_with fail
          go_region_held3 (fun w' => w'.cell? ⟨g, 0, none⟩ = some (.string S) ∧ w'.cell? ⟨g, 1, none⟩ = some (.int .i64 (y : Int))) (first | go_keep | exact ⟨k0, k1⟩)
            ((first | (go_at_call 25; refine (clone_any t _ HSZ.out).mono ?_; rintro e w3 ⟨rfl, hb3⟩; have k0 := (hb3.cell (p := ⟨g, 0, none⟩) (by exact HLT.out)).trans c0; have k1 := (hb3.cell (p := ⟨g, 1, none⟩) (by exact HLT.out)).trans c1; have HB3 := Hid.mk' hb3; clear hb3)))
          go_wp2_with fail
          go_ret
          refine ⟨ret_str HTT.out.symm, ?_, ?_⟩
          · exact (show Rr g S y d wf.drew from ⟨H5.out.1.row, H5.out.1.le⟩).below HB3.out HLT.out
          · have hod : Only g w wf.drew := ⟨H5.out.2.os, H5.out.2.tape, H5.out.2.output, H5.out.2.size, H5.out.2.block⟩
            exact hod.trans (Only.of_below HB3.out)
end Go.Proofs.YtkplbggefiemdaaGreatDoor

namespace Go.Proofs.YtkplbggefiemdaaGreatDoor
open Go.RowKit
set_option linter.unusedVariables false
def rowsC : Array Value := #[.int .u8 194, .int .u8 223, .int .u8 128, .int .u8 191, .int .i64 0, .int .u8 224, .int .u8 224, .int .u8 160, .int .u8 191, .int .i64 1, .int .u8 225, .int .u8 236, .int .u8 128, .int .u8 191, .int .i64 1, .int .u8 237, .int .u8 237, .int .u8 128, .int .u8 159, .int .i64 1, .int .u8 238, .int .u8 239, .int .u8 128, .int .u8 191, .int .i64 1, .int .u8 240, .int .u8 240, .int .u8 144, .int .u8 191, .int .i64 2, .int .u8 241, .int .u8 243, .int .u8 128, .int .u8 191, .int .i64 2, .int .u8 244, .int .u8 244, .int .u8 128, .int .u8 143, .int .i64 2]
/-- the table of rows -/
structure RwT (w : World) : Prop where
  ex : ∃ t f, w.heap[6]? = some (.cells rowsC t f)
theorem RwT.lt {w : World} (h : RwT w) : 6 < w.heap.size := by
  obtain ⟨t, f, h⟩ := h.ex
  exact (Array.getElem?_eq_some_iff.1 h).1
theorem RwT.below {B : Nat} {a b : World} (k : RwT a) (hb : Below B a b) (hg : 6 < B) : RwT b := by
  obtain ⟨t, f, h⟩ := k.ex
  exact ⟨t, f, (hb.block 6 hg).trans h⟩
theorem RwT.only {g : Nat} {a b : World} (k : RwT a) (hb : Only g a b) (hg : g ≠ 6) : RwT b := by
  obtain ⟨t, f, h⟩ := k.ex
  exact ⟨t, f, (hb.block 6 k.lt (fun e => hg e.symm)).trans h⟩
def rowV (i : Nat) : Nat × Nat × Nat × Nat × Nat := if i = 0 then (194, 223, 128, 191, 0) else if i = 1 then (224, 224, 160, 191, 1) else if i = 2 then (225, 236, 128, 191, 1) else if i = 3 then (237, 237, 128, 159, 1) else if i = 4 then (238, 239, 128, 191, 1) else if i = 5 then (240, 240, 144, 191, 2) else if i = 6 then (241, 243, 128, 191, 2) else (244, 244, 128, 143, 2)
theorem ri0 (W : World) : (Instr.index 180 (.agg rowsC) (.int .i64 0)).run Tryz.prog W = .ok (.agg #[.int .u8 194, .int .u8 223, .int .u8 128, .int .u8 191, .int .i64 0]) W := by kernel_rfl
theorem ri1 (W : World) : (Instr.index 180 (.agg rowsC) (.int .i64 1)).run Tryz.prog W = .ok (.agg #[.int .u8 224, .int .u8 224, .int .u8 160, .int .u8 191, .int .i64 1]) W := by kernel_rfl
theorem ri2 (W : World) : (Instr.index 180 (.agg rowsC) (.int .i64 2)).run Tryz.prog W = .ok (.agg #[.int .u8 225, .int .u8 236, .int .u8 128, .int .u8 191, .int .i64 1]) W := by kernel_rfl
theorem ri3 (W : World) : (Instr.index 180 (.agg rowsC) (.int .i64 3)).run Tryz.prog W = .ok (.agg #[.int .u8 237, .int .u8 237, .int .u8 128, .int .u8 159, .int .i64 1]) W := by kernel_rfl
theorem ri4 (W : World) : (Instr.index 180 (.agg rowsC) (.int .i64 4)).run Tryz.prog W = .ok (.agg #[.int .u8 238, .int .u8 239, .int .u8 128, .int .u8 191, .int .i64 1]) W := by kernel_rfl
theorem ri5 (W : World) : (Instr.index 180 (.agg rowsC) (.int .i64 5)).run Tryz.prog W = .ok (.agg #[.int .u8 240, .int .u8 240, .int .u8 144, .int .u8 191, .int .i64 2]) W := by kernel_rfl
theorem ri6 (W : World) : (Instr.index 180 (.agg rowsC) (.int .i64 6)).run Tryz.prog W = .ok (.agg #[.int .u8 241, .int .u8 243, .int .u8 128, .int .u8 191, .int .i64 2]) W := by kernel_rfl
theorem ri7 (W : World) : (Instr.index 180 (.agg rowsC) (.int .i64 7)).run Tryz.prog W = .ok (.agg #[.int .u8 244, .int .u8 244, .int .u8 128, .int .u8 143, .int .i64 2]) W := by kernel_rfl
theorem row_idx (i : Nat) (h : i < 8) : ∃ a b c d m : Nat, 194 ≤ a ∧ ∀ W, (Instr.index 180 (.agg rowsC) (.int .i64 (i : Int))).run Tryz.prog W = .ok (.agg #[.int .u8 (a : Int), .int .u8 (b : Int), .int .u8 (c : Int), .int .u8 (d : Int), .int .i64 (m : Int)]) W := by
  rcases (show i = 0 ∨ i = 1 ∨ i = 2 ∨ i = 3 ∨ i = 4 ∨ i = 5 ∨ i = 6 ∨ i = 7 by omega) with rfl | rfl | rfl | rfl | rfl | rfl | rfl | rfl
  · exact ⟨194, 223, 128, 191, 0, by decide, ri0⟩
  · exact ⟨224, 224, 160, 191, 1, by decide, ri1⟩
  · exact ⟨225, 236, 128, 191, 1, by decide, ri2⟩
  · exact ⟨237, 237, 128, 159, 1, by decide, ri3⟩
  · exact ⟨238, 239, 128, 191, 1, by decide, ri4⟩
  · exact ⟨240, 240, 144, 191, 2, by decide, ri5⟩
  · exact ⟨241, 243, 128, 191, 2, by decide, ri6⟩
  · exact ⟨244, 244, 128, 143, 2, by decide, ri7⟩
/-- no character of several bytes begins here -/
def low : List Nat → Bool
  | x :: r => decide (x < 194)
  | [] => true
theorem low_rng {l : List Nat} (h : low l = true) (a b : Nat) (ha : 194 ≤ a) : rngO a b l = false := by
  cases l with
  | nil => rfl
  | cons x r =>
    simp [low] at h
    simp only [rngO]
    rw [Bool.and_eq_false_iff]
    exact .inl (by simp; omega)
theorem sizeRows : (Tryz.prog.info? 180).map (·.size) = some 40 := by kernel_rfl
set_option maxRecDepth 100000 in
set_option maxHeartbeats 4000000 in
theorem several_f (g : Nat) (S : ByteArray) (p d : Nat) (w : World) (h : Rr g S p d w) (hS : S.size ≤ 65536) (hg : g ≠ 6) (ht : RwT w) (hl : low ((Sums.bl S).drop p) = true) :
    Calls Tryz.prog 155 #[.pointer (some ⟨g, 0, none⟩)] w fun e w' => e = .returned (.bool false) ∧ Rr g S p d w' ∧ Only g w w' := by
  have HS := Hid.mk' hS
  have HR := Hid.mk' h
  have HL := Hid.mk' hl
  obtain ⟨t, f, hrow⟩ := ht.ex
  have HM := Hid.mk' hrow
  clear h hS hl ht hrow
  go_enter Tryz.func155, Tryz.ntmps155
  go_wp2_with (first | (refine wpList_load_row rfl 180 _ rfl 6 rfl _ rowsC _ _ HM.out Tryz.underlying180 rfl (by kernel_rfl) ?_) | fail)
  go_loopw [6] (fun iv wr => ∃ i : Nat, iv = .int .i64 ((i : Nat) : Int) ∧ i ≤ 8 ∧ Hid (Rr g S p d wr ∧ Only g w wr)) (fun iv _ => 8 - (intOf iv).toNat)
  case atStart => exact ⟨0, rfl, by omega, ⟨HR.out, Only.refl _ _⟩⟩
  case round =>
    obtain ⟨i, rfl, hi, H⟩ := hrel
    by_cases hi8 : i < 8
    · have hiI : (i : Int) < 8 := by omega
      obtain ⟨a, b, c, dd, m, ha, hidx⟩ := row_idx i hi8
      have HRF : Hid (rngO a b ((Sums.bl S).drop p) = false) := Hid.mk' (low_rng HL.out a b ha)
      have HA : Hid (∀ o : Obj, Rr g S p d (wr.alloc o) ∧ Only g w (wr.alloc o)) := Hid.mk' (fun o => ⟨H.out.1.below ((Below.refl wr.heap.size wr).alloc (Nat.le_refl _) _) H.out.1.lt, H.out.2.alloc o⟩)
      have HC := Hid.mk' (fun w h => takeOf_any g S p d a b _ w h HS.out rfl)
      rw [HRF.out] at HC
      clear ha HRF HL HR HM
      go_wp2_with fail
      refine (HC.out _ (HA.out _).1).mono ?_
      rintro e w2 ⟨rfl, hr1, ho1⟩
      have H2 : Hid (Rr g S p d w2 ∧ Only g w w2) := ⟨hr1, (HA.out _).2.trans ho1⟩
      clear hr1 ho1 HC HA
      go_wp2_with fail
      go_roundw
      case rel => exact ⟨i + 1, by simp, by omega, H2⟩
      case measure => simp [intOf]; omega
    · obtain rfl : i = 8 := by omega
      go_wp2_with fail
      go_ret
      exact ⟨rfl, H.out⟩
/-- a byte that means itself -/
def sgl : List Nat → Bool
  | x :: r => decide (32 ≤ x ∧ x ≤ 127 ∧ x ≠ 34 ∧ x ≠ 92)
  | [] => false
set_option maxRecDepth 100000 in
set_option maxHeartbeats 4000000 in
theorem single_any (g : Nat) (S : ByteArray) (p d : Nat) (b : Bool) (w : World) (h : Rr g S p d w) (hS : S.size ≤ 65536) (hl : sgl ((Sums.bl S).drop p) = b) :
    Calls Tryz.prog 154 #[.pointer (some ⟨g, 0, none⟩)] w fun e w' => e = .returned (.bool b) ∧ Rr g S (adv b p) d w' ∧ Only g w w' := by
  have HS := Hid.mk' hS
  have HR := Hid.mk' h
  have HI := fun c => is_any g S p d c _ w h hS rfl
  have H34 := Hid.mk' (HI 34)
  have H92 : Hid (∀ n, Calls Tryz.prog 126 #[.pointer (some ⟨g, 0, none⟩), .int .u8 ((92 : Nat) : Int)] (w.drewN n) fun e w' => e = .returned (.bool (hasO 92 ((Sums.bl S).drop p))) ∧ ∃ m, w' = (w.drewN n).drewN m) := Hid.mk' (fun n => is_any g S p d 92 _ _ (h.drewN n) hS rfl)
  have HT := Hid.mk' (fun w h => takeOf_any g S p d 32 127 _ w h hS rfl)
  obtain ⟨b1, hb1⟩ : ∃ b, hasO 34 ((Sums.bl S).drop p) = b := ⟨_, rfl⟩
  obtain ⟨b2, hb2⟩ : ∃ b, hasO 92 ((Sums.bl S).drop p) = b := ⟨_, rfl⟩
  obtain ⟨b3, hb3⟩ : ∃ b, rngO 32 127 ((Sums.bl S).drop p) = b := ⟨_, rfl⟩
  have hbb : b = (!b1 && (!b2 && b3)) := by
    rw [← hl, ← hb1, ← hb2, ← hb3]
    cases (Sums.bl S).drop p with
    | nil => rfl
    | cons x r =>
      simp only [sgl, hasO, rngO]
      rw [Bool.eq_iff_iff]
      simp
      omega
  rw [hb1] at H34
  rw [hb2] at H92
  rw [hb3] at HT
  have HO : Hid (∀ n, Rr g S p d (w.drewN n) ∧ Only g w (w.drewN n)) := Hid.mk' (fun n => ⟨h.drewN n, (Only.refl _ _).drewN n⟩)
  clear h hS hl HI hb1 hb2 hb3
  subst hbb
  cases b1
  · cases b2
    · go_enter Tryz.func154, Tryz.ntmps154
      go_wp2_with fail
      refine H34.out.mono ?_
      rintro e w1 ⟨rfl, n, rfl⟩
      go_wp2_with fail
      refine (H92.out n).mono ?_
      rintro e w2 ⟨rfl, m, hw⟩
      have H2 : Hid (Rr g S p d w2 ∧ Only g w w2) := Hid.mk' (by rw [hw]; exact ⟨(HO.out n).1.drewN m, (HO.out n).2.drewN m⟩)
      clear hw
      go_wp2_with fail
      refine (HT.out _ H2.out.1).mono ?_
      rintro e w3 ⟨rfl, hr1, ho1⟩
      have H3 : Hid (Rr g S (adv b3 p) d w3 ∧ Only g w w3) := ⟨hr1, H2.out.2.trans ho1⟩
      clear hr1 ho1
      go_wp2_with fail
      go_ret
      exact ⟨rfl, H3.out⟩
    · go_enter Tryz.func154, Tryz.ntmps154
      go_wp2_with fail
      refine H34.out.mono ?_
      rintro e w1 ⟨rfl, n, rfl⟩
      go_wp2_with fail
      refine (H92.out n).mono ?_
      rintro e w2 ⟨rfl, m, hw⟩
      have H2 : Hid (Rr g S p d w2 ∧ Only g w w2) := Hid.mk' (by rw [hw]; exact ⟨(HO.out n).1.drewN m, (HO.out n).2.drewN m⟩)
      clear hw
      go_wp2_with fail
      go_ret
      exact ⟨rfl, H2.out⟩
  · go_enter Tryz.func154, Tryz.ntmps154
    go_wp2_with fail
    refine H34.out.mono ?_
    rintro e w1 ⟨rfl, n, rfl⟩
    go_wp2_with fail
    go_ret
    exact ⟨rfl, HO.out n⟩
end Go.Proofs.YtkplbggefiemdaaGreatDoor

namespace Go.Proofs.YtkplbggefiemdaaGreatDoor
open Go.RowKit
set_option linter.unusedVariables false
theorem own_keptO {w w' : World} {base n sz : Nat} {e : TypeId} {v : Value} {xs : List Value} (h : w.ownsRow base e sz v n xs) (hb : ∀ k, v.ownBlock = some k → w'.heap[k]? = w.heap[k]?) : w'.ownsRow base e sz v n xs := by
  refine ⟨h.1, ?_⟩
  rcases h.2 with h2 | ⟨g, cap, cur, rfl, h3, h4, h5⟩
  · exact .inl h2
  · exact .inr ⟨g, cap, cur, rfl, h3, (hb g rfl).trans h4, h5⟩
theorem strCells_byvO (s : ByteArray) : Lib.strCells s = byv (Sums.bl s) := by
  unfold Lib.strCells byv Sums.bl
  rw [List.map_map]
  rfl
/-- an append of a text, at a step of a region that draws its order -/
theorem step_append_str {P : Program} {w : World} {ops : Array Oper} {o : Oper} {a : Act} {K : Act → World → Prop} {Q : Exit → Act → World → Prop} {E : Prop} (hgd : o.guard = none) (sl x : Operand) (t u : TypeId)
    (ho : o.op = .call { callee := .builtin .append, args := #[sl, x], argTypes := #[t, u] })
    (base : Nat) (e : TypeId) (i : TypeInfo) (ht : P.underlying t = some (.slice e)) (hu : P.underlying u = some .string) (hi : P.info? e = some i) (hz : i.zero = some (.int .u8 0))
    (hsize : i.size = 1) (hby : i.bytes = 1)
    (v : Value) (n : Nat) (xs : List Value) (hs : a.eval sl = v) (hown : w.ownsRow base e 1 v n xs) (s : ByteArray) (hx : a.eval x = .string s)
    (h63 : n + s.size ≤ maxLen) (hbytes : n + s.size ≤ 140737488355328) (hbase : base ≤ w.heap.size)
    (h : ∀ v' w', w'.ownsRow base e 1 v' (n + s.size) (xs ++ Lib.strCells s) → w.grownBy w' v.ownBlock → K (a.put o.dst v') w') :
    if Region.wanted o (yielded ops a.tmps) = true then Oper.wp P o a w K Q else E := by
  have hw : Region.wanted o (yielded ops a.tmps) = true := by simp [Region.wanted, hgd]
  rw [if_pos hw]
  obtain ⟨v', w', hr, h2, h3, h4⟩ := Lib.run_append_own_string (P := P) w base t u o.type e i ht hu hi hz hsize hby v n xs hown s h63 hbytes hbase
  unfold Oper.wp execOp
  simp only [ho, resolve, invoke, builtin, Sem.run_bind, Sem.run_pure, Result.andThen_ok, List.map_toArray, List.map_cons, List.map_nil, hs, hx, hr]
  exact h v' w' h2 h3
/-- where a text without strokes, of bytes below 128, is closed -/
def qtF : List Nat → Nat → Option Nat
  | [], _ => none
  | x :: r, p => if x = 34 then some p else if 32 ≤ x ∧ x ≤ 127 ∧ x ≠ 92 then qtF r (p + 1) else none
theorem qt_round (L : List Nat) (q z : Nat) (h : qtF (L.drop q) q = some z) : (sgl (L.drop q) = true ∧ qtF (L.drop (q + 1)) (q + 1) = some z ∧ (L.drop (q + 1)).length < (L.drop q).length) ∨ (q = z ∧ sgl (L.drop q) = false ∧ low (L.drop q) = true ∧ rngO 34 34 (L.drop q) = true) := by
  cases hq : L.drop q with
  | nil => rw [hq] at h; cases h
  | cons x r =>
    have hn : L.drop (q + 1) = r := by rw [← List.drop_drop, hq]; rfl
    rw [hq, qtF] at h
    by_cases h1 : x = 34
    · rw [if_pos h1] at h
      subst h1
      exact .inr ⟨by simpa using h, rfl, rfl, rfl⟩
    · rw [if_neg h1] at h
      by_cases h2 : 32 ≤ x ∧ x ≤ 127 ∧ x ≠ 92
      · rw [if_pos h2] at h
        refine .inl ⟨?_, by rw [hn]; exact h, by rw [hn]; simp⟩
        simp [sgl]
        omega
      · rw [if_neg h2] at h
        cases h
theorem qtF_le : ∀ (l : List Nat) (p z : Nat), qtF l p = some z → p ≤ z
  | [], p, z, h => by cases h
  | x :: r, p, z, h => by
    rw [qtF] at h
    split at h
    · simp at h; omega
    · split at h
      · have := qtF_le r (p + 1) z h; omega
      · cases h
set_option maxRecDepth 100000 in
set_option maxHeartbeats 8000000 in
theorem quoted_plain (g : Nat) (S : ByteArray) (p z d : Nat) (w : World) (h : Rr g S p d w) (hS : S.size ≤ 65536) (hg : g ≠ 6) (ht : RwT w) (h34 : rngO 34 34 ((Sums.bl S).drop p) = true) (hz : qtF ((Sums.bl S).drop (p + 1)) (p + 1) = some z) :
    Calls Tryz.prog 128 #[.pointer (some ⟨g, 0, none⟩)] w fun e w' => e = .returned (.string (S.extract (p + 1) z)) ∧ Rr g S (z + 1) d w' ∧ Only g w w' := by
  have HS := Hid.mk' hS
  have HT := Hid.mk' (need_any g S p d 34 _ w h hS rfl)
  rw [h34] at HT
  have HZ := Hid.mk' hz
  have HG := Hid.mk' hg
  have HW := Hid.mk' ht
  have hpz := qtF_le _ _ _ hz
  have HPZ := Hid.mk' hpz
  obtain ⟨t, htx⟩ : ∃ t, S.extract (p + 1) z = t := ⟨_, rfl⟩
  rw [htx]
  have HTX := Hid.mk' htx
  have hg0 := h.lt
  obtain ⟨a, ha⟩ : ∃ a, p + 1 = a := ⟨_, rfl⟩
  rw [ha] at HZ HPZ HTX
  have HT2 : Hid (Calls Tryz.prog 153 #[.pointer (some ⟨g, 0, none⟩), .int .u8 34] w fun e w' => e = .returned (.tuple #[]) ∧ Rr g S a d w' ∧ Only g w w') := Hid.mk' (by rw [← ha]; exact HT.out)
  clear h hS h34 hz hg ht htx HT ha hpz
  go_enter Tryz.func128, Tryz.ntmps128
  go_wp2_with fail
  refine HT2.out.mono ?_
  rintro e w1 ⟨rfl, hr1, ho1⟩
  have H1 := Hid.mk' (And.intro hr1 ho1)
  clear hr1 ho1 HT2
  go_wp2_with fail
  go_loopg [3] 1 (fun k mv wr => mv = .slice none 0 0 ∧ Hid (Rr g S a d wr ∧ Only g w wr))
  case atStart => exact ⟨rfl, H1⟩
  case round =>
    obtain ⟨rfl, H2⟩ := hrel
    clear H1
    rename World => wo
    obtain ⟨c0, c1, c2, f1, f2⟩ := H2.out.1.cells
    go_wp2_with fail
    clear c0 c1 c2 f1 f2
    go_loopg [] ((Sums.bl S).drop a).length (fun k wr => ∃ q : Nat, Hid (((Sums.bl S).drop q).length = k ∧ qtF ((Sums.bl S).drop q) q = some z) ∧ Hid (Rr g S q d wr ∧ Only g w wr))
    case atStart => exact ⟨a, ⟨rfl, HZ.out⟩, H2⟩
    case round =>
      obtain ⟨q, HK, H⟩ := hrel
      clear H2
      rename World => wi
      rcases qt_round (Sums.bl S) q z HK.out.2 with ⟨hs, hb, hlt⟩ | ⟨rfl, hs, hlo, hq⟩
      · have HB := Hid.mk' (And.intro hb hlt)
        have HSG := Hid.mk' hs
        clear hb hlt hs
        go_wp2_with fail
        refine (single_any g S q d true _ H.out.1 HS.out HSG.out).mono ?_
        rintro e w2 ⟨rfl, hr1, ho1⟩
        have H3 : Hid (Rr g S (q + 1) d w2 ∧ Only g w w2) := ⟨hr1, H.out.2.trans ho1⟩
        clear hr1 ho1
        go_wp2_with fail
        go_roundg ((Sums.bl S).drop (q + 1)).length
        case measure => have := HK.out.1; have := HB.out.2; omega
        case rel => exact ⟨q + 1, ⟨rfl, HB.out.1⟩, H3⟩
      · have HSG := Hid.mk' hs
        have HLO := Hid.mk' hlo
        have HQ34 := Hid.mk' hq
        clear hs hlo hq
        go_wp2_with fail
        refine (single_any g S q d false _ H.out.1 HS.out HSG.out).mono ?_
        rintro e w2 ⟨rfl, hr1, ho1⟩
        have H3 : Hid (Rr g S q d w2 ∧ Only g w w2) := ⟨hr1, H.out.2.trans ho1⟩
        clear hr1 ho1
        go_wp2_with fail
        refine (several_f g S q d _ H3.out.1 HS.out HG.out (HW.out.only H3.out.2 HG.out) HLO.out).mono ?_
        rintro e w3 ⟨rfl, hr1, ho1⟩
        have H4 : Hid (Rr g S q d w3 ∧ Only g w w3) := ⟨hr1, H3.out.2.trans ho1⟩
        clear hr1 ho1 H3
        go_wp2_with fail
        obtain ⟨c0, c1, c2, f1, f2⟩ := H4.out.1.cells
        have hlt3 := H4.out.1.lt
        have HLT := Hid.mk' hlt3
        have hsl : ∀ W, (Instr.slice 9 (.string S) (some (.int .i64 (a : Int))) (some (.int .i64 (q : Int))) none).run Tryz.prog W = .ok (.string t) W := fun W => by rw [← HTX.out]; exact ob_slice S a q W HPZ.out H4.out.1.le
        have hts : t.size ≤ 65536 := by rw [← HTX.out, ByteArray.size_extract]; have := HS.out; omega
        have HTS := Hid.mk' hts
        have hqS : (q : Int) ≤ (S.size : Int) := by have := H4.out.1.le; omega
        obtain ⟨i0, hi, hz0, hz1, hz2⟩ : ∃ i, Tryz.prog.info? 5 = some i ∧ i.zero = some (.int .u8 0) ∧ i.size = 1 ∧ i.bytes = 1 := ⟨_, rfl, rfl, rfl, rfl⟩
        have HNIL : Hid (∀ W : World, W.ownsRow w3.heap.size 5 1 (.slice none 0 0) 0 []) := Hid.mk' (fun W => ⟨rfl, .inl ⟨rfl, rfl⟩⟩)
        clear hlt3 hts
        go_region_held3 (fun w' => w'.cell? ⟨g, 0, none⟩ = some (.string S) ∧ w'.cell? ⟨g, 1, none⟩ = some (.int .i64 (q : Int))) (first | go_keep | exact ⟨k0, k1⟩)
          ((refine step_append_str (by rfl) _ _ _ _ (by rfl) w3.heap.size 5 i0 Tryz.underlying101 Tryz.underlying9 hi hz0 hz1 hz2 (.slice none 0 0) 0 [] (by rfl) (HNIL.out _) t (by rfl) (by unfold maxLen; have := HTS.out; omega) (by have := HTS.out; omega) (by simp) ?_; intro v5 w5 hown5 hgrow5; have k0 : w5.cell? ⟨g, 0, none⟩ = some (.string S) := (hgrow5.cell_far ⟨g, 0, none⟩ (by exact HLT.out) (by simp [Value.ownBlock])).trans c0; have k1 : w5.cell? ⟨g, 1, none⟩ = some (.int .i64 (q : Int)) := (hgrow5.cell_far ⟨g, 1, none⟩ (by exact HLT.out) (by simp [Value.ownBlock])).trans c1; have HO5 := Hid.mk' hown5; have HG5 := Hid.mk' hgrow5; clear hown5 hgrow5))
        have H5 : Hid (Rr g S q d w5 ∧ Only g w w5) := Hid.mk' (by
          have hbl := HG5.out.block g HLT.out (by simp [Value.ownBlock])
          refine ⟨⟨hbl.trans H4.out.1.row, H4.out.1.le⟩, ?_⟩
          have hod : Only g w w3.drew := ⟨H4.out.2.os, H4.out.2.tape, H4.out.2.output, H4.out.2.size, H4.out.2.block⟩
          exact hod.trans ⟨HG5.out.os, HG5.out.tape, HG5.out.output, HG5.out.size, fun k hk _ => HG5.out.block k hk (by simp [Value.ownBlock])⟩)
        have HR5 : Hid (w5.ownsRow w3.heap.size 5 1 v5 t.size (byv (Sums.bl t))) := Hid.mk' (by
          have := HO5.out
          rw [List.nil_append, Nat.zero_add, strCells_byvO] at this
          exact this)
        clear HO5 HG5 k0 k1 c0 c1 c2 f1 f2 hsl HNIL
        go_wp2_with fail
        refine (take_t g S q d 34 _ H5.out.1 HS.out HQ34.out).mono ?_
        rintro e w6 ⟨rfl, hr1, ho1⟩
        have H6 : Hid (Rr g S (q + 1) d w6 ∧ Only g w w6) := ⟨hr1, H5.out.2.trans ho1⟩
        have hcv := conv_own w3.heap.size t.size (Sums.bl t) w6 v5 (Sums.bl_length t) (own_keptO HR5.out fun k hk => ho1.block k (HR5.out.lt k hk).2 (by have := (HR5.out.lt k hk).1; have := HLT.out; omega))
        rw [nums_bl] at hcv
        clear hr1 ho1 HR5 H5
        go_wp2_with fail
        go_ret
        exact ⟨rfl, H6.out⟩
end Go.Proofs.YtkplbggefiemdaaGreatDoor

namespace Go.Proofs.YtkplbggefiemdaaGreatDoor
open Go.RowKit
set_option linter.unusedVariables false
theorem catch_idle (bf : Nat) (w : World) : CallsD Tryz.prog 64 #[.pointer (some ⟨bf, 0, none⟩)] .returning w fun e u' w' => e = .returned (.tuple #[]) ∧ u' = .returning ∧ w' = w := by
  have hne : ∀ w : World, (binOp BinOp.neq 20 .nilIface .nilIface).run Tryz.prog w = .ok (.bool false) w := fun _ => by kernel_rfl
  refine callsD_of_wpS Tryz.func64 rfl fun c₀ cs hu => ?_
  apply wpS_seq
  apply wpS_region
  simp [wpOpsS, go_sem, recoverD, hu, Tryz.ntmps64, Exit.thenS]
  apply wpS_seq
  apply wpS_region
  simp [wpOpsS, go_sem, Exit.thenS, hne]
  refine wpS_cond (t := false) (by simp [Act.eval, Array.replicate]) ?_
  simp only [Bool.false_eq_true, if_false]
  refine wpS_of_wp (wp_skip ?_)
  cases c₀
  simp_all [bodyPostS, results, Tryz.results64]
/-- a fault in attempt's box -/
def fltW (bf c p : Nat) (w : World) : World := (w.setCell ⟨bf, 0, none⟩ (.int .i64 (c : Int))).setCell ⟨bf, 1, none⟩ (.int .i64 (p : Int))
theorem catch_flt (bf c p : Nat) (w : World) (c0 : w.cell? ⟨bf, 0, none⟩ = some (.int .i64 0)) (c1 : w.cell? ⟨bf, 1, none⟩ = some (.int .i64 0)) (f0 : w.frozen? ⟨bf, 0, none⟩ = false) (f1 : w.frozen? ⟨bf, 1, none⟩ = false) :
    CallsD Tryz.prog 64 #[.pointer (some ⟨bf, 0, none⟩)] (.panicking (flt c p)) w fun e u' w' => e = .returned (.tuple #[]) ∧ u' = .panicking [{ v := .iface 63 (.agg #[.int .i64 (c : Int), .int .i64 (p : Int)]), recovered := true }] ∧ w' = fltW bf c p w := by
  have hne : ∀ (v : Value) (w : World), (binOp BinOp.neq 20 (.iface 63 v) .nilIface).run Tryz.prog w = .ok (.bool true) w := fun _ _ => by kernel_rfl
  have hta : ∀ (v : Value) (w : World), (Instr.typeAssert (.iface 63 v) 20 63 false).run Tryz.prog w = .ok v w := fun _ _ => by kernel_rfl
  unfold flt fltW
  refine callsD_of_wpS Tryz.func64 rfl fun c₀ cs hu => ?_
  apply wpS_seq
  apply wpS_region
  simp [wpOpsS, go_sem, recoverD, hu, Tryz.ntmps64, Exit.thenS]
  apply wpS_seq
  apply wpS_region
  simp [wpOpsS, go_sem, Exit.thenS, hne]
  refine wpS_cond (t := true) (by simp [Act.eval, Array.replicate]) ?_
  simp only [if_true]
  apply wpS_region
  simp [wpOpsS, go_sem, c0, c1, f0, f1, bodyPostS, results, Tryz.results64, hta]
/-- what attempt tells of a call that returns, and of one that gives up -/
inductive At where
  | ok
  | no (c p : Nat)
def At.code : At → Nat
  | .ok => 0
  | .no c _ => c
def At.place : At → Nat
  | .ok => 0
  | .no _ p => p
def At.ending : At → Ending
  | .ok => .returned (.tuple #[])
  | .no c p => .panicked (flt c p)
set_option maxHeartbeats 2000000 in
theorem attempt_any (F : FuncId) (first cap : Array Value) (r : At) (Q : World → Prop) (w : World) (hent : ∀ w, (callFunc F (first ++ cap)).run Tryz.prog w = .ok (.enter F (first ++ cap)) w)
    (hcall : ∀ w1, w1 = w.alloc (.cells #[.int .i64 0, .int .i64 0] 63) → Calls Tryz.prog F (first ++ cap) w1 fun e w' => e = r.ending ∧ w'.heap[w.heap.size]? = w1.heap[w.heap.size]? ∧ Q w') :
    Calls Tryz.prog 34 #[.func (.func F) first cap] w fun e w' => e = .returned (.agg #[.int .i64 (r.code : Int), .int .i64 (r.place : Int)]) ∧ ∃ w2, Q w2 ∧ w' = fltW w.heap.size r.code r.place w2 := by
  have hmf : ∀ (fn : Fn) (first cap : Array Value) (w : World), (Instr.makeFunc fn first cap).run Tryz.prog w = .ok (.func fn first cap) w := fun _ _ _ _ => rfl
  have HC := Hid.mk' hcall
  clear hcall
  go_enter_defers Tryz.func34, Tryz.ntmps34
  go_wp2_with fail
  refine (HC.out _ rfl).mono ?_
  rintro e w2 ⟨he, hb, hq⟩
  have hrow : w2.heap[w.heap.size]? = some (.cells #[.int .i64 0, .int .i64 0] 63 (0, 0)) := hb.trans (heap_alloc_new w _)
  have x0 : w2.cell? ⟨w.heap.size, 0, none⟩ = some (.int .i64 0) := by simp [World.cell?, hrow]
  have x1 : w2.cell? ⟨w.heap.size, 1, none⟩ = some (.int .i64 0) := by simp [World.cell?, hrow]
  have y0 : w2.frozen? ⟨w.heap.size, 0, none⟩ = false := by simp [World.frozen?, hrow]
  have y1 : w2.frozen? ⟨w.heap.size, 1, none⟩ = false := by simp [World.frozen?, hrow]
  have HQ := Hid.mk' hq
  clear hb hrow HC hq
  cases r with
  | ok =>
    have he2 : e = .returned (.tuple #[]) := he
    subst he2
    clear he
    go_wp2_with fail
    refine leaves_cons (f := 64) (args := #[.pointer (some ⟨w.heap.size, 0, none⟩)]) (by simp) (by simp [go_sem]) ?_
    refine (catch_idle _ _).mono ?_
    rintro e u' w'' ⟨rfl, rfl, rfl⟩
    simp [Leaves, settle, results, Tryz.results34, go_sem, x0, x1]
    exact ⟨⟨rfl, rfl⟩, w2, HQ.out, rfl⟩
  | no c p =>
    have he2 : e = .panicked (flt c p) := he
    subst he2
    clear he
    go_wp2_with fail
    refine leaves_cons (f := 64) (args := #[.pointer (some ⟨w.heap.size, 0, none⟩)]) (by simp) (by simp [go_sem]) ?_
    refine (catch_flt _ c p _ x0 x1 y0 y1).mono ?_
    rintro e u' w'' ⟨rfl, rfl, rfl⟩
    simp [Leaves, settle, results, Tryz.results34, go_sem, fltW, x0, x1]
    exact ⟨⟨rfl, rfl⟩, w2, HQ.out, rfl⟩
end Go.Proofs.YtkplbggefiemdaaGreatDoor
