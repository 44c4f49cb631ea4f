/-
  moment.cutPart. Conditions: a text of ASCII bytes.
-/
import Derived.Test.YthmpokndffbkdaaDoorSpA
namespace Go.Proofs.YthmpokndffbkdaaDoor
open Go.RowKit
set_option linter.unusedVariables false
/-- how many bytes ahead of the first digit -/
def unL (l : List Nat) : Nat := (l.takeWhile (fun x => !dig x)).length
theorem ixA_un (l : List Nat) : ixA l = if unL l = l.length then -1 else (unL l : Int) := by
  induction l with
  | nil => rfl
  | cons x l ih =>
    unfold unL at ih ⊢
    rw [ixA, List.takeWhile_cons]
    cases h : dig x
    · simp only [Bool.not_false, if_true, Bool.false_eq_true, if_false, List.length_cons]
      rw [ih]
      have hle : (l.takeWhile (fun x => !dig x)).length ≤ l.length := (List.takeWhile_sublist _).length_le
      by_cases e : (l.takeWhile (fun x => !dig x)).length = l.length
      · rw [if_pos e]; simp [e]
      · rw [if_neg e]
        have h3 : ¬ ((l.takeWhile (fun x => !dig x)).length + 1 = l.length + 1) := by omega
        rw [if_neg h3]
        have : ¬ (((l.takeWhile (fun x => !dig x)).length : Int) == -1) = true := by simp
        rw [if_neg this]; omega
    · simp
theorem unL_le (l : List Nat) : unL l ≤ l.length := (List.takeWhile_sublist _).length_le
def cutA (l : List Nat) : List Nat := l.takeWhile dig
def cutB (l : List Nat) : List Nat := l.dropWhile dig
theorem cut_len (l : List Nat) : (cutA l).length + (cutB l).length = l.length := by
  unfold cutA cutB
  rw [← List.length_append, List.takeWhile_append_dropWhile]
theorem take_cut (l : List Nat) : l.take (l.length - (cutB l).length) = cutA l := by
  have h : cutA l ++ cutB l = l := List.takeWhile_append_dropWhile
  have h2 := cut_len l
  conv => lhs; arg 2; rw [← h]
  rw [List.take_append_of_le_length (by omega), List.take_of_length_le (by omega)]
theorem sizePart (cs : Array Value) (h : cs.size = 2) : (Tryd.prog.info? 51).map (·.size) = some cs.size := by
  have : (Tryd.prog.info? 51).map (·.size) = some 2 := by kernel_rfl
  rw [this, h]
set_option maxRecDepth 100000 in
set_option maxHeartbeats 2000000 in
theorem cut_any (s : ByteArray) (w : World) (hs : s.size ≤ 4000000000) (ha : ∀ z ∈ Sums.bl s, z < 128) :
    Calls Tryd.prog 39 #[.string s] w fun e w' => (∃ d u r : ByteArray, Sums.bl d = cutA (Sums.bl s) ∧ Sums.bl u = (cutB (Sums.bl s)).take (unL (cutB (Sums.bl s))) ∧ Sums.bl r = (cutB (Sums.bl s)).drop (unL (cutB (Sums.bl s))) ∧ e = .returned (.tuple #[.agg #[.string d, .string u], .string r])) ∧ Below w.heap.size w w' := by
  have HT := Hid.mk' (fun w => trimL_any s w)
  have HA := Hid.mk' ha
  have hsI : (s.size : Int) ≤ 4000000000 := by omega
  clear ha
  go_enter Tryd.func39, Tryd.ntmps39
  go_wp2_with fail
  have Z0 := heap_alloc_new w (.cells #[.string ⟨#[]⟩, .string ⟨#[]⟩] 51)
  have B0 := (Below.refl w.heap.size w).alloc (Nat.le_refl _) (.cells #[.string ⟨#[]⟩, .string ⟨#[]⟩] 51)
  have S0 : w.heap.size < (w.alloc (.cells #[.string ⟨#[]⟩, .string ⟨#[]⟩] 51)).heap.size := by simp
  generalize (w.alloc _) = w0 at *
  refine (HT.out _).mono ?_
  rintro e w1 ⟨⟨t, ht, rfl⟩, hb⟩
  have Z1 := Hid.mk' ((hb.block _ S0).trans Z0)
  have B1 := Hid.mk' (B0.trans (hb.mono (Nat.le_of_lt S0)))
  have S1 : w.heap.size < w1.heap.size := Nat.lt_of_lt_of_le S0 hb.size
  have HTL := Hid.mk' ht
  have htl : t.size ≤ s.size := by
    rw [← Sums.bl_length t, ht, ← Sums.bl_length s]
    exact (List.dropWhile_sublist _).length_le
  have hat : ∀ z ∈ Sums.bl t, z < 128 := fun z hz => HA.out z (by rw [ht] at hz; exact (List.dropWhile_sublist _).subset hz)
  have HI := Hid.mk' (fun w => idxAny_any t w (by omega) hat)
  clear hb B0 S0 Z0 ht hat HT
  go_wp2_with fail
  refine (HI.out _).mono ?_
  rintro e w2 ⟨rfl, hb⟩
  have Z2 := Hid.mk' ((hb.block _ S1).trans Z1.out)
  have B2 := Hid.mk' (B1.out.trans (hb.mono (Nat.le_of_lt S1)))
  clear hb B1 Z1 HI
  rw [ixA_un]
  have hul := unL_le (Sums.bl t)
  have hbt := Sums.bl_length t
  obtain ⟨q, hq⟩ : ∃ q, unL (Sums.bl t) = q := ⟨_, rfl⟩
  rw [hq, hbt] at hul
  rw [hq, hbt]
  have HQ := Hid.mk' hq
  clear hq hbt
  obtain ⟨k, hk⟩ : ∃ k, s.size - t.size = k := ⟨_, rfl⟩
  have hkI : (s.size : Int) - (t.size : Int) = (k : Int) := by omega
  have HK := Hid.mk' hk
  have hkb : k ≤ s.size := by omega
  clear hk
  have z0 : w2.cell? ⟨w.heap.size, 0, none⟩ = some (.string ⟨#[]⟩) := by simp [World.cell?, Z2.out]
  have z1 : w2.cell? ⟨w.heap.size, 1, none⟩ = some (.string ⟨#[]⟩) := by simp [World.cell?, Z2.out]
  have f0 : w2.frozen? ⟨w.heap.size, 0, none⟩ = false := by simp [World.frozen?, Z2.out]
  have f1 : w2.frozen? ⟨w.heap.size, 1, none⟩ = false := by simp [World.frozen?, Z2.out]
  have k0 : (0 : Int) ≤ (k : Int) := by omega
  have k1 : (k : Int) ≤ (s.size : Int) := by omega
  have q0 : (0 : Int) ≤ (q : Int) := by omega
  have q1 : (q : Int) ≤ (t.size : Int) := by omega
  by_cases he : q = t.size
  · rw [if_pos he]
    subst he
    go_wp2_with fail
    go_region
    all_goals
      generalize hd : s.extract 0 k = d at *
      have g1 := only_set (o := 0) w2 (.string d) Z2.out
      have g2 := only_set (o := 1) _ (.string t) g1.2
      have hrow : ((w2.setCell ⟨w.heap.size, 0, none⟩ (.string d)).setCell ⟨w.heap.size, 1, none⟩ (.string t)).drew.heap[w.heap.size]? = some (.cells #[.string d, .string t] 51 (0, 0)) := g2.2
      have hbel : Below w.heap.size w ((w2.setCell ⟨w.heap.size, 0, none⟩ (.string d)).setCell ⟨w.heap.size, 1, none⟩ (.string t)).drew := (B2.out.trans ((g1.1.trans g2.1).below (Nat.le_refl _) B2.out.size)).drewN' 1
      clear g1 g2 z0 z1 f0 f1
      go_wp2_with fail
      generalize ((w2.setCell _ _).setCell _ _).drew = w3 at *
      have hld := run_loadVar_row (P := Tryd.prog) w3 w.heap.size _ 51 _ _ _ hrow Tryd.underlying51 rfl (sizePart _ rfl)
      refine bodyPost_ret (v := .tuple #[.agg #[.string d, .string t], .string ByteArray.empty]) ?_ rfl ⟨⟨d, t, ByteArray.empty, ?_, ?_, ?_, rfl⟩, hbel⟩
      · simp [results, Tryd.f39, asAddr, hld]
      · rw [← hd, Sums.bl_extract, List.drop_zero, ← take_cut (Sums.bl s)]
        unfold cutB
        rw [← HTL.out, Sums.bl_length, Sums.bl_length]
        first | rfl | (rw [HK.out])
      · have e := HTL.out
        unfold cutB
        rw [← e, HQ.out, List.take_of_length_le (by rw [Sums.bl_length]; exact Nat.le_refl _)]
      · have e := HTL.out
        unfold cutB
        rw [← e, HQ.out, List.drop_eq_nil_of_le (by rw [Sums.bl_length]; exact Nat.le_refl _)]
        rfl
  · rw [if_neg he]
    have hneg : ¬ (q : Int) < 0 := by omega
    go_wp2_with fail
    go_region
    all_goals
      generalize hd : s.extract 0 k = d at *
      generalize hu : t.extract 0 q = u at *
      generalize hr : t.extract q t.size = r at *
      have g1 := only_set (o := 0) w2 (.string d) Z2.out
      have g2 := only_set (o := 1) _ (.string u) g1.2
      have hrow : ((w2.setCell ⟨w.heap.size, 0, none⟩ (.string d)).setCell ⟨w.heap.size, 1, none⟩ (.string u)).drew.heap[w.heap.size]? = some (.cells #[.string d, .string u] 51 (0, 0)) := g2.2
      have hbel : Below w.heap.size w ((w2.setCell ⟨w.heap.size, 0, none⟩ (.string d)).setCell ⟨w.heap.size, 1, none⟩ (.string u)).drew := (B2.out.trans ((g1.1.trans g2.1).below (Nat.le_refl _) B2.out.size)).drewN' 1
      clear g1 g2 z0 z1 f0 f1
      go_wp2_with fail
      generalize ((w2.setCell _ _).setCell _ _).drew = w3 at *
      have hld := run_loadVar_row (P := Tryd.prog) w3 w.heap.size _ 51 _ _ _ hrow Tryd.underlying51 rfl (sizePart _ rfl)
      refine bodyPost_ret (v := .tuple #[.agg #[.string d, .string u], .string r]) ?_ rfl ⟨⟨d, u, r, ?_, ?_, ?_, rfl⟩, hbel⟩
      · simp [results, Tryd.f39, asAddr, hld]
      · rw [← hd, Sums.bl_extract, List.drop_zero, ← take_cut (Sums.bl s)]
        unfold cutB
        rw [← HTL.out, Sums.bl_length, Sums.bl_length]
        first | rfl | (rw [HK.out])
      · have e := HTL.out
        unfold cutB
        rw [← e, HQ.out, ← hu, Sums.bl_extract, List.drop_zero]
      · have e := HTL.out
        unfold cutB
        rw [← e, HQ.out, ← hr, Sums.bl_drop]
end Go.Proofs.YthmpokndffbkdaaDoor
