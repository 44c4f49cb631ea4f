/-
  The document's form: number, is, must. Conditions: the form lies in a block of its own.
-/
import Derived.Test.YthmpokndffbkdaaGreatDoorMoT
namespace Go.Proofs.YthmpokndffbkdaaGreatDoor
open Go.RowKit
set_option linter.unusedVariables false
def fmC (S : ByteArray) (p : Nat) (b : Bool) (d0 d1 d2 d3 d4 d5 d6 z : Int) (o : Bool) : List Value := [.string S, .int .i64 (p : Int), .bool b, .int .i64 d0, .int .i64 d1, .int .i64 d2, .int .i64 d3, .int .i64 d4, .int .i64 d5, .int .i64 d6, .int .i64 z, .bool o]
/-- the document's form: a text, a place; as long as it is not bad: what is left, a date, a zone -/
structure Fm (g : Nat) (S : ByteArray) (b : Bool) (l : List Nat) (D : List Int) (z : Int) (o : Bool) (w : World) : Prop where
  ex : ∃ (p : Nat) (d0 d1 d2 d3 d4 d5 d6 z' : Int) (o' : Bool), p ≤ S.size ∧ w.heap[g]? = some (.cells (fmC S p b d0 d1 d2 d3 d4 d5 d6 z' o').toArray 48 (0, 0)) ∧ (b = false → (Sums.bl S).drop p = l ∧ D = [d0, d1, d2, d3, d4, d5, d6] ∧ z' = z ∧ o' = o)
theorem Fm.lt {g : Nat} {S : ByteArray} {b : Bool} {l : List Nat} {D : List Int} {z : Int} {o : Bool} {w : World} (h : Fm g S b l D z o w) : g < w.heap.size := by
  obtain ⟨p, d0, d1, d2, d3, d4, d5, d6, z', o', hp, hg, hb⟩ := h.ex
  exact (Array.getElem?_eq_some_iff.1 hg).1
theorem Fm.bad {g : Nat} {S : ByteArray} {l l' : List Nat} {D D' : List Int} {z z' : Int} {o o' : Bool} {w : World} (h : Fm g S true l D z o w) : Fm g S true l' D' z' o' w := by
  obtain ⟨p, d0, d1, d2, d3, d4, d5, d6, y, x, hp, hg, hb⟩ := h.ex
  exact ⟨p, d0, d1, d2, d3, d4, d5, d6, y, x, hp, hg, fun e => by cases e⟩
theorem at_idx (S : ByteArray) (p x : Nat) (r : List Nat) (h : (Sums.bl S).drop p = x :: r) (W : World) : (Instr.index 9 (.string S) (.int .i64 (p : Int))).run Tryz.prog W = .ok (.int .u8 (x : Int)) W := by
  have hs : p < S.size := by
    rcases Nat.lt_or_ge p S.size with q | q
    · exact q
    · rw [List.drop_eq_nil_of_le (by rw [Sums.bl_length]; exact q)] at h; cases h
  have hg := Sums.bl_get S p hs
  have hx : (Sums.bl S).getD p 0 = x := by
    have := congrArg (·.getD 0 0) h
    simpa [List.getD] using this
  rw [run_index_string W 9 _ .i64 p Tryz.underlying9, dif_pos ⟨by omega, by omega⟩]
  have : (x : Int) = (S[p].toNat : Int) := by rw [← hx, hg]
  rw [this]; rfl
theorem at_facts (S : ByteArray) (p x : Nat) (r : List Nat) (h : (Sums.bl S).drop p = x :: r) : p < S.size ∧ x < 256 ∧ (Sums.bl S).drop (p + 1) = r := by
  have hs : p < S.size := by
    rcases Nat.lt_or_ge p S.size with q | q
    · exact q
    · rw [List.drop_eq_nil_of_le (by rw [Sums.bl_length]; exact q)] at h; cases h
  refine ⟨hs, Sums.bl_byt S x ?_, ?_⟩
  · have : x ∈ (Sums.bl S).drop p := by rw [h]; simp
    exact List.mem_of_mem_drop this
  · rw [← List.drop_drop, h]; rfl
theorem at_nil (S : ByteArray) (p : Nat) (hp : p ≤ S.size) (h : (Sums.bl S).drop p = []) : p = S.size := by
  have := congrArg List.length h
  simp [Sums.bl_length] at this
  omega
/-- the cells of a form, as they are read and written -/
structure FmAt (g : Nat) (S : ByteArray) (p : Nat) (b : Bool) (w : World) : Prop where
  c0 : w.cell? ⟨g, 0, none⟩ = some (.string S)
  c1 : w.cell? ⟨g, 1, none⟩ = some (.int .i64 (p : Int))
  c2 : w.cell? ⟨g, 2, none⟩ = some (.bool b)
  f1 : w.frozen? ⟨g, 1, none⟩ = false
  f2 : w.frozen? ⟨g, 2, none⟩ = false
theorem FmAt.of {g p : Nat} {S : ByteArray} {b : Bool} {d0 d1 d2 d3 d4 d5 d6 z : Int} {o : Bool} {w : World} (hg : w.heap[g]? = some (.cells (fmC S p b d0 d1 d2 d3 d4 d5 d6 z o).toArray 48 (0, 0))) : FmAt g S p b w :=
  ⟨by simp [World.cell?, hg, fmC], by simp [World.cell?, hg, fmC], by simp [World.cell?, hg, fmC], by simp [World.frozen?, hg, fmC], by simp [World.frozen?, hg, fmC]⟩
theorem Fm.drewN {g : Nat} {S : ByteArray} {b : Bool} {l : List Nat} {D : List Int} {z : Int} {o : Bool} {w : World} (h : Fm g S b l D z o w) (n : Nat) : Fm g S b l D z o (w.drewN n) := ⟨h.ex⟩
set_option maxRecDepth 100000 in
set_option maxHeartbeats 4000000 in
theorem fnumber_good (g k : Nat) (S : ByteArray) (l : List Nat) (D : List Int) (z : Int) (o : Bool) (w : World) (h : Fm g S false l D z o w) (hS : S.size ≤ 4611686018427387904) (hk : k ≤ 15) :
    Calls Tryz.prog 48 #[.pointer (some ⟨g, 0, none⟩), .int .i64 (k : Int)] w fun e w' => e = .returned (.int .i64 ((numN k 0 l : Nat) : Int)) ∧ Fm g S (numB k l) (numL k l) D z o w' ∧ Only g w w' := by
  obtain ⟨N, hN⟩ : ∃ N, numN k 0 l = N := ⟨_, rfl⟩
  obtain ⟨L, hL⟩ : ∃ L, numL k l = L := ⟨_, rfl⟩
  obtain ⟨B, hB⟩ : ∃ B, numB k l = B := ⟨_, rfl⟩
  rw [hN, hL, hB]
  have H0 := Hid.mk' (And.intro hN (And.intro hL hB))
  have HT := Hid.mk' h
  have hSI : (S.size : Int) ≤ 4611686018427387904 := by omega
  clear hN hL hB h
  go_enter Tryz.func48, Tryz.ntmps48
  go_wp2_with fail
  go_loopw [5, 6] (fun nv iv wr => ∃ (j a m : Nat) (l' : List Nat), iv = .int .i64 ((j : Nat) : Int) ∧ nv = .int .i64 ((a : Nat) : Int) ∧ j + m = k ∧ a < 10 ^ j ∧ Hid (numN m a l' = N ∧ numL m l' = L ∧ numB m l' = B) ∧ Hid (Fm g S false l' D z o wr ∧ Only g w wr)) (fun _ iv _ => k - (intOf iv).toNat)
  case atStart => exact ⟨0, 0, k, l, rfl, rfl, by omega, by decide, H0, ⟨HT.out, Only.refl _ _⟩⟩
  case round =>
    obtain ⟨j, a, m, l', rfl, rfl, hj, ha, hn, ht⟩ := hrel
    have hab : a < 1000000000000000 := by
      have := Nat.pow_le_pow_right (n := 10) (by decide) (show j ≤ 15 by omega)
      have : (10 : Nat) ^ 15 = 1000000000000000 := by decide
      omega
    cases m with
    | zero =>
      have hjk : ¬ (j : Int) < (k : Int) := by omega
      have e1 := hn.out.1
      have e2 := hn.out.2.1
      have e3 := hn.out.2.2
      simp only [numN, numL, numB] at e1 e2 e3
      have HE := Hid.mk' (And.intro e1 (And.intro e2 e3))
      clear e1 e2 e3 ha
      go_wp2_with fail
      go_ret
      refine ⟨ret_i64 (by rw [HE.out.1]), ?_, ht.out.2⟩
      rw [← HE.out.2.1, ← HE.out.2.2]
      exact ht.out.1
    | succ m =>
      have hjk : (j : Int) < (k : Int) := by omega
      obtain ⟨p, d0, d1, d2, d3, d4, d5, d6, z', o', hp, hg, hb⟩ := ht.out.1.ex
      obtain ⟨hl, hD, hz, ho⟩ := hb rfl
      have HD := Hid.mk' (And.intro hD (And.intro hz ho))
      obtain ⟨c0, c1, c2, f1, f2⟩ := FmAt.of hg
      have HQ : Hid (∀ n, (wr.drewN n).heap[g]? = some (.cells (fmC S p false d0 d1 d2 d3 d4 d5 d6 z' o').toArray 48 (0, 0)) ∧ Only g w (wr.drewN n)) := fun n => ⟨hg, ht.out.2.drewN n⟩
      have HA := Hid.mk' ha
      have hpI : (p : Int) ≤ (S.size : Int) := by omega
      clear hg ha hb hD hz ho
      cases l' with
      | nil =>
        have hpe := at_nil S p hp hl
        have t1 : S.size ≤ p := by omega
        have t2 : decide (S.size ≤ p) = true := by simp; omega
        have HP := Hid.mk' (And.intro hp hl)
        have e1 := hn.out.1
        have e2 := hn.out.2.1
        have e3 := hn.out.2.2
        simp only [numN, numL, numB] at e1 e2 e3
        have HE := Hid.mk' (And.intro e1 (And.intro e2 e3))
        clear e1 e2 e3 hl hp hpe
        go_wp2_with fail
        go_quiet (fail)
        obtain ⟨hg2, ho2⟩ := HQ.out nq
        generalize wr.drewN nq = W2 at hg2 ho2 ⊢
        clear c0 c1 c2 f1 f2
        obtain ⟨c0, c1, c2, f1, f2⟩ := FmAt.of hg2
        have HG := Hid.mk' hg2
        have HO2 := Hid.mk' ho2
        clear hg2 ho2
        go_wp2_with fail
        go_ret
        have hq := only_set (o := 2) W2 (.bool true) HG.out
        refine ⟨ret_i64 (by rw [← HE.out.1]; rfl), ?_, HO2.out.trans hq.1⟩
        rw [← HE.out.2.1, ← HE.out.2.2]
        exact ⟨p, d0, d1, d2, d3, d4, d5, d6, z', o', HP.out.1, by simpa [fmC] using hq.2, fun e => by cases e⟩
      | cons x r =>
        have hi := at_idx S p x r hl
        obtain ⟨n1, n2, n3⟩ := at_facts S p x r hl
        have t1 : ¬ S.size ≤ p := by omega
        have t2 : decide (S.size ≤ p) = false := by simp; omega
        have hpb : (p : Int) < 4611686018427387904 := by omega
        have HP := Hid.mk' (And.intro hp (And.intro n1 n3))
        clear hl hp n1 n3
        by_cases hx : 48 ≤ x ∧ x ≤ 57
        · have d1' : decide ((x : Int) < 48) = false := by simp; omega
          have d2' : decide ((57 : Int) < (x : Int)) = false := by simp; omega
          have d3' : ¬ (x : Int) < 48 := by omega
          have d4' : ¬ (57 : Int) < (x : Int) := by omega
          obtain ⟨y, hy⟩ : ∃ y, x - 48 = y := ⟨_, rfl⟩
          have HY : Hid ((x : Int) = (y : Int) + 48) := by show (x : Int) = (y : Int) + 48; omega
          have hyb : y ≤ 9 := by omega
          have e1 := hn.out.1
          have e2 := hn.out.2.1
          have e3 := hn.out.2.2
          simp only [numN, numL, numB, if_pos hx, hy] at e1 e2 e3
          have HE := Hid.mk' (And.intro e1 (And.intro e2 e3))
          clear e1 e2 e3 hy hx
          go_wp2_with fail
          go_quiet (fail)
          obtain ⟨hg2, ho2⟩ := HQ.out nq
          have HQ3 : Hid (∀ n, ((wr.drewN nq).drewN n).heap[g]? = some (.cells (fmC S p false d0 d1 d2 d3 d4 d5 d6 z' o').toArray 48 (0, 0)) ∧ Only g w ((wr.drewN nq).drewN n)) := fun n => ⟨hg2, ho2.drewN n⟩
          generalize wr.drewN nq = W2 at hg2 ho2 HQ3 ⊢
          clear c0 c1 c2 f1 f2
          obtain ⟨c0, c1, c2, f1, f2⟩ := FmAt.of hg2
          clear hg2 ho2
          go_wp2_with fail
          go_quiet (fail)
          obtain ⟨hg2, ho2⟩ := HQ3.out nq
          generalize W2.drewN nq = W3 at hg2 ho2 ⊢
          clear c0 c1 c2 f1 f2
          obtain ⟨c0, c1, c2, f1, f2⟩ := FmAt.of hg2
          have HG := Hid.mk' hg2
          have HO2 := Hid.mk' ho2
          clear hg2 ho2
          go_wp2_with fail
          go_roundw
          case rel =>
            have hq := only_set (o := 1) W3 (.int .i64 ((p : Int) + 1)) HG.out
            refine ⟨j + 1, a * 10 + y, m, r, by first | rfl | exact int_eq (by omega), int_eq (by have := HY.out; omega), by omega, ?_, HE, ?_⟩
            · have := HA.out; rw [Nat.pow_succ]; omega
            · exact ⟨⟨p + 1, d0, d1, d2, d3, d4, d5, d6, z', o', by have := HP.out.2.1; omega, by simpa [fmC] using hq.2, fun _ => ⟨HP.out.2.2, HD.out.1, HD.out.2.1, HD.out.2.2⟩⟩, HO2.out.trans hq.1⟩
          case measure => simp [intOf]; omega
        · have e1 := hn.out.1
          have e2 := hn.out.2.1
          have e3 := hn.out.2.2
          simp only [numN, numL, numB, if_neg hx] at e1 e2 e3
          have HE := Hid.mk' (And.intro e1 (And.intro e2 e3))
          clear e1 e2 e3
          by_cases hx1 : x < 48
          · have d1' : decide ((x : Int) < 48) = true := by simp; omega
            have d3' : (x : Int) < 48 := by omega
            clear hx
            go_wp2_with fail
            go_quiet (fail)
            obtain ⟨hg2, ho2⟩ := HQ.out nq
            generalize wr.drewN nq = W2 at hg2 ho2 ⊢
            clear c0 c1 c2 f1 f2
            obtain ⟨c0, c1, c2, f1, f2⟩ := FmAt.of hg2
            have HG := Hid.mk' hg2
            have HO2 := Hid.mk' ho2
            clear hg2 ho2
            go_wp2_with fail
            go_ret
            have hq := only_set (o := 2) W2 (.bool true) HG.out
            refine ⟨ret_i64 (by rw [← HE.out.1]; rfl), ?_, HO2.out.trans hq.1⟩
            rw [← HE.out.2.1, ← HE.out.2.2]
            exact ⟨p, d0, d1, d2, d3, d4, d5, d6, z', o', HP.out.1, by simpa [fmC] using hq.2, fun e => by cases e⟩
          · have d1' : decide ((x : Int) < 48) = false := by simp; omega
            have d3' : ¬ (x : Int) < 48 := by omega
            have d2' : decide ((57 : Int) < (x : Int)) = true := by simp; omega
            have d4' : (57 : Int) < (x : Int) := by omega
            clear hx hx1
            go_wp2_with fail
            go_quiet (fail)
            obtain ⟨hg2, ho2⟩ := HQ.out nq
            generalize wr.drewN nq = W2 at hg2 ho2 ⊢
            clear c0 c1 c2 f1 f2
            obtain ⟨c0, c1, c2, f1, f2⟩ := FmAt.of hg2
            have HG := Hid.mk' hg2
            have HO2 := Hid.mk' ho2
            clear hg2 ho2
            go_wp2_with fail
            go_ret
            have hq := only_set (o := 2) W2 (.bool true) HG.out
            refine ⟨ret_i64 (by rw [← HE.out.1]; rfl), ?_, HO2.out.trans hq.1⟩
            rw [← HE.out.2.1, ← HE.out.2.2]
            exact ⟨p, d0, d1, d2, d3, d4, d5, d6, z', o', HP.out.1, by simpa [fmC] using hq.2, fun e => by cases e⟩
set_option maxRecDepth 100000 in
set_option maxHeartbeats 4000000 in
theorem fnumber_bad (g k : Nat) (S : ByteArray) (l : List Nat) (D : List Int) (z : Int) (o : Bool) (w : World) (h : Fm g S true l D z o w) (hk : k ≤ 15) (hk1 : 1 ≤ k) :
    Calls Tryz.prog 48 #[.pointer (some ⟨g, 0, none⟩), .int .i64 (k : Int)] w fun e w' => e = .returned (.int .i64 0) ∧ Fm g S true l D z o w' ∧ Only g w w' := by
  have HT := Hid.mk' h
  have hkI : (0 : Int) < (k : Int) := by omega
  clear h hk1
  go_enter Tryz.func48, Tryz.ntmps48
  go_wp2_with fail
  go_loopw [5, 6] (fun nv iv wr => iv = .int .i64 0 ∧ nv = .int .i64 0 ∧ Hid (Fm g S true l D z o wr ∧ Only g w wr)) (fun _ iv _ => 0)
  case atStart => exact ⟨rfl, rfl, ⟨HT.out, Only.refl _ _⟩⟩
  case round =>
    obtain ⟨rfl, rfl, ht⟩ := hrel
    obtain ⟨p, d0, d1, d2, d3, d4, d5, d6, z', o', hp, hg, hb⟩ := ht.out.1.ex
    obtain ⟨c0, c1, c2, f1, f2⟩ := FmAt.of hg
    have HQ : Hid (∀ n, (wr.drewN n).heap[g]? = some (.cells (fmC S p true d0 d1 d2 d3 d4 d5 d6 z' o').toArray 48 (0, 0)) ∧ Only g w (wr.drewN n)) := fun n => ⟨hg, ht.out.2.drewN n⟩
    have HP := Hid.mk' hp
    clear hg hb hp
    go_wp2_with fail
    go_quiet (fail)
    obtain ⟨hg2, ho2⟩ := HQ.out nq
    generalize wr.drewN nq = W2 at hg2 ho2 ⊢
    clear c0 c1 c2 f1 f2
    obtain ⟨c0, c1, c2, f1, f2⟩ := FmAt.of hg2
    have HG := Hid.mk' hg2
    have HO2 := Hid.mk' ho2
    clear hg2 ho2
    go_wp2_with fail
    go_ret
    have hq := only_set (o := 2) W2 (.bool true) HG.out
    exact ⟨rfl, ⟨p, d0, d1, d2, d3, d4, d5, d6, z', o', HP.out, by simpa [fmC] using hq.2, fun e => by cases e⟩, HO2.out.trans hq.1⟩
theorem fnumber_any (g k : Nat) (S : ByteArray) (b : Bool) (l : List Nat) (D : List Int) (z : Int) (o : Bool) (w : World) (h : Fm g S b l D z o w) (hS : S.size ≤ 4611686018427387904) (hk : k ≤ 15) (hk1 : 1 ≤ k) :
    Calls Tryz.prog 48 #[.pointer (some ⟨g, 0, none⟩), .int .i64 (k : Int)] w fun e w' => (∃ v : Nat, e = .returned (.int .i64 (v : Int)) ∧ v < 10 ^ k ∧ ((b || numB k l) = false → v = numN k 0 l)) ∧ Fm g S (b || numB k l) (numL k l) D z o w' ∧ Only g w w' := by
  cases b
  · refine (fnumber_good g k S l D z o w h hS hk).mono ?_
    rintro e w' ⟨rfl, h1, h2⟩
    exact ⟨⟨_, rfl, by simpa using numN_lt k 0 l, fun _ => rfl⟩, by simpa using h1, h2⟩
  · refine (fnumber_bad g k S l D z o w h hk hk1).mono ?_
    rintro e w' ⟨rfl, h1, h2⟩
    exact ⟨⟨0, rfl, Nat.pow_pos (by decide), fun e => by simp at e⟩, by simpa using h1.bad, h2⟩
end Go.Proofs.YthmpokndffbkdaaGreatDoor
