/-
  The document's Span. Conditions: a text of at most 2^60 bytes.
-/
import Derived.Test.YthmpokndffbkdaaDoorRsA
import Derived.Test.YthmpokndffbkdaaDoorFoA
import Derived.Deep.DeepCutAuto
import Derived.Deep.CutBlock
namespace Go.Proofs.YthmpokndffbkdaaDoor
open Go.RowKit
set_option linter.unusedVariables false
def sN : Nat → Nat → List Nat → Nat
  | 0, a, _ => a
  | k + 1, a, [] => a
  | k + 1, a, x :: r => if 48 ≤ x ∧ x ≤ 57 then sN k (a * 10 + (x - 48)) r else a
def sL : Nat → List Nat → List Nat
  | 0, l => l
  | k + 1, [] => []
  | k + 1, x :: r => if 48 ≤ x ∧ x ≤ 57 then sL k r else x :: r
def sC : Nat → List Nat → Nat
  | 0, _ => 0
  | k + 1, [] => 0
  | k + 1, x :: r => if 48 ≤ x ∧ x ≤ 57 then sC k r + 1 else 0
def lT : Nat → List Nat → List Nat
  | 0, _ => []
  | k + 1, [] => []
  | k + 1, x :: r => if 97 ≤ x then x :: lT k r else []
def lR : Nat → List Nat → List Nat
  | 0, l => l
  | k + 1, [] => []
  | k + 1, x :: r => if 97 ≤ x then lR k r else x :: r
def kI (u : List Nat) : Nat → Nat → Int → Int
  | 0, _, k => k
  | j + 1, i, k => kI u j (i + 1) (if uname i = u then (i : Int) else k)
def kF (u : List Nat) : Int := kI u 5 0 (-1)
def rsF : Nat → List Nat → Nat → Nat → Option Nat
  | 0, _, _, _ => none
  | f + 1, l, sum, nx => if l = [] ∧ nx ≠ 0 then some sum else
      if sC 16 l = 0 ∨ 15 < sC 16 l ∨ hasF 48 l = true then none else
      if kF (lT 2 (sL 16 l)) < (nx : Int) then none else
      if 253402300799999 / unum (kF (lT 2 (sL 16 l))).toNat < sN 16 0 l then none else
      if 253402300799999 < sum + sN 16 0 l * unum (kF (lT 2 (sL 16 l))).toNat then none else
      rsF f (lR 2 (sL 16 l)) (sum + sN 16 0 l * unum (kF (lT 2 (sL 16 l))).toNat) ((kF (lT 2 (sL 16 l))).toNat + 1)
def rsR (R : Option Nat) : Ending := match R with
  | none => .returned (.tuple #[.int .i64 0, .int .i64 121])
  | some s => .returned (.tuple #[.int .i64 ((s : Nat) : Int), .int .i64 0])
theorem sC_le : ∀ (k : Nat) (l : List Nat), sC k l ≤ l.length
  | 0, _ => Nat.zero_le _
  | k + 1, [] => Nat.le_refl _
  | k + 1, x :: r => by
    rw [sC]
    split
    · have := sC_le k r; simp only [List.length_cons]; omega
    · exact Nat.zero_le _
theorem sC_16 : ∀ (k : Nat) (l : List Nat), sC k l ≤ k
  | 0, _ => Nat.le_refl _
  | k + 1, [] => Nat.zero_le _
  | k + 1, x :: r => by
    rw [sC]
    split
    · have := sC_16 k r; omega
    · exact Nat.zero_le _
theorem sL_drop : ∀ (k : Nat) (l : List Nat), l.drop (sC k l) = sL k l
  | 0, _ => rfl
  | k + 1, [] => rfl
  | k + 1, x :: r => by
    rw [sC, sL]
    split
    · rw [List.drop_succ_cons]; exact sL_drop k r
    · rfl
theorem lT_le : ∀ (k : Nat) (l : List Nat), (lT k l).length ≤ l.length
  | 0, _ => Nat.zero_le _
  | k + 1, [] => Nat.le_refl _
  | k + 1, x :: r => by
    rw [lT]
    split
    · have := lT_le k r; simp only [List.length_cons]; omega
    · exact Nat.zero_le _
theorem lR_drop : ∀ (k : Nat) (l : List Nat), l.drop (lT k l).length = lR k l
  | 0, _ => rfl
  | k + 1, [] => rfl
  | k + 1, x :: r => by
    rw [lT, lR]
    split
    · rw [List.length_cons, List.drop_succ_cons]; exact lR_drop k r
    · rfl
theorem sl_one (s : ByteArray) (a : Nat) (h : a < s.size) (W : World) : (Instr.slice 9 (.string s) (some (.int .i64 (a : Int))) (some (.int .i64 ((a : Int) + 1))) none).run Tryd.prog W = .ok (.string (s.extract a (a + 1))) W := by
  have e1 : ((a : Int) + 1).toNat = a + 1 := by omega
  have e3 : (a : Int) + 1 ≤ (s.size : Int) := by omega
  have e4 : (0 : Int) ≤ (a : Int) + 1 := by omega
  simp [go_sem, Instr.slice, e1, e3, e4]
theorem kF_is (u : List Nat) : -1 ≤ kF u ∧ kF u ≤ 4 := by
  unfold kF
  simp only [kI]
  repeat' split
  all_goals omega
theorem Un2.n0 {A B : Nat} {w : World} (h : Un2 A B w) : w.cell? ⟨A, 0, none⟩ = some (.string ⟨#[100]⟩) := by simp [World.cell?, h.a]
theorem Un2.n1 {A B : Nat} {w : World} (h : Un2 A B w) : w.cell? ⟨A, 1, none⟩ = some (.string ⟨#[104]⟩) := by simp [World.cell?, h.a]
theorem Un2.n2 {A B : Nat} {w : World} (h : Un2 A B w) : w.cell? ⟨A, 2, none⟩ = some (.string ⟨#[109]⟩) := by simp [World.cell?, h.a]
theorem Un2.n3 {A B : Nat} {w : World} (h : Un2 A B w) : w.cell? ⟨A, 3, none⟩ = some (.string ⟨#[115]⟩) := by simp [World.cell?, h.a]
theorem Un2.n4 {A B : Nat} {w : World} (h : Un2 A B w) : w.cell? ⟨A, 4, none⟩ = some (.string ⟨#[109, 115]⟩) := by simp [World.cell?, h.a]
theorem Un2.m0 {A B : Nat} {w : World} (h : Un2 A B w) : w.cell? ⟨B, 0, none⟩ = some (.int .i64 86400000) := by simp [World.cell?, h.b]
theorem Un2.m1 {A B : Nat} {w : World} (h : Un2 A B w) : w.cell? ⟨B, 1, none⟩ = some (.int .i64 3600000) := by simp [World.cell?, h.b]
theorem Un2.m2 {A B : Nat} {w : World} (h : Un2 A B w) : w.cell? ⟨B, 2, none⟩ = some (.int .i64 60000) := by simp [World.cell?, h.b]
theorem Un2.m3 {A B : Nat} {w : World} (h : Un2 A B w) : w.cell? ⟨B, 3, none⟩ = some (.int .i64 1000) := by simp [World.cell?, h.b]
theorem Un2.m4 {A B : Nat} {w : World} (h : Un2 A B w) : w.cell? ⟨B, 4, none⟩ = some (.int .i64 1) := by simp [World.cell?, h.b]
theorem sN_lt : ∀ (k a j : Nat) (l : List Nat), a < 10 ^ j → sN k a l < 10 ^ (j + k)
  | 0, a, j, l, h => by simpa [sN] using h
  | k + 1, a, j, [], h => by
    rw [sN]
    exact Nat.lt_of_lt_of_le h (Nat.pow_le_pow_right (by decide) (by omega))
  | k + 1, a, j, x :: r, h => by
    rw [sN]
    split
    · have := sN_lt k (a * 10 + (x - 48)) (j + 1) r (by rw [Nat.pow_succ]; omega)
      rw [show j + (k + 1) = j + 1 + k by omega]
      exact this
    · exact Nat.lt_of_lt_of_le h (Nat.pow_le_pow_right (by decide) (by omega))
set_option maxRecDepth 100000 in
set_option maxHeartbeats 16000000 in
theorem rSpan_any (S : ByteArray) (w : World) (hS : S.size ≤ 1152921504606846976) :
    Calls Tryd.prog 20 #[.string S] w fun e w' => e = rsR (rsF (S.size + 1) (Sums.bl S) 0 0) ∧ Below w.heap.size w w' := by
  have HU := Hid.mk' (rUnits_any w)
  have hSI : (S.size : Int) ≤ 1152921504606846976 := by omega
  obtain ⟨R, hR⟩ : ∃ R, rsF (S.size + 1) (Sums.bl S) 0 0 = R := ⟨_, rfl⟩
  rw [hR]
  have HR := Hid.mk' hR
  clear hR hS
  go_enter Tryd.func20, Tryd.ntmps20
  go_wp2_with fail
  refine HU.out.mono ?_
  rintro e w1 ⟨rfl, hu, hb⟩
  have K1 : Hid (Un2 w.heap.size (w.heap.size + 1) w1 ∧ Below w.heap.size w w1) := ⟨hu, hb⟩
  clear hu hb HU
  generalize hG : w.heap.size = G at *
  have HG := Hid.mk' hG
  clear hG
  go_wp2_with fail
  go_loopw [6, 7, 8] (fun sv av lv wr => ∃ (f p sum nx : Nat) (la : Int), sv = .int .i64 ((sum : Nat) : Int) ∧ av = .int .i64 ((p : Nat) : Int) ∧ lv = .int .i64 la ∧ p ≤ S.size ∧ sum ≤ 253402300799999 ∧ -1 ≤ la ∧ la ≤ 4 ∧ S.size < p + f ∧ Hid (la + 1 = (nx : Int)) ∧ Hid (rsF f ((Sums.bl S).drop p) sum nx = R) ∧ wr = w1) (fun _ av _ _ => S.size - (intOf av).toNat)
  case atStart => exact ⟨S.size + 1, 0, 0, 0, -1, rfl, rfl, rfl, Nat.zero_le _, by decide, by decide, by decide, by omega, Hid.mk' (by decide), Hid.mk' (by rw [List.drop_zero]; exact HR.out), rfl⟩
  case round =>
    obtain ⟨f, p, sum, nx, la, rfl, rfl, rfl, hp, hsum, hla0, hla1, hf, hnx, hr, rfl⟩ := hrel
    obtain ⟨l, hl⟩ : ∃ l, (Sums.bl S).drop p = l := ⟨_, rfl⟩
    have HLL : Hid ((Sums.bl S).drop (p + 0) = l) := Hid.mk' hl
    rw [hl] at hr
    obtain ⟨f, rfl⟩ : ∃ g, f = g + 1 := ⟨f - 1, by omega⟩
    have er := hr.out
    rw [rsF] at er
    have hpI : (p : Int) ≤ 1152921504606846976 := by omega
    obtain ⟨C, hC⟩ : ∃ C, sC 16 l = C := ⟨_, rfl⟩
    obtain ⟨N, hN⟩ : ∃ N, sN 16 0 l = N := ⟨_, rfl⟩
    have HC := Hid.mk' (And.intro hN hC)
    rw [hC, hN] at er
    clear hr
    by_cases hl0 : l = []
    · by_cases hn0 : nx = 0
      · have hC0 : C = 0 := by rw [← hC, hl0]; rfl
        rw [if_neg (fun h => h.2 hn0), if_pos (.inl hC0)] at er
        have HE := Hid.mk' er
        have HC0 := Hid.mk' hC0
        have hpe := at_nil S p hp (hl.trans hl0)
        have b1 : ¬ (p : Int) < (S.size : Int) := by omega
        have b2 : ¬ p < S.size := by omega
        have b3 : decide (p < S.size) = false := by simp; omega
        have b4 : la < 0 := by have := hnx.out; omega
        have b5 : decide (la < 0) = true := by simp; omega
        clear er hC0 hn0 hl hC hN hpe hl0
        go_upto_block 2 with fail
        go_cut [7, 9] (fun av nv wc => av = .int .i64 (((p + C : Nat)) : Int) ∧ nv = .int .i64 ((N : Nat) : Int) ∧ wr = wc)
        case first =>
          go_wp2_with fail
          go_loopw [7, 9] (fun av nv wq => ∃ (j a k : Nat) (l' : List Nat), av = .int .i64 (((p + j : Nat)) : Int) ∧ nv = .int .i64 ((a : Nat) : Int) ∧ j + k = 16 ∧ p + j ≤ S.size ∧ a < 10 ^ j ∧ Hid ((Sums.bl S).drop (p + j) = l') ∧ Hid (sN k a l' = N ∧ sC k l' + j = C) ∧ wq = wr) (fun av _ _ => p + 16 - (intOf av).toNat)
          case atStart => exact ⟨0, 0, 16, l, by simp, rfl, rfl, by omega, by decide, HLL, Hid.mk' ⟨HC.out.1, by rw [HC.out.2]; rfl⟩, rfl⟩
          case round =>
            obtain ⟨j, a, k, l', rfl, rfl, hjk, hpj, ha, hl', hn, rfl⟩ := hrel
            obtain ⟨q, hq⟩ : ∃ q, p + j = q := ⟨_, rfl⟩
            rw [hq] at hpj hl' ⊢
            have hqI : (q : Int) - (p : Int) = (j : Int) := by omega
            have hqw : IntKind.i64.wrap (q : Int) = (q : Int) := by rw [IntKind.wrap_i64]; omega
            have hab : a < 10000000000000000 := by
              have := Nat.pow_le_pow_right (n := 10) (by decide) (show j ≤ 16 by omega)
              have : (10 : Nat) ^ 16 = 10000000000000000 := by decide
              omega
            have HJ := Hid.mk' (And.intro hq (And.intro hjk hpj))
            have HA := Hid.mk' ha
            have hqb : (q : Int) ≤ 1152921504606846976 := by omega
            cases l' with
            | nil =>
              have hqe := at_nil S q hpj hl'.out
              have e1 := hn.out.1
              have e2 := hn.out.2
              have e3 : sN k a [] = a := by cases k <;> rfl
              have e4 : sC k [] = 0 := by cases k <;> rfl
              rw [e3] at e1
              rw [e4] at e2
              have HE := Hid.mk' (And.intro e1 e2)
              have t1 : ¬ (q : Int) < (S.size : Int) := by omega
              have t2 : ¬ q < S.size := by omega
              have t3 : decide (q < S.size) = false := by simp; omega
              clear e1 e2 e3 e4 hqe ha hq hjk hpj hqI
              go_wp2_with fail
              go_meet
              exact ⟨int_eq (by have h1 := HE.out.2; have h2 := HJ.out.1; omega), int_eq (by rw [HE.out.1]), rfl⟩
            | cons x r =>
              have hi := at_idx S q x r hl'.out
              obtain ⟨n1, n2, n3⟩ := at_facts S q x r hl'.out
              have t1 : (q : Int) < (S.size : Int) := by omega
              have t2 : q < S.size := n1
              have t3 : decide (q < S.size) = true := by simp; omega
              have HN3 := Hid.mk' n3
              have HN1 := Hid.mk' n1
              cases k with
              | zero =>
                have hj16 : j = 16 := by omega
                have e1 := hn.out.1
                have e2 := hn.out.2
                rw [sN] at e1
                rw [sC] at e2
                have HE := Hid.mk' (And.intro e1 e2)
                have t4 : ¬ (j : Int) < 16 := by omega
                have t5 : decide ((j : Int) < 16) = false := by simp; omega
                clear e1 e2 ha hq hjk hpj hj16 n1 n3
                by_cases h1 : 48 ≤ x
                · have u1 : decide ((48 : Int) ≤ (x : Int)) = true := by simp; omega
                  have u2 : (48 : Int) ≤ (x : Int) := by omega
                  by_cases h2 : x ≤ 57
                  · have u3 : decide ((x : Int) ≤ 57) = true := by simp; omega
                    have u4 : (x : Int) ≤ 57 := by omega
                    clear h1 h2
                    go_wp2_with fail
                    go_meet
                    exact ⟨int_eq (by have h1 := HE.out.2; have h2 := HJ.out.1; omega), int_eq (by rw [HE.out.1]), rfl⟩
                  · have u3 : decide ((x : Int) ≤ 57) = false := by simp; omega
                    have u4 : ¬ (x : Int) ≤ 57 := by omega
                    clear h1 h2
                    go_wp2_with fail
                    go_meet
                    exact ⟨int_eq (by have h1 := HE.out.2; have h2 := HJ.out.1; omega), int_eq (by rw [HE.out.1]), rfl⟩
                · have u1 : decide ((48 : Int) ≤ (x : Int)) = false := by simp; omega
                  have u2 : ¬ (48 : Int) ≤ (x : Int) := by omega
                  clear h1
                  go_wp2_with fail
                  go_meet
                  exact ⟨int_eq (by have h1 := HE.out.2; have h2 := HJ.out.1; omega), int_eq (by rw [HE.out.1]), rfl⟩
              | succ k =>
                have t4 : (j : Int) < 16 := by omega
                have t5 : decide ((j : Int) < 16) = true := by simp; omega
                by_cases hx : 48 ≤ x ∧ x ≤ 57
                · have u1 : decide ((48 : Int) ≤ (x : Int)) = true := by simp; omega
                  have u2 : (48 : Int) ≤ (x : Int) := by omega
                  have u3 : decide ((x : Int) ≤ 57) = true := by simp; omega
                  have u4 : (x : Int) ≤ 57 := by omega
                  obtain ⟨y, hy⟩ : ∃ y, x - 48 = y := ⟨_, rfl⟩
                  have HY : Hid ((x : Int) = (y : Int) + 48) := Hid.mk' (by omega)
                  have hyb : y ≤ 9 := by omega
                  have e1 := hn.out.1
                  have e2 := hn.out.2
                  rw [sN, if_pos hx, hy] at e1
                  rw [sC, if_pos hx] at e2
                  have HE := Hid.mk' (And.intro e1 e2)
                  clear e1 e2 ha hq hjk hpj n1 n3 hx hy
                  go_wp2_with fail
                  go_roundw
                  case rel => exact ⟨j + 1, a * 10 + y, k, r, int_eq (by have := HJ.out.1; omega), int_eq (by have := HY.out; omega), by have := HJ.out; omega, by have h1 := HJ.out; have h2 := HN1.out; omega, by have := HA.out; rw [Nat.pow_succ]; omega, Hid.mk' (by have h1 := HJ.out.1; rw [show p + (j + 1) = q + 1 by omega]; exact HN3.out), Hid.mk' ⟨HE.out.1, by have := HE.out.2; omega⟩, by first | rfl | trivial⟩
                  case measure => have := HJ.out; simp [intOf]; omega
                · have e1 := hn.out.1
                  have e2 := hn.out.2
                  rw [sN, if_neg hx] at e1
                  rw [sC, if_neg hx] at e2
                  have HE := Hid.mk' (And.intro e1 e2)
                  clear e1 e2 ha hq hjk hpj n1 n3
                  by_cases h1 : 48 ≤ x
                  · have u1 : decide ((48 : Int) ≤ (x : Int)) = true := by simp; omega
                    have u2 : (48 : Int) ≤ (x : Int) := by omega
                    have u3 : decide ((x : Int) ≤ 57) = false := by simp; omega
                    have u4 : ¬ (x : Int) ≤ 57 := by omega
                    clear h1 hx
                    go_wp2_with fail
                    go_meet
                    exact ⟨int_eq (by have h1 := HE.out.2; have h2 := HJ.out.1; omega), int_eq (by rw [HE.out.1]), rfl⟩
                  · have u1 : decide ((48 : Int) ≤ (x : Int)) = false := by simp; omega
                    have u2 : ¬ (48 : Int) ≤ (x : Int) := by omega
                    clear h1 hx
                    go_wp2_with fail
                    go_meet
                    exact ⟨int_eq (by have h1 := HE.out.2; have h2 := HJ.out.1; omega), int_eq (by rw [HE.out.1]), rfl⟩
        case rest =>
          obtain ⟨rfl, rfl, rfl⟩ := hcut
          rw [HC0.out]
          go_wp2_with fail
          go_ret2
          exact ⟨by rw [← HE.out]; rfl, (by rw [HG.out]; exact K1.out.2)⟩
      · rw [if_pos ⟨hl0, hn0⟩] at er
        have HE := Hid.mk' er
        have hpe := at_nil S p hp (hl.trans hl0)
        have b1 : ¬ (p : Int) < (S.size : Int) := by omega
        have b2 : ¬ p < S.size := by omega
        have b3 : decide (p < S.size) = false := by simp; omega
        have b4 : ¬ la < 0 := by have := hnx.out; omega
        have b5 : decide (la < 0) = false := by simp; omega
        clear er hn0 hl hC hN hpe hl0
        go_wp2_with fail
        go_ret2
        exact ⟨by rw [← HE.out]; rfl, (by rw [HG.out]; exact K1.out.2)⟩
    · have hne : ¬ (l = [] ∧ nx ≠ 0) := fun h => hl0 h.1
      rw [if_neg hne] at er
      obtain ⟨x0, r0, hx0⟩ := List.exists_cons_of_ne_nil hl0
      have hi0 := at_idx S p x0 r0 (hl.trans hx0)
      obtain ⟨m1, m2, m3⟩ := at_facts S p x0 r0 (hl.trans hx0)
      have b1 : (p : Int) < (S.size : Int) := by omega
      have b2 : p < S.size := m1
      have b3 : decide (p < S.size) = true := by simp; omega
      have hCl : C ≤ l.length := by rw [← hC]; exact sC_le 16 l
      have hCL : p + C ≤ S.size := by
        have := congrArg List.length hl
        rw [List.length_drop, Sums.bl_length] at this
        omega
      have hC16 : C ≤ 16 := by rw [← hC]; exact sC_16 16 l
      have hdrop : (Sums.bl S).drop (p + C) = sL 16 l := by rw [← List.drop_drop, hl, ← hC]; exact sL_drop 16 l
      have h48 : hasF 48 l = (x0 == 48) := by rw [hx0]; rfl
      rw [h48] at er
      have HER := Hid.mk' er
      have HCC := Hid.mk' (And.intro hdrop (And.intro hCL hC16))
      have hNb : N < 10 ^ 16 := by rw [← hN]; have := sN_lt 16 0 0 l (by decide); simpa using this
      have hCI : ((p + C : Nat) : Int) - (p : Int) = (C : Int) := by omega
      obtain ⟨p2, hp2⟩ : ∃ p2, p + C = p2 := ⟨_, rfl⟩
      have hp2I : (p2 : Int) - (p : Int) = (C : Int) := by omega
      have hp2b : (p2 : Int) ≤ 1152921504606846976 := by omega
      have HPP := Hid.mk' hp2
      clear er hdrop h48 hl hC hN hl0 hne hx0 m3 m1 hCl hCI hCL
      go_upto_block 2 with fail
      go_cut [7, 9] (fun av nv wc => av = .int .i64 (((p + C : Nat)) : Int) ∧ nv = .int .i64 ((N : Nat) : Int) ∧ wr = wc)
      case first =>
        go_wp2_with fail
        go_loopw [7, 9] (fun av nv wq => ∃ (j a k : Nat) (l' : List Nat), av = .int .i64 (((p + j : Nat)) : Int) ∧ nv = .int .i64 ((a : Nat) : Int) ∧ j + k = 16 ∧ p + j ≤ S.size ∧ a < 10 ^ j ∧ Hid ((Sums.bl S).drop (p + j) = l') ∧ Hid (sN k a l' = N ∧ sC k l' + j = C) ∧ wq = wr) (fun av _ _ => p + 16 - (intOf av).toNat)
        case atStart => exact ⟨0, 0, 16, l, by simp, rfl, rfl, by omega, by decide, HLL, Hid.mk' ⟨HC.out.1, by rw [HC.out.2]; rfl⟩, rfl⟩
        case round =>
          obtain ⟨j, a, k, l', rfl, rfl, hjk, hpj, ha, hl', hn, rfl⟩ := hrel
          obtain ⟨q, hq⟩ : ∃ q, p + j = q := ⟨_, rfl⟩
          rw [hq] at hpj hl' ⊢
          have hqI : (q : Int) - (p : Int) = (j : Int) := by omega
          have hqw : IntKind.i64.wrap (q : Int) = (q : Int) := by rw [IntKind.wrap_i64]; omega
          have hab : a < 10000000000000000 := by
            have := Nat.pow_le_pow_right (n := 10) (by decide) (show j ≤ 16 by omega)
            have : (10 : Nat) ^ 16 = 10000000000000000 := by decide
            omega
          have HJ := Hid.mk' (And.intro hq (And.intro hjk hpj))
          have HA := Hid.mk' ha
          have hqb : (q : Int) ≤ 1152921504606846976 := by omega
          cases l' with
          | nil =>
            have hqe := at_nil S q hpj hl'.out
            have e1 := hn.out.1
            have e2 := hn.out.2
            have e3 : sN k a [] = a := by cases k <;> rfl
            have e4 : sC k [] = 0 := by cases k <;> rfl
            rw [e3] at e1
            rw [e4] at e2
            have HE := Hid.mk' (And.intro e1 e2)
            have t1 : ¬ (q : Int) < (S.size : Int) := by omega
            have t2 : ¬ q < S.size := by omega
            have t3 : decide (q < S.size) = false := by simp; omega
            clear e1 e2 e3 e4 hqe ha hq hjk hpj hqI
            go_wp2_with fail
            go_meet
            exact ⟨int_eq (by have h1 := HE.out.2; have h2 := HJ.out.1; omega), int_eq (by rw [HE.out.1]), rfl⟩
          | cons x r =>
            have hi := at_idx S q x r hl'.out
            obtain ⟨n1, n2, n3⟩ := at_facts S q x r hl'.out
            have t1 : (q : Int) < (S.size : Int) := by omega
            have t2 : q < S.size := n1
            have t3 : decide (q < S.size) = true := by simp; omega
            have HN3 := Hid.mk' n3
            have HN1 := Hid.mk' n1
            cases k with
            | zero =>
              have hj16 : j = 16 := by omega
              have e1 := hn.out.1
              have e2 := hn.out.2
              rw [sN] at e1
              rw [sC] at e2
              have HE := Hid.mk' (And.intro e1 e2)
              have t4 : ¬ (j : Int) < 16 := by omega
              have t5 : decide ((j : Int) < 16) = false := by simp; omega
              clear e1 e2 ha hq hjk hpj hj16 n1 n3
              by_cases h1 : 48 ≤ x
              · have u1 : decide ((48 : Int) ≤ (x : Int)) = true := by simp; omega
                have u2 : (48 : Int) ≤ (x : Int) := by omega
                by_cases h2 : x ≤ 57
                · have u3 : decide ((x : Int) ≤ 57) = true := by simp; omega
                  have u4 : (x : Int) ≤ 57 := by omega
                  clear h1 h2
                  go_wp2_with fail
                  go_meet
                  exact ⟨int_eq (by have h1 := HE.out.2; have h2 := HJ.out.1; omega), int_eq (by rw [HE.out.1]), rfl⟩
                · have u3 : decide ((x : Int) ≤ 57) = false := by simp; omega
                  have u4 : ¬ (x : Int) ≤ 57 := by omega
                  clear h1 h2
                  go_wp2_with fail
                  go_meet
                  exact ⟨int_eq (by have h1 := HE.out.2; have h2 := HJ.out.1; omega), int_eq (by rw [HE.out.1]), rfl⟩
              · have u1 : decide ((48 : Int) ≤ (x : Int)) = false := by simp; omega
                have u2 : ¬ (48 : Int) ≤ (x : Int) := by omega
                clear h1
                go_wp2_with fail
                go_meet
                exact ⟨int_eq (by have h1 := HE.out.2; have h2 := HJ.out.1; omega), int_eq (by rw [HE.out.1]), rfl⟩
            | succ k =>
              have t4 : (j : Int) < 16 := by omega
              have t5 : decide ((j : Int) < 16) = true := by simp; omega
              by_cases hx : 48 ≤ x ∧ x ≤ 57
              · have u1 : decide ((48 : Int) ≤ (x : Int)) = true := by simp; omega
                have u2 : (48 : Int) ≤ (x : Int) := by omega
                have u3 : decide ((x : Int) ≤ 57) = true := by simp; omega
                have u4 : (x : Int) ≤ 57 := by omega
                obtain ⟨y, hy⟩ : ∃ y, x - 48 = y := ⟨_, rfl⟩
                have HY : Hid ((x : Int) = (y : Int) + 48) := Hid.mk' (by omega)
                have hyb : y ≤ 9 := by omega
                have e1 := hn.out.1
                have e2 := hn.out.2
                rw [sN, if_pos hx, hy] at e1
                rw [sC, if_pos hx] at e2
                have HE := Hid.mk' (And.intro e1 e2)
                clear e1 e2 ha hq hjk hpj n1 n3 hx hy
                go_wp2_with fail
                go_roundw
                case rel => exact ⟨j + 1, a * 10 + y, k, r, int_eq (by have := HJ.out.1; omega), int_eq (by have := HY.out; omega), by have := HJ.out; omega, by have h1 := HJ.out; have h2 := HN1.out; omega, by have := HA.out; rw [Nat.pow_succ]; omega, Hid.mk' (by have h1 := HJ.out.1; rw [show p + (j + 1) = q + 1 by omega]; exact HN3.out), Hid.mk' ⟨HE.out.1, by have := HE.out.2; omega⟩, by first | rfl | trivial⟩
                case measure => have := HJ.out; simp [intOf]; omega
              · have e1 := hn.out.1
                have e2 := hn.out.2
                rw [sN, if_neg hx] at e1
                rw [sC, if_neg hx] at e2
                have HE := Hid.mk' (And.intro e1 e2)
                clear e1 e2 ha hq hjk hpj n1 n3
                by_cases h1 : 48 ≤ x
                · have u1 : decide ((48 : Int) ≤ (x : Int)) = true := by simp; omega
                  have u2 : (48 : Int) ≤ (x : Int) := by omega
                  have u3 : decide ((x : Int) ≤ 57) = false := by simp; omega
                  have u4 : ¬ (x : Int) ≤ 57 := by omega
                  clear h1 hx
                  go_wp2_with fail
                  go_meet
                  exact ⟨int_eq (by have h1 := HE.out.2; have h2 := HJ.out.1; omega), int_eq (by rw [HE.out.1]), rfl⟩
                · have u1 : decide ((48 : Int) ≤ (x : Int)) = false := by simp; omega
                  have u2 : ¬ (48 : Int) ≤ (x : Int) := by omega
                  clear h1 hx
                  go_wp2_with fail
                  go_meet
                  exact ⟨int_eq (by have h1 := HE.out.2; have h2 := HJ.out.1; omega), int_eq (by rw [HE.out.1]), rfl⟩
      case rest =>
        obtain ⟨rfl, rfl, rfl⟩ := hcut
        rw [HPP.out]
        by_cases q1 : C = 0
        · have c1 : (p2 : Int) = (p : Int) := by have := HPP.out; omega
          have HE : Hid (none = R) := Hid.mk' (by have := HER.out; rw [if_pos (.inl q1)] at this; exact this)
          have hpp : p2 = p := by omega
          subst hpp
          clear q1 c1 HER
          go_wp2_with fail
          go_ret2
          exact ⟨by rw [← HE.out]; rfl, (by rw [HG.out]; exact K1.out.2)⟩
        · have c1 : ¬ (p2 : Int) = (p : Int) := by have := HPP.out; omega
          have c2 : ((p2 : Int) == (p : Int)) = false := by simp; omega
          have c3 : (p2 == p) = false := by simp; omega
          by_cases q2 : 15 < C
          · have c4 : (15 : Int) < (C : Int) := by omega
            have c5 : decide ((15 : Int) < (C : Int)) = true := by simp; omega
            have HE : Hid (none = R) := Hid.mk' (by have := HER.out; rw [if_pos (.inr (.inl q2))] at this; exact this)
            clear q1 q2 HER
            go_wp2_with fail
            go_ret2
            exact ⟨by rw [← HE.out]; rfl, (by rw [HG.out]; exact K1.out.2)⟩
          · have c4 : ¬ (15 : Int) < (C : Int) := by omega
            have c5 : decide ((15 : Int) < (C : Int)) = false := by simp; omega
            by_cases q3 : x0 = 48
            · subst q3
              have HE : Hid (none = R) := Hid.mk' (by have := HER.out; rw [if_pos (.inr (.inr rfl))] at this; exact this)
              clear q1 q2 HER
              go_wp2_with fail
              go_ret2
              exact ⟨by rw [← HE.out]; rfl, (by rw [HG.out]; exact K1.out.2)⟩
            · have c6 : ¬ (x0 : Int) = 48 := by omega
              have c7 : ((x0 : Int) == 48) = false := by simp; omega
              have er := HER.out
              rw [if_neg (by rintro (h | h | h); exact q1 h; exact q2 h; exact q3 (by simpa using h))] at er
              obtain ⟨l2, hl2⟩ : ∃ l2, sL 16 l = l2 := ⟨_, rfl⟩
              obtain ⟨U, hU⟩ : ∃ U, lT 2 l2 = U := ⟨_, rfl⟩
              obtain ⟨V, hV⟩ : ∃ V, lR 2 l2 = V := ⟨_, rfl⟩
              obtain ⟨K, hK⟩ : ∃ K, kF U = K := ⟨_, rfl⟩
              rw [hl2, hU, hV, hK] at er
              have HP2 : Hid (p2 ≤ S.size ∧ (Sums.bl S).drop (p2 + 0) = l2 ∧ Sums.bl ⟨#[]⟩ ++ lT 2 l2 = U) := Hid.mk' ⟨by have h1 := HCC.out.2.1; have h2 := HPP.out; omega, by have h1 := HCC.out.1; rw [HPP.out, hl2] at h1; exact h1, hU⟩
              have HVV : Hid ((Sums.bl S).drop (p2 + U.length) = V ∧ p2 + U.length ≤ S.size ∧ p < p2 + U.length) := Hid.mk' (by
                have h1 := HCC.out.1
                rw [HPP.out, hl2] at h1
                have h3 := lR_drop 2 l2
                rw [hU, hV] at h3
                have h4 := lT_le 2 l2
                rw [hU] at h4
                have h5 := congrArg List.length h1
                rw [List.length_drop, Sums.bl_length] at h5
                have h6 := HCC.out.2.1
                have h7 := HPP.out
                exact ⟨by rw [← List.drop_drop, h1]; exact h3, by omega, by omega⟩)
              have HKK := Hid.mk' hK
              have HER2 := Hid.mk' er
              clear er HER hl2 hU hV hK
              clear q1 q2 q3
              go_upto_block 4 with fail
              go_cut [7, 11] (fun av uv wc => ∃ t : ByteArray, av = .int .i64 (((p2 + U.length : Nat)) : Int) ∧ uv = .string t ∧ Hid (Sums.bl t = U) ∧ wr = wc)
              case first =>
                go_wp2_with fail
                go_loopw [7, 11] (fun av uv wq => ∃ (j k : Nat) (t : ByteArray) (l' : List Nat), av = .int .i64 (((p2 + j : Nat)) : Int) ∧ uv = .string t ∧ j + k = 2 ∧ t.size = j ∧ p2 + j ≤ S.size ∧ Hid ((Sums.bl S).drop (p2 + j) = l') ∧ Hid (Sums.bl t ++ lT k l' = U) ∧ wq = wr) (fun av _ _ => p2 + 2 - (intOf av).toNat)
                case atStart => exact ⟨0, 2, ⟨#[]⟩, l2, by simp, rfl, rfl, rfl, by have := HP2.out.1; omega, Hid.mk' HP2.out.2.1, Hid.mk' HP2.out.2.2, rfl⟩
                case round =>
                  obtain ⟨j, k, t, l', rfl, rfl, hjk, hts, hpj, hl', hn, rfl⟩ := hrel
                  obtain ⟨q, hq⟩ : ∃ q, p2 + j = q := ⟨_, rfl⟩
                  rw [hq] at hpj hl' ⊢
                  have hqb : (q : Int) ≤ 1152921504606846976 := by omega
                  have htI : (t.size : Int) ≤ 2 := by omega
                  have HJ := Hid.mk' (And.intro hq (And.intro hjk (And.intro hpj hts)))
                  cases l' with
                  | nil =>
                    have hqe := at_nil S q hpj hl'.out
                    have e1 := hn.out
                    have e3 : lT k [] = [] := by cases k <;> rfl
                    rw [e3, List.append_nil] at e1
                    have HE := Hid.mk' e1
                    have t1 : ¬ (q : Int) < (S.size : Int) := by omega
                    have t2 : ¬ q < S.size := by omega
                    have t3 : decide (q < S.size) = false := by simp; omega
                    clear e1 e3 hqe hq hjk hpj hts
                    go_wp2_with fail
                    go_meet
                    exact ⟨t, int_eq (by have h2 := HJ.out; rw [← HE.out, Sums.bl_length]; omega), rfl, HE, rfl⟩
                  | cons x r =>
                    have hi := at_idx S q x r hl'.out
                    obtain ⟨n1, n2, n3⟩ := at_facts S q x r hl'.out
                    have t1 : (q : Int) < (S.size : Int) := by omega
                    have t2 : q < S.size := n1
                    have t3 : decide (q < S.size) = true := by simp; omega
                    have hsl := fun W => sl_one S q n1 W
                    have HN3 := Hid.mk' n3
                    have HN1 := Hid.mk' n1
                    by_cases h1 : 97 ≤ x
                    · have u1 : decide ((97 : Int) ≤ (x : Int)) = true := by simp; omega
                      have u2 : (97 : Int) ≤ (x : Int) := by omega
                      cases k with
                      | zero =>
                        have t4 : ¬ (t.size : Int) < 2 := by omega
                        have t5 : decide ((t.size : Int) < 2) = false := by simp; omega
                        have t6 : ¬ t.size < 2 := by omega
                        have e1 := hn.out
                        rw [lT, List.append_nil] at e1
                        have HE := Hid.mk' e1
                        clear e1 hq hjk hpj hts n1 n3 h1
                        go_wp2_with fail
                        go_meet
                        exact ⟨t, int_eq (by have h2 := HJ.out; rw [← HE.out, Sums.bl_length]; omega), rfl, HE, rfl⟩
                      | succ k =>
                        have t4 : (t.size : Int) < 2 := by omega
                        have t5 : decide ((t.size : Int) < 2) = true := by simp; omega
                        have t6 : t.size < 2 := by omega
                        obtain ⟨o, ho⟩ : ∃ o, S.extract q (q + 1) = o := ⟨_, rfl⟩
                        rw [ho] at hsl
                        have hbo : Sums.bl o = [x] := by
                          rw [← ho, Sums.bl_extract, List.drop_take, hl'.out, show q + 1 - q = 1 by omega]; rfl
                        have hos : o.size = 1 := by rw [← Sums.bl_length, hbo]; rfl
                        have hosI : (o.size : Int) ≤ 1 := by omega
                        have e1 := hn.out
                        rw [lT, if_pos h1] at e1
                        have HE : Hid (Sums.bl (t ++ o) ++ lT k r = U) := Hid.mk' (by rw [Sums.bl_append, hbo, List.append_assoc]; exact e1)
                        have HOS : Hid ((t ++ o).size = j + 1) := Hid.mk' (by rw [ByteArray.size_append, hos, hts])
                        clear e1 hq hjk hpj hts n1 n3 h1 ho hbo hos
                        go_wp2_with fail
                        go_roundw
                        case rel => exact ⟨j + 1, k, t ++ o, r, int_eq (by have := HJ.out.1; omega), rfl, by have := HJ.out; omega, HOS.out, by have h1 := HJ.out; have h2 := HN1.out; omega, Hid.mk' (by have h1 := HJ.out.1; rw [show p2 + (j + 1) = q + 1 by omega]; exact HN3.out), HE, by first | rfl | trivial⟩
                        case measure => have := HJ.out; simp [intOf]; omega
                    · have u1 : decide ((97 : Int) ≤ (x : Int)) = false := by simp; omega
                      have u2 : ¬ (97 : Int) ≤ (x : Int) := by omega
                      have e1 := hn.out
                      have e3 : lT k (x :: r) = [] := by cases k with
                        | zero => rfl
                        | succ k => rw [lT, if_neg h1]
                      rw [e3, List.append_nil] at e1
                      have HE := Hid.mk' e1
                      clear e1 e3 hq hjk hpj hts n1 n3 h1
                      go_wp2_with fail
                      go_meet
                      exact ⟨t, int_eq (by have h2 := HJ.out; rw [← HE.out, Sums.bl_length]; omega), rfl, HE, rfl⟩
              case rest =>
                obtain ⟨t, rfl, rfl, ht, rfl⟩ := hcut
                go_upto_block 6 with fail
                go_cut [12, 13] (fun kv iv wc => kv = .int .i64 K ∧ wr = wc)
                case first =>
                  go_wp2_with fail
                  go_loopw [12, 13] (fun kv iv wq => ∃ (i k : Nat) (v : Int), kv = .int .i64 v ∧ iv = .int .i64 ((i : Nat) : Int) ∧ i + k = 5 ∧ Hid (kI U k i v = K) ∧ wq = wr) (fun _ iv _ => 5 - (intOf iv).toNat)
                  case atStart => exact ⟨0, 5, -1, rfl, rfl, rfl, HKK, rfl⟩
                  case round =>
                    obtain ⟨i, k, v, rfl, rfl, hik, hR, rfl⟩ := hrel
                    have n0 := K1.out.1.n0
                    have n1 := K1.out.1.n1
                    have n2 := K1.out.1.n2
                    have n3 := K1.out.1.n3
                    have n4 := K1.out.1.n4
                    cases k with
                    | zero =>
                      obtain rfl : i = 5 := by omega
                      have e := hR.out
                      rw [kI] at e
                      have HE := Hid.mk' e
                      clear e
                      go_wp2_with fail
                      go_meet
                      exact ⟨by rw [HE.out], rfl⟩
                    | succ k =>
                      have e := hR.out
                      rw [kI, ← ht.out] at e
                      rcases (show i = 0 ∨ i = 1 ∨ i = 2 ∨ i = 3 ∨ i = 4 by omega) with rfl | rfl | rfl | rfl | rfl
                      · obtain ⟨y1, y2⟩ := name_eq [100] t [100] (by decide)
                        rw [show uname 0 = [100] from rfl] at e
                        by_cases hy : [100] = Sums.bl t
                        · rw [if_pos hy] at e
                          have z1 := y1 hy
                          rw [ht.out] at e
                          have HE := Hid.mk' e
                          clear e y1 y2 hy
                          go_wp2_with fail
                          go_roundw
                          case rel => exact ⟨1, k, 0, by first | rfl | simp, by first | rfl | simp, by omega, HE, by first | rfl | trivial⟩
                          case measure => simp [intOf]
                        · rw [if_neg hy] at e
                          have z1 := y2 hy
                          rw [ht.out] at e
                          have HE := Hid.mk' e
                          clear e y1 y2 hy
                          go_wp2_with fail
                          go_roundw
                          case rel => exact ⟨1, k, v, rfl, by first | rfl | simp, by omega, HE, by first | rfl | trivial⟩
                          case measure => simp [intOf]
                      · obtain ⟨y1, y2⟩ := name_eq [104] t [104] (by decide)
                        rw [show uname 1 = [104] from rfl] at e
                        by_cases hy : [104] = Sums.bl t
                        · rw [if_pos hy] at e
                          have z1 := y1 hy
                          rw [ht.out] at e
                          have HE := Hid.mk' e
                          clear e y1 y2 hy
                          go_wp2_with fail
                          go_roundw
                          case rel => exact ⟨2, k, 1, by first | rfl | simp, by first | rfl | simp, by omega, HE, by first | rfl | trivial⟩
                          case measure => simp [intOf]
                        · rw [if_neg hy] at e
                          have z1 := y2 hy
                          rw [ht.out] at e
                          have HE := Hid.mk' e
                          clear e y1 y2 hy
                          go_wp2_with fail
                          go_roundw
                          case rel => exact ⟨2, k, v, rfl, by first | rfl | simp, by omega, HE, by first | rfl | trivial⟩
                          case measure => simp [intOf]
                      · obtain ⟨y1, y2⟩ := name_eq [109] t [109] (by decide)
                        rw [show uname 2 = [109] from rfl] at e
                        by_cases hy : [109] = Sums.bl t
                        · rw [if_pos hy] at e
                          have z1 := y1 hy
                          rw [ht.out] at e
                          have HE := Hid.mk' e
                          clear e y1 y2 hy
                          go_wp2_with fail
                          go_roundw
                          case rel => exact ⟨3, k, 2, by first | rfl | simp, by first | rfl | simp, by omega, HE, by first | rfl | trivial⟩
                          case measure => simp [intOf]
                        · rw [if_neg hy] at e
                          have z1 := y2 hy
                          rw [ht.out] at e
                          have HE := Hid.mk' e
                          clear e y1 y2 hy
                          go_wp2_with fail
                          go_roundw
                          case rel => exact ⟨3, k, v, rfl, by first | rfl | simp, by omega, HE, by first | rfl | trivial⟩
                          case measure => simp [intOf]
                      · obtain ⟨y1, y2⟩ := name_eq [115] t [115] (by decide)
                        rw [show uname 3 = [115] from rfl] at e
                        by_cases hy : [115] = Sums.bl t
                        · rw [if_pos hy] at e
                          have z1 := y1 hy
                          rw [ht.out] at e
                          have HE := Hid.mk' e
                          clear e y1 y2 hy
                          go_wp2_with fail
                          go_roundw
                          case rel => exact ⟨4, k, 3, by first | rfl | simp, by first | rfl | simp, by omega, HE, by first | rfl | trivial⟩
                          case measure => simp [intOf]
                        · rw [if_neg hy] at e
                          have z1 := y2 hy
                          rw [ht.out] at e
                          have HE := Hid.mk' e
                          clear e y1 y2 hy
                          go_wp2_with fail
                          go_roundw
                          case rel => exact ⟨4, k, v, rfl, by first | rfl | simp, by omega, HE, by first | rfl | trivial⟩
                          case measure => simp [intOf]
                      · obtain ⟨y1, y2⟩ := name_eq [109, 115] t [109, 115] (by decide)
                        rw [show uname 4 = [109, 115] from rfl] at e
                        by_cases hy : [109, 115] = Sums.bl t
                        · rw [if_pos hy] at e
                          have z1 := y1 hy
                          rw [ht.out] at e
                          have HE := Hid.mk' e
                          clear e y1 y2 hy
                          go_wp2_with fail
                          go_roundw
                          case rel => exact ⟨5, k, 4, by first | rfl | simp, by first | rfl | simp, by omega, HE, by first | rfl | trivial⟩
                          case measure => simp [intOf]
                        · rw [if_neg hy] at e
                          have z1 := y2 hy
                          rw [ht.out] at e
                          have HE := Hid.mk' e
                          clear e y1 y2 hy
                          go_wp2_with fail
                          go_roundw
                          case rel => exact ⟨5, k, v, rfl, by first | rfl | simp, by omega, HE, by first | rfl | trivial⟩
                          case measure => simp [intOf]
                case rest =>
                  obtain ⟨rfl, rfl⟩ := hcut
                  have m0 := K1.out.1.m0
                  have m1 := K1.out.1.m1
                  have m2 := K1.out.1.m2
                  have m3 := K1.out.1.m3
                  have m4 := K1.out.1.m4
                  have er := HER2.out
                  clear HER2
                  have hKr := kF_is U
                  rw [HKK.out] at hKr
                  by_cases k1 : K ≤ la
                  · have d1 : decide (K ≤ la) = true := by simp; omega
                    rw [if_pos (by have := hnx.out; omega)] at er
                    have HE := Hid.mk' er
                    clear er hKr
                    go_wp2_with fail
                    go_ret2
                    exact ⟨by rw [← HE.out]; rfl, (by rw [HG.out]; exact K1.out.2)⟩
                  · rw [if_neg (by have := hnx.out; omega)] at er
                    have HPV := HVV
                    obtain ⟨p3, hp3⟩ : ∃ p3, p2 + U.length = p3 := ⟨_, rfl⟩
                    rw [hp3] at HPV ⊢
                    clear hp3 HVV
                    rcases (show K = 0 ∨ K = 1 ∨ K = 2 ∨ K = 3 ∨ K = 4 by omega) with rfl | rfl | rfl | rfl | rfl
                    · have k2 : ¬ (0 : Int) ≤ la := k1
                      have d1 : decide ((0 : Int) ≤ la) = false := by simp; omega
                      rw [show unum ((0 : Int)).toNat = 86400000 from rfl, show 253402300799999 / 86400000 = 2932896 from rfl, show ((0 : Int)).toNat + 1 = 1 from rfl] at er
                      clear hKr
                      by_cases q1 : 2932896 < N
                      · have c1 : (2932896 : Int) < (N : Int) := by omega
                        have c2 : decide ((2932896 : Int) < (N : Int)) = true := by simp; omega
                        rw [if_pos q1] at er
                        have HE := Hid.mk' er
                        clear er q1 k1
                        go_wp2_with fail
                        go_ret2
                        exact ⟨by rw [← HE.out]; rfl, (by rw [HG.out]; exact K1.out.2)⟩
                      · have c1 : ¬ (2932896 : Int) < (N : Int) := by omega
                        have c2 : decide ((2932896 : Int) < (N : Int)) = false := by simp; omega
                        rw [if_neg q1] at er
                        obtain ⟨Z, hZ⟩ : ∃ Z, sum + N * 86400000 = Z := ⟨_, rfl⟩
                        rw [hZ] at er
                        have hZI : (sum : Int) + (N : Int) * 86400000 = (Z : Int) := by omega
                        have hZI1 : (sum : Int) + (N : Int) = (Z : Int) ∨ 86400000 ≠ 1 := by omega
                        have hZb : Z ≤ 600000000000000 := by omega
                        by_cases q2 : 253402300799999 < Z
                        · have c3 : (253402300799999 : Int) < (Z : Int) := by omega
                          rw [if_pos q2] at er
                          have HE := Hid.mk' er
                          clear er q1 k1 q2 hZ hZI1
                          go_wp2_with fail
                          go_ret2
                          exact ⟨by rw [← HE.out]; rfl, (by rw [HG.out]; exact K1.out.2)⟩
                        · have c3 : ¬ (253402300799999 : Int) < (Z : Int) := by omega
                          rw [if_neg q2] at er
                          have HE : Hid (rsF f ((Sums.bl S).drop p3) Z 1 = R) := Hid.mk' (by rw [HPV.out.1]; exact er)
                          have HF : Hid (S.size < p3 + f ∧ p3 ≤ S.size ∧ Z ≤ 253402300799999 ∧ p < p3 ∧ p ≤ S.size) := Hid.mk' (by have h1 := HPV.out.2; omega)
                          clear er q1 k1 q2 hZ hZI1
                          go_wp2_with fail
                          go_roundw
                          case rel => exact ⟨f, p3, Z, 1, 0, by first | rfl | exact int_eq (by omega), rfl, rfl, HF.out.2.1, HF.out.2.2.1, by decide, by decide, HF.out.1, Hid.mk' (by decide), HE, by first | rfl | trivial⟩
                          case measure => have := HF.out; simp [intOf]; omega
                    · have k2 : ¬ (1 : Int) ≤ la := k1
                      have d1 : decide ((1 : Int) ≤ la) = false := by simp; omega
                      rw [show unum ((1 : Int)).toNat = 3600000 from rfl, show 253402300799999 / 3600000 = 70389527 from rfl, show ((1 : Int)).toNat + 1 = 2 from rfl] at er
                      clear hKr
                      by_cases q1 : 70389527 < N
                      · have c1 : (70389527 : Int) < (N : Int) := by omega
                        have c2 : decide ((70389527 : Int) < (N : Int)) = true := by simp; omega
                        rw [if_pos q1] at er
                        have HE := Hid.mk' er
                        clear er q1 k1
                        go_wp2_with fail
                        go_ret2
                        exact ⟨by rw [← HE.out]; rfl, (by rw [HG.out]; exact K1.out.2)⟩
                      · have c1 : ¬ (70389527 : Int) < (N : Int) := by omega
                        have c2 : decide ((70389527 : Int) < (N : Int)) = false := by simp; omega
                        rw [if_neg q1] at er
                        obtain ⟨Z, hZ⟩ : ∃ Z, sum + N * 3600000 = Z := ⟨_, rfl⟩
                        rw [hZ] at er
                        have hZI : (sum : Int) + (N : Int) * 3600000 = (Z : Int) := by omega
                        have hZI1 : (sum : Int) + (N : Int) = (Z : Int) ∨ 3600000 ≠ 1 := by omega
                        have hZb : Z ≤ 600000000000000 := by omega
                        by_cases q2 : 253402300799999 < Z
                        · have c3 : (253402300799999 : Int) < (Z : Int) := by omega
                          rw [if_pos q2] at er
                          have HE := Hid.mk' er
                          clear er q1 k1 q2 hZ hZI1
                          go_wp2_with fail
                          go_ret2
                          exact ⟨by rw [← HE.out]; rfl, (by rw [HG.out]; exact K1.out.2)⟩
                        · have c3 : ¬ (253402300799999 : Int) < (Z : Int) := by omega
                          rw [if_neg q2] at er
                          have HE : Hid (rsF f ((Sums.bl S).drop p3) Z 2 = R) := Hid.mk' (by rw [HPV.out.1]; exact er)
                          have HF : Hid (S.size < p3 + f ∧ p3 ≤ S.size ∧ Z ≤ 253402300799999 ∧ p < p3 ∧ p ≤ S.size) := Hid.mk' (by have h1 := HPV.out.2; omega)
                          clear er q1 k1 q2 hZ hZI1
                          go_wp2_with fail
                          go_roundw
                          case rel => exact ⟨f, p3, Z, 2, 1, by first | rfl | exact int_eq (by omega), rfl, rfl, HF.out.2.1, HF.out.2.2.1, by decide, by decide, HF.out.1, Hid.mk' (by decide), HE, by first | rfl | trivial⟩
                          case measure => have := HF.out; simp [intOf]; omega
                    · have k2 : ¬ (2 : Int) ≤ la := k1
                      have d1 : decide ((2 : Int) ≤ la) = false := by simp; omega
                      rw [show unum ((2 : Int)).toNat = 60000 from rfl, show 253402300799999 / 60000 = 4223371679 from rfl, show ((2 : Int)).toNat + 1 = 3 from rfl] at er
                      clear hKr
                      by_cases q1 : 4223371679 < N
                      · have c1 : (4223371679 : Int) < (N : Int) := by omega
                        have c2 : decide ((4223371679 : Int) < (N : Int)) = true := by simp; omega
                        rw [if_pos q1] at er
                        have HE := Hid.mk' er
                        clear er q1 k1
                        go_wp2_with fail
                        go_ret2
                        exact ⟨by rw [← HE.out]; rfl, (by rw [HG.out]; exact K1.out.2)⟩
                      · have c1 : ¬ (4223371679 : Int) < (N : Int) := by omega
                        have c2 : decide ((4223371679 : Int) < (N : Int)) = false := by simp; omega
                        rw [if_neg q1] at er
                        obtain ⟨Z, hZ⟩ : ∃ Z, sum + N * 60000 = Z := ⟨_, rfl⟩
                        rw [hZ] at er
                        have hZI : (sum : Int) + (N : Int) * 60000 = (Z : Int) := by omega
                        have hZI1 : (sum : Int) + (N : Int) = (Z : Int) ∨ 60000 ≠ 1 := by omega
                        have hZb : Z ≤ 600000000000000 := by omega
                        by_cases q2 : 253402300799999 < Z
                        · have c3 : (253402300799999 : Int) < (Z : Int) := by omega
                          rw [if_pos q2] at er
                          have HE := Hid.mk' er
                          clear er q1 k1 q2 hZ hZI1
                          go_wp2_with fail
                          go_ret2
                          exact ⟨by rw [← HE.out]; rfl, (by rw [HG.out]; exact K1.out.2)⟩
                        · have c3 : ¬ (253402300799999 : Int) < (Z : Int) := by omega
                          rw [if_neg q2] at er
                          have HE : Hid (rsF f ((Sums.bl S).drop p3) Z 3 = R) := Hid.mk' (by rw [HPV.out.1]; exact er)
                          have HF : Hid (S.size < p3 + f ∧ p3 ≤ S.size ∧ Z ≤ 253402300799999 ∧ p < p3 ∧ p ≤ S.size) := Hid.mk' (by have h1 := HPV.out.2; omega)
                          clear er q1 k1 q2 hZ hZI1
                          go_wp2_with fail
                          go_roundw
                          case rel => exact ⟨f, p3, Z, 3, 2, by first | rfl | exact int_eq (by omega), rfl, rfl, HF.out.2.1, HF.out.2.2.1, by decide, by decide, HF.out.1, Hid.mk' (by decide), HE, by first | rfl | trivial⟩
                          case measure => have := HF.out; simp [intOf]; omega
                    · have k2 : ¬ (3 : Int) ≤ la := k1
                      have d1 : decide ((3 : Int) ≤ la) = false := by simp; omega
                      rw [show unum ((3 : Int)).toNat = 1000 from rfl, show 253402300799999 / 1000 = 253402300799 from rfl, show ((3 : Int)).toNat + 1 = 4 from rfl] at er
                      clear hKr
                      by_cases q1 : 253402300799 < N
                      · have c1 : (253402300799 : Int) < (N : Int) := by omega
                        have c2 : decide ((253402300799 : Int) < (N : Int)) = true := by simp; omega
                        rw [if_pos q1] at er
                        have HE := Hid.mk' er
                        clear er q1 k1
                        go_wp2_with fail
                        go_ret2
                        exact ⟨by rw [← HE.out]; rfl, (by rw [HG.out]; exact K1.out.2)⟩
                      · have c1 : ¬ (253402300799 : Int) < (N : Int) := by omega
                        have c2 : decide ((253402300799 : Int) < (N : Int)) = false := by simp; omega
                        rw [if_neg q1] at er
                        obtain ⟨Z, hZ⟩ : ∃ Z, sum + N * 1000 = Z := ⟨_, rfl⟩
                        rw [hZ] at er
                        have hZI : (sum : Int) + (N : Int) * 1000 = (Z : Int) := by omega
                        have hZI1 : (sum : Int) + (N : Int) = (Z : Int) ∨ 1000 ≠ 1 := by omega
                        have hZb : Z ≤ 600000000000000 := by omega
                        by_cases q2 : 253402300799999 < Z
                        · have c3 : (253402300799999 : Int) < (Z : Int) := by omega
                          rw [if_pos q2] at er
                          have HE := Hid.mk' er
                          clear er q1 k1 q2 hZ hZI1
                          go_wp2_with fail
                          go_ret2
                          exact ⟨by rw [← HE.out]; rfl, (by rw [HG.out]; exact K1.out.2)⟩
                        · have c3 : ¬ (253402300799999 : Int) < (Z : Int) := by omega
                          rw [if_neg q2] at er
                          have HE : Hid (rsF f ((Sums.bl S).drop p3) Z 4 = R) := Hid.mk' (by rw [HPV.out.1]; exact er)
                          have HF : Hid (S.size < p3 + f ∧ p3 ≤ S.size ∧ Z ≤ 253402300799999 ∧ p < p3 ∧ p ≤ S.size) := Hid.mk' (by have h1 := HPV.out.2; omega)
                          clear er q1 k1 q2 hZ hZI1
                          go_wp2_with fail
                          go_roundw
                          case rel => exact ⟨f, p3, Z, 4, 3, by first | rfl | exact int_eq (by omega), rfl, rfl, HF.out.2.1, HF.out.2.2.1, by decide, by decide, HF.out.1, Hid.mk' (by decide), HE, by first | rfl | trivial⟩
                          case measure => have := HF.out; simp [intOf]; omega
                    · have k2 : ¬ (4 : Int) ≤ la := k1
                      have d1 : decide ((4 : Int) ≤ la) = false := by simp; omega
                      rw [show unum ((4 : Int)).toNat = 1 from rfl, show 253402300799999 / 1 = 253402300799999 from rfl, show ((4 : Int)).toNat + 1 = 5 from rfl] at er
                      clear hKr
                      by_cases q1 : 253402300799999 < N
                      · have c1 : (253402300799999 : Int) < (N : Int) := by omega
                        have c2 : decide ((253402300799999 : Int) < (N : Int)) = true := by simp; omega
                        rw [if_pos q1] at er
                        have HE := Hid.mk' er
                        clear er q1 k1
                        go_wp2_with fail
                        go_ret2
                        exact ⟨by rw [← HE.out]; rfl, (by rw [HG.out]; exact K1.out.2)⟩
                      · have c1 : ¬ (253402300799999 : Int) < (N : Int) := by omega
                        have c2 : decide ((253402300799999 : Int) < (N : Int)) = false := by simp; omega
                        rw [if_neg q1] at er
                        obtain ⟨Z, hZ⟩ : ∃ Z, sum + N * 1 = Z := ⟨_, rfl⟩
                        rw [hZ] at er
                        have hZI : (sum : Int) + (N : Int) * 1 = (Z : Int) := by omega
                        have hZI1 : (sum : Int) + (N : Int) = (Z : Int) ∨ 1 ≠ 1 := by omega
                        have hZb : Z ≤ 600000000000000 := by omega
                        by_cases q2 : 253402300799999 < Z
                        · have c3 : (253402300799999 : Int) < (Z : Int) := by omega
                          rw [if_pos q2] at er
                          have HE := Hid.mk' er
                          clear er q1 k1 q2 hZ hZI1
                          go_wp2_with fail
                          go_ret2
                          exact ⟨by rw [← HE.out]; rfl, (by rw [HG.out]; exact K1.out.2)⟩
                        · have c3 : ¬ (253402300799999 : Int) < (Z : Int) := by omega
                          rw [if_neg q2] at er
                          have HE : Hid (rsF f ((Sums.bl S).drop p3) Z 5 = R) := Hid.mk' (by rw [HPV.out.1]; exact er)
                          have HF : Hid (S.size < p3 + f ∧ p3 ≤ S.size ∧ Z ≤ 253402300799999 ∧ p < p3 ∧ p ≤ S.size) := Hid.mk' (by have h1 := HPV.out.2; omega)
                          clear er q1 k1 q2 hZ hZI1
                          go_wp2_with fail
                          go_roundw
                          case rel => exact ⟨f, p3, Z, 5, 4, by first | rfl | exact int_eq (by omega), rfl, rfl, HF.out.2.1, HF.out.2.2.1, by decide, by decide, HF.out.1, Hid.mk' (by decide), HE, by first | rfl | trivial⟩
                          case measure => have := HF.out; simp [intOf]; omega
end Go.Proofs.YthmpokndffbkdaaDoor
