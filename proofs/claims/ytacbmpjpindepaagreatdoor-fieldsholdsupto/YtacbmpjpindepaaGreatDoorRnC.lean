/-
  The document's own Number: any text. Conditions: as it says.
-/
import Derived.Test.YtacbmpjpindepaaGreatDoorRnB
import Derived.Test.YtacbmpjpindepaaGreatDoorRnA
namespace Go.Proofs.YtacbmpjpindepaaGreatDoor
open Go.RowKit
set_option linter.unusedVariables false
set_option linter.unusedSimpArgs false
theorem dig_of (c : Nat) (h : digB c = true) : ∃ d, c = 48 + d ∧ d ≤ 9 := by
  unfold digB at h
  simp at h
  exact ⟨c - 48, by omega, by omega⟩
theorem dc_step (l : List Nat) (k c : Nat) (a : Nat) (hk : l[k]? = some c) : dcN (l.take (k + 1)) a = dcN (l.take k) a * 10 + (c - 48) := by
  rw [List.take_add_one, hk, dcN_app]
  rfl
theorem dc_lt (l : List Nat) (k a : Nat) (h : ∀ z ∈ l, digB z = true) (hk : k ≤ l.length) : dcN (l.take k) a < (a + 1) * 10 ^ k := by
  have := dcN_lt (l.take k) a (fun z hz => h z (List.mem_of_mem_take hz))
  rw [List.length_take, Nat.min_eq_left hk] at this
  exact this
theorem drop_get (S : ByteArray) (a k c : Nat) (h : ((Sums.bl S).drop a)[k]? = some c) (W : World) : (Instr.index 9 (.string S) (.int .i64 ((a + k : Nat) : Int))).run Tryz.prog W = .ok (.int .u8 (c : Int)) W := by
  rw [List.getElem?_drop] at h
  have hl := (List.getElem?_eq_some_iff.1 h).1
  exact ob_idx S (a + k) c ((Sums.bl S).drop (a + k + 1)) (by rw [List.drop_eq_getElem_cons hl]; congr 1; exact (List.getElem?_eq_some_iff.1 h).2) W
set_option maxRecDepth 100000 in
set_option maxHeartbeats 16000000 in
theorem rNumber_any (S : ByteArray) (w : World) (hS : S.size ≤ 281474976710656) : Calls Tryz.prog 18 #[.string S] w fun e w' => e = .returned (.tuple #[.int .i64 (nbF (Sums.bl S)).1, .bool (nbF (Sums.bl S)).2]) ∧ w' = w := by
  have hSI : (S.size : Int) ≤ 281474976710656 := by omega
  by_cases hz : S.size = 0
  · have hl : Sums.bl S = [] := List.eq_nil_of_length_eq_zero (by rw [Sums.bl_length]; exact hz)
    have hse : S = ByteArray.empty := Sums.bl_inj (hl.trans rfl)
    subst hse
    have HD : Hid (∀ X, Calls Tryz.prog 37 #[.string ByteArray.empty, .int .i64 0] X fun e w' => e = .returned (.int .i64 0) ∧ w' = X) := Hid.mk' (fun X => rDigits_any ByteArray.empty 0 X hS (by omega))
    have e : nbF (Sums.bl ByteArray.empty) = (0, false) := rfl
    rw [e]
    clear hl hz e hS
    go_enter Tryz.func18, Tryz.ntmps18
    go_wp2_with fail
    refine (HD.out _).mono ?_
    rintro e w2 ⟨rfl, hw2⟩
    have HW := Hid.mk' hw2
    clear hw2 HD
    go_wp2_with fail
    refine ⟨rfl, _, ?_, rfl, HW.out⟩
    simp [results, Tryz.f18, go_sem]
  · have hp0 : (0 : Int) < (S.size : Int) := by omega
    obtain ⟨c0, rest, hd⟩ : ∃ c rest, Sums.bl S = c :: rest := by
      cases hd : Sums.bl S with
      | nil => have := Sums.bl_length S; rw [hd] at this; simp at this; omega
      | cons c rest => exact ⟨c, rest, rfl⟩
    have hidx0 : ∀ W, (Instr.index 9 (.string S) (.int .i64 0)).run Tryz.prog W = .ok (.int .u8 (c0 : Int)) W := fun W => ob_idx S 0 c0 rest hd W
    by_cases h45 : c0 = 45
    · subst h45
      have hidx1 : ∀ W, (Instr.index 9 (.string S) (.int .i64 0)).run Tryz.prog W = .ok (.int .u8 45) W := hidx0
      obtain ⟨A, hA⟩ : ∃ A, (Sums.bl S).drop 1 = A := ⟨_, rfl⟩
      have hnb : nbF (Sums.bl S) = nbA true A (ixF 46 A) := by
        unfold nbF
        rw [show hasO 45 (Sums.bl S) = true by rw [hd]; rfl, if_pos rfl, hA]
      clear hidx0 hd
      have HD : Hid (∀ X, Calls Tryz.prog 37 #[.string S, .int .i64 1] X fun e w' => e = .returned (.int .i64 ((rwS digB A : Nat) : Int)) ∧ w' = X) := Hid.mk' (fun X => by rw [← hA]; exact rDigits_any S 1 X hS (by omega))
      have hAl : A.length = S.size - 1 := by rw [← hA, List.length_drop, Sums.bl_length]
      have hle := rwS_le digB A
      have htk := rw_take digB A
      have HRF : Hid (nbF (Sums.bl S) = rfA true A) := Hid.mk' (by rw [rf_is]; exact hnb)
      unfold rfA at HRF
      obtain ⟨R, hR⟩ : ∃ R, nbF (Sums.bl S) = R := ⟨_, rfl⟩
      rw [hR] at HRF ⊢
      obtain ⟨q0, hq0⟩ : ∃ q0, rwS digB A = q0 := ⟨_, rfl⟩
      rw [hq0] at HRF HD hle htk
      have hwI : (q0 : Int) ≤ 281474976710656 := by omega
      clear hnb hR hq0
      by_cases h9 : 1 ≤ q0 ∧ q0 ≤ 9
      · obtain ⟨h1, h9b⟩ := h9
        have d1 : decide ((q0 : Int) < 1) = false := decide_eq_false (by omega)
        have d2 : decide (9 < (q0 : Int)) = false := decide_eq_false (by omega)
        have d3 : decide (q0 < 1) = false := decide_eq_false (by omega)
        have d4 : decide (9 < q0) = false := decide_eq_false (by omega)
        have HR1 := Hid.mk' (HRF.out.trans (if_pos ⟨h1, h9b⟩))
        have HTK := Hid.mk' htk
        have HAI : Hid (∀ (k c : Nat), A[k]? = some c → ∀ W, (Instr.index 9 (.string S) (.int .i64 (1 + (k : Int)))).run Tryz.prog W = .ok (.int .u8 (c : Int)) W) := Hid.mk' (fun k c h W => by
          have h2 := drop_get S 1 k c (by rw [hA]; exact h) W
          rw [show ((1 + k : Nat) : Int) = 1 + (k : Int) by omega] at h2
          exact h2)
        have HLE := Hid.mk' (And.intro hle hAl)
        clear HRF htk
        go_enter Tryz.func18, Tryz.ntmps18
        go_wp2_with fail
        refine (HD.out _).mono ?_
        rintro e w2 ⟨rfl, hw2⟩
        have HW : Hid (w2 = w) := Hid.mk' hw2
        clear hw2 HD
        go_wp2_with fail
        go_loopw [6, 7] (fun nv iv wr => ∃ (j n : Nat), nv = .int .i64 (n : Int) ∧ iv = .int .i64 (1 + (j : Int)) ∧ j ≤ q0 ∧ n < 10 ^ j ∧ Hid (n = dcN (A.take j) 0) ∧ Hid (wr = w)) (fun _ iv _ => q0 + 1 - (intOf iv).toNat)
        case atStart => exact ⟨0, 0, by simp, by simp, by omega, by decide, rfl, HW⟩
        case round =>
          obtain ⟨j, n, rfl, rfl, hj, hn, HN, HW⟩ := hrel
          rename World => wr
          have hnb : n ≤ 1000000000 := by
            have h3 : (10 : Nat) ^ j ≤ 10 ^ 9 := Nat.pow_le_pow_right (by decide) (by omega)
            have h4 : (10 : Nat) ^ 9 = 1000000000 := by decide
            omega
          by_cases hjq : j < q0
          · have hjI : (j : Int) < (q0 : Int) := by omega
            obtain ⟨c, hc⟩ : ∃ c, A[j]? = some c := ⟨_, List.getElem?_eq_getElem (by have := HLE.out.1; omega)⟩
            obtain ⟨d, rfl, hd9⟩ := dig_of c (HTK.out c (List.mem_of_getElem? (i := j) (by rw [List.getElem?_take, if_pos hjq]; exact hc)))
            have hidx := HAI.out j (48 + d) hc
            have HN2 : Hid (n * 10 + d = dcN (A.take (j + 1)) 0) := Hid.mk' (by rw [dc_step _ _ _ _ hc, ← HN.out]; omega)
            have hn3 : n * 10 + d < 10 ^ (j + 1) := by rw [Nat.pow_succ]; omega
            have hcI : ((48 + d : Nat) : Int) = 48 + (d : Int) := by omega
            rw [hcI] at hidx
            have hsb : (48 + (d : Int)) - 48 = (d : Int) := by omega
            have hw8 : IntKind.u8.wrap (d : Int) = (d : Int) := by rw [IntKind.wrap_u8]; omega
            clear hc hcI hn
            go_wp2_with fail
            go_roundw
            case rel => exact ⟨j + 1, n * 10 + d, by go_num, by go_num, by omega, hn3, HN2, HW⟩
            case measure => simp [intOf]; omega
          · obtain rfl : j = q0 := by omega
            obtain ⟨x, hx⟩ : ∃ x, n = x := ⟨_, rfl⟩
            have hx9 : x < 1000000000 := by
              have h3 : (10 : Nat) ^ j ≤ 10 ^ 9 := Nat.pow_le_pow_right (by decide) (by omega)
              have h4 : (10 : Nat) ^ 9 = 1000000000 := by decide
              omega
            rw [hx] at HN hnb ⊢
            clear hn hx hjq
            by_cases hlen : A.length = j
            · have hsz : S.size = 1 + j := by have := HLE.out.2; omega
              have e1 : decide (1 + (j : Int) < (S.size : Int)) = false := decide_eq_false (by omega)
              have e2 : ¬ 1 + (j : Int) < (S.size : Int) := by omega
              have HR : Hid (R = (sgI true (dcN [48, 48, 48] x), true)) := Hid.mk' (by
                rw [HR1.out, if_pos hlen, dcN_app]
                have h := HN.out
                rw [← hlen, List.take_length] at h
                rw [← h])
              clear HR1 HN
              go_wp2_with fail
              go_loopw [6, 10] (fun nv kv wr => ∃ (k n : Nat), nv = .int .i64 (n : Int) ∧ kv = .int .i64 (k : Int) ∧ k ≤ 3 ∧ n < (x + 1) * 10 ^ k ∧ Hid (n = dcN (([48, 48, 48] : List Nat).take k) x) ∧ Hid (wr = w)) (fun _ kv _ => 3 - (intOf kv).toNat)
              case atStart => exact ⟨0, x, rfl, by simp, by omega, by omega, rfl, HW⟩
              case round =>
                obtain ⟨k, n, rfl, rfl, hk, hn, HN, HW⟩ := hrel
                rename World => wr
                by_cases hk3 : k < 3
                · have hkI : (k : Int) < 3 := by omega
                  have hnb : n ≤ 99999999999 := by
                    have : (10 : Nat) ^ k ≤ 10 ^ 2 := Nat.pow_le_pow_right (by decide) (by omega)
                    have h2 : (x + 1) * 10 ^ k ≤ 1000000000 * 10 ^ 2 := Nat.mul_le_mul (by omega) this
                    have h3 : 1000000000 * (10 : Nat) ^ 2 = 100000000000 := by decide
                    omega
                  have hn2 : ∀ d, d ≤ 9 → n * 10 + d < (x + 1) * 10 ^ (k + 1) := fun d hd => by
                    rw [Nat.pow_succ, ← Nat.mul_assoc]
                    have : (n + 1) * 10 ≤ (x + 1) * 10 ^ k * 10 := Nat.mul_le_mul_right 10 hn
                    omega
                  have d1 : decide ((k : Int) < 0) = false := decide_eq_false (by omega)
                  have hq : ([48, 48, 48] : List Nat)[k]? = some 48 := by
                    rcases (show k = 0 ∨ k = 1 ∨ k = 2 by omega) with e | e | e <;> rw [e] <;> rfl
                  have HN2 : Hid (n * 10 + 0 = dcN (([48, 48, 48] : List Nat).take (k + 1)) x) := Hid.mk' (by rw [dc_step _ _ _ _ hq, ← HN.out])
                  have hn3 := hn2 0 (by omega)
                  clear hq hn2
                  go_wp2_with fail
                  go_roundw
                  case rel => exact ⟨k + 1, n * 10 + 0, by go_num, by simp, by omega, hn3, HN2, HW⟩
                  case measure => simp [intOf]; omega
                · obtain rfl : k = 3 := by omega
                  have hnb : n ≤ 999999999999 := by
                    have h3 : (10 : Nat) ^ 3 = 1000 := by decide
                    rw [h3] at hn
                    omega
                  have hwn : IntKind.i64.wrap (-(n : Int)) = -(n : Int) := by rw [IntKind.wrap_i64]; omega
                  have HR2 := (show Hid (R = (sgI true n, true)) from Hid.mk' (by rw [HR.out, HN.out]; rfl))
                  clear hn HN
                  go_wp2_with fail
                  have hr := HR2.out
                  subst hr
                  refine ⟨rfl, _, ?_, rfl, HW.out⟩
                  simp [results, Tryz.f18, go_sem, sgI]
            · have hlt : j < A.length := by have := HLE.out.1; omega
              have hltS : 1 + (j : Int) < (S.size : Int) := by have := HLE.out.2; omega
              have e1 : decide (1 + (j : Int) < (S.size : Int)) = true := decide_eq_true hltS
              obtain ⟨P, hP⟩ : ∃ P, A.drop (j + 1) = P := ⟨_, rfl⟩
              have hPl : P.length = A.length - (j + 1) := by rw [← hP, List.length_drop]
              have HD2 : Hid (∀ X, Calls Tryz.prog 37 #[.string S, .int .i64 (1 + (j : Int) + 1)] X fun e w' => e = .returned (.int .i64 ((rwS digB P : Nat) : Int)) ∧ w' = X) := Hid.mk' (fun X => by
                have h := rDigits_any S (1 + j + 1) X hS (by omega)
                have e : (Sums.bl S).drop (1 + j + 1) = P := by rw [← hP, ← hA, List.drop_drop]; congr 1
                rw [e, show ((1 + j + 1 : Nat) : Int) = 1 + (j : Int) + 1 by omega] at h
                exact h)
              obtain ⟨c, hc⟩ : ∃ c, A[j]? = some c := ⟨_, List.getElem?_eq_getElem hlt⟩
              have hgd : A.getD j 0 = c := by rw [List.getD_eq_getElem?_getD, hc]; rfl
              have hidx := HAI.out j c hc
              have HPI : Hid (∀ (k c : Nat), P[k]? = some c → ∀ W, (Instr.index 9 (.string S) (.int .i64 (1 + (j : Int) + 1 + (k : Int)))).run Tryz.prog W = .ok (.int .u8 (c : Int)) W) := Hid.mk' (fun k c h W => by
                rw [← hP, List.getElem?_drop] at h
                have h2 := HAI.out (j + 1 + k) c h W
                rw [show 1 + ((j + 1 + k : Nat) : Int) = 1 + (j : Int) + 1 + (k : Int) by omega] at h2
                exact h2)
              have hR1 := HR1.out
              rw [if_neg hlen, hgd, hP] at hR1
              obtain ⟨q, hq⟩ : ∃ q, rwS digB P = q := ⟨_, rfl⟩
              have hqP := rwS_le digB P
              have hqt := rw_take digB P
              rw [hq] at hR1 HD2 hqP hqt
              have hqI : (q : Int) ≤ 281474976710656 := by have := HLE.out.2; omega
              have hjb : (j : Int) ≤ 281474976710656 := by omega
              clear HR1 hc hgd hq
              go_wp2_with fail
              refine (HD2.out _).mono ?_
              rintro e w4 ⟨rfl, hw4⟩
              have HW4 : Hid (w4 = w) := Hid.mk' (hw4.trans HW.out)
              clear hw4 HW HD2
              have HW : Hid (w4 = w) := HW4.out
              clear HW4
              by_cases hall : c = 46 ∧ 1 ≤ q ∧ q ≤ 3 ∧ j + 1 + q = A.length
              · rw [if_pos hall] at hR1
                obtain ⟨rfl, q1, q3, q4⟩ := hall
                have hidx2 : ∀ W, (Instr.index 9 (.string S) (.int .i64 (1 + (j : Int)))).run Tryz.prog W = .ok (.int .u8 46) W := hidx
                have g1 : decide ((q : Int) < 1) = false := decide_eq_false (by omega)
                have g2 : decide (3 < (q : Int)) = false := decide_eq_false (by omega)
                have g3 : ((1 + (j : Int) + 1 + (q : Int)) != (S.size : Int)) = false := by simp; have := HLE.out.2; omega
                have g4 : decide (q < 1) = false := decide_eq_false (by omega)
                have g5 : decide (3 < q) = false := decide_eq_false (by omega)
                have hPq : P.length = q := by omega
                have HPD : Hid (∀ z ∈ P, digB z = true) := Hid.mk' (by rw [← hPq, List.take_length] at hqt; exact hqt)
                have HR : Hid (R = (sgI true (dcN ((P ++ [48, 48, 48]).take 3) x), true)) := Hid.mk' (by rw [hR1, dcN_app, ← HN.out])
                subst hPq
                have HPL : Hid (P.length ≤ 3) := Hid.mk' q3
                clear hidx hR1 HN hqt hqP q4 hP hPl
                go_wp2_with fail
                go_loopw [6, 10] (fun nv kv wr => ∃ (k n : Nat), nv = .int .i64 (n : Int) ∧ kv = .int .i64 (k : Int) ∧ k ≤ 3 ∧ n < (x + 1) * 10 ^ k ∧ Hid (n = dcN ((P ++ [48, 48, 48]).take k) x) ∧ Hid (wr = w)) (fun _ kv _ => 3 - (intOf kv).toNat)
                case atStart => exact ⟨0, x, rfl, by simp, by omega, by omega, rfl, HW⟩
                case round =>
                  obtain ⟨k, n, rfl, rfl, hk, hn, HN, HW⟩ := hrel
                  rename World => wr
                  by_cases hk3 : k < 3
                  · have hkI : (k : Int) < 3 := by omega
                    have hnb : n ≤ 99999999999 := by
                      have : (10 : Nat) ^ k ≤ 10 ^ 2 := Nat.pow_le_pow_right (by decide) (by omega)
                      have h2 : (x + 1) * 10 ^ k ≤ 1000000000 * 10 ^ 2 := Nat.mul_le_mul (by omega) this
                      have h3 : 1000000000 * (10 : Nat) ^ 2 = 100000000000 := by decide
                      omega
                    have hn2 : ∀ d, d ≤ 9 → n * 10 + d < (x + 1) * 10 ^ (k + 1) := fun d hd => by
                      rw [Nat.pow_succ, ← Nat.mul_assoc]
                      have : (n + 1) * 10 ≤ (x + 1) * 10 ^ k * 10 := Nat.mul_le_mul_right 10 hn
                      omega
                    by_cases hkb : k < P.length
                    · have hkbI : (k : Int) < (P.length : Int) := by omega
                      have d1 : decide ((k : Int) < (P.length : Int)) = true := decide_eq_true hkbI
                      obtain ⟨c, hc⟩ : ∃ c, P[k]? = some c := ⟨_, List.getElem?_eq_getElem hkb⟩
                      obtain ⟨d, rfl, hd9⟩ := dig_of c (HPD.out c (List.mem_of_getElem? hc))
                      have hidx := HPI.out k (48 + d) hc
                      have hq : (P ++ [48, 48, 48])[k]? = some (48 + d) := by rw [List.getElem?_append_left hkb]; exact hc
                      have HN2 : Hid (n * 10 + d = dcN ((P ++ [48, 48, 48]).take (k + 1)) x) := Hid.mk' (by rw [dc_step _ _ _ _ hq, ← HN.out]; omega)
                      have hcI : ((48 + d : Nat) : Int) = 48 + (d : Int) := by omega
                      rw [hcI] at hidx
                      have hsb : (48 + (d : Int)) - 48 = (d : Int) := by omega
                      have hw8 : IntKind.u8.wrap (d : Int) = (d : Int) := by rw [IntKind.wrap_u8]; omega
                      have hKLT : (P.length : Int) ≤ 281474976710656 := by have := HPL.out; omega
                      have hn3 := hn2 d hd9
                      clear hc hq hcI hn2
                      go_wp2_with fail
                      go_roundw
                      case rel => exact ⟨k + 1, n * 10 + d, by go_num, by simp, by omega, hn3, HN2, HW⟩
                      case measure => simp [intOf]; omega
                    · have d1 : decide ((k : Int) < (P.length : Int)) = false := decide_eq_false (by omega)
                      have hq : (P ++ [48, 48, 48])[k]? = some 48 := by
                        rw [List.getElem?_append_right (by omega)]
                        rcases (show k - P.length = 0 ∨ k - P.length = 1 ∨ k - P.length = 2 by omega) with e | e | e <;> rw [e] <;> rfl
                      have HN2 : Hid (n * 10 + 0 = dcN ((P ++ [48, 48, 48]).take (k + 1)) x) := Hid.mk' (by rw [dc_step _ _ _ _ hq, ← HN.out])
                      have hn3 := hn2 0 (by omega)
                      clear hq hn2
                      go_wp2_with fail
                      go_roundw
                      case rel => exact ⟨k + 1, n * 10 + 0, by go_num, by simp, by omega, hn3, HN2, HW⟩
                      case measure => simp [intOf]; omega
                  · obtain rfl : k = 3 := by omega
                    have hnb : n ≤ 999999999999 := by
                      have h3 : (10 : Nat) ^ 3 = 1000 := by decide
                      rw [h3] at hn
                      omega
                    have hwn : IntKind.i64.wrap (-(n : Int)) = -(n : Int) := by rw [IntKind.wrap_i64]; omega
                    have HR2 := (show Hid (R = (sgI true n, true)) from Hid.mk' (by rw [HR.out, HN.out]))
                    clear hn HN
                    go_wp2_with fail
                    have hr := HR2.out
                    subst hr
                    refine ⟨rfl, _, ?_, rfl, HW.out⟩
                    simp [results, Tryz.f18, go_sem, sgI]
              · rw [if_neg hall] at hR1
                subst hR1
                by_cases hc46 : c = 46
                · subst hc46
                  have hidx2 : ∀ W, (Instr.index 9 (.string S) (.int .i64 (1 + (j : Int)))).run Tryz.prog W = .ok (.int .u8 46) W := hidx
                  by_cases hq1 : q < 1
                  · have g1 : decide ((q : Int) < 1) = true := decide_eq_true (by omega)
                    have g4 : decide (q < 1) = true := decide_eq_true hq1
                    clear hidx hall hqt hqP hP HN
                    go_wp2_with fail
                    refine ⟨rfl, _, ?_, rfl, HW.out⟩
                    simp [results, Tryz.f18, go_sem]
                  · have g1 : decide ((q : Int) < 1) = false := decide_eq_false (by omega)
                    have g4 : decide (q < 1) = false := decide_eq_false hq1
                    by_cases hq3 : 3 < q
                    · have g2 : decide (3 < (q : Int)) = true := decide_eq_true (by omega)
                      have g5 : decide (3 < q) = true := decide_eq_true hq3
                      clear hidx hall hqt hqP hP HN hq1
                      go_wp2_with fail
                      refine ⟨rfl, _, ?_, rfl, HW.out⟩
                      simp [results, Tryz.f18, go_sem]
                    · have g2 : decide (3 < (q : Int)) = false := decide_eq_false (by omega)
                      have g5 : decide (3 < q) = false := decide_eq_false hq3
                      have g3 : ((1 + (j : Int) + 1 + (q : Int)) != (S.size : Int)) = true := by
                        simp
                        intro e
                        exact hall ⟨rfl, by omega, by omega, by have := HLE.out.2; omega⟩
                      clear hidx hall hqt hqP hP HN hq1 hq3
                      go_wp2_with fail
                      refine ⟨rfl, _, ?_, rfl, HW.out⟩
                      simp [results, Tryz.f18, go_sem]
                · have g0 : ((c : Int) != 46) = true := by simp; omega
                  have g6 : (c != 46) = true := by simp; omega
                  clear hall hqt hqP hP HN hc46
                  go_wp2_with fail
                  refine ⟨rfl, _, ?_, rfl, HW.out⟩
                  simp [results, Tryz.f18, go_sem]
      · have HR1 := Hid.mk' (HRF.out.trans (if_neg h9))
        have hr := HR1.out
        subst hr
        clear HRF HR1 htk
        by_cases h1 : q0 < 1
        · have d1 : decide ((q0 : Int) < 1) = true := decide_eq_true (by omega)
          have d3 : decide (q0 < 1) = true := decide_eq_true h1
          clear h9
          go_enter Tryz.func18, Tryz.ntmps18
          go_wp2_with fail
          refine (HD.out _).mono ?_
          rintro e w2 ⟨rfl, hw2⟩
          have HW := Hid.mk' hw2
          clear hw2 HD
          go_wp2_with fail
          refine ⟨rfl, _, ?_, rfl, HW.out⟩
          simp [results, Tryz.f18, go_sem]
        · have d1 : decide ((q0 : Int) < 1) = false := decide_eq_false (by omega)
          have d3 : decide (q0 < 1) = false := decide_eq_false h1
          have d2 : decide (9 < (q0 : Int)) = true := decide_eq_true (by omega)
          have d4 : decide (9 < q0) = true := decide_eq_true (by omega)
          clear h9 h1
          go_enter Tryz.func18, Tryz.ntmps18
          go_wp2_with fail
          refine (HD.out _).mono ?_
          rintro e w2 ⟨rfl, hw2⟩
          have HW := Hid.mk' hw2
          clear hw2 HD
          go_wp2_with fail
          refine ⟨rfl, _, ?_, rfl, HW.out⟩
          simp [results, Tryz.f18, go_sem]
    · have g45 : ((c0 : Int) == 45) = false := beq_eq_false_iff_ne.2 (by omega)
      obtain ⟨A, hA⟩ : ∃ A, (Sums.bl S).drop 0 = A := ⟨_, rfl⟩
      have hnb : nbF (Sums.bl S) = nbA false A (ixF 46 A) := by
        unfold nbF
        have e : hasO 45 (Sums.bl S) = false := by rw [hd]; exact beq_eq_false_iff_ne.2 h45
        rw [e, ← hA, List.drop_zero]
        rfl
      clear hd
      have HD : Hid (∀ X, Calls Tryz.prog 37 #[.string S, .int .i64 0] X fun e w' => e = .returned (.int .i64 ((rwS digB A : Nat) : Int)) ∧ w' = X) := Hid.mk' (fun X => by rw [← hA]; exact rDigits_any S 0 X hS (by omega))
      have hAl : A.length = S.size - 0 := by rw [← hA, List.length_drop, Sums.bl_length]
      have hle := rwS_le digB A
      have htk := rw_take digB A
      have HRF : Hid (nbF (Sums.bl S) = rfA false A) := Hid.mk' (by rw [rf_is]; exact hnb)
      unfold rfA at HRF
      obtain ⟨R, hR⟩ : ∃ R, nbF (Sums.bl S) = R := ⟨_, rfl⟩
      rw [hR] at HRF ⊢
      obtain ⟨q0, hq0⟩ : ∃ q0, rwS digB A = q0 := ⟨_, rfl⟩
      rw [hq0] at HRF HD hle htk
      have hwI : (q0 : Int) ≤ 281474976710656 := by omega
      clear hnb hR hq0
      by_cases h9 : 1 ≤ q0 ∧ q0 ≤ 9
      · obtain ⟨h1, h9b⟩ := h9
        have d1 : decide ((q0 : Int) < 1) = false := decide_eq_false (by omega)
        have d2 : decide (9 < (q0 : Int)) = false := decide_eq_false (by omega)
        have d3 : decide (q0 < 1) = false := decide_eq_false (by omega)
        have d4 : decide (9 < q0) = false := decide_eq_false (by omega)
        have HR1 := Hid.mk' (HRF.out.trans (if_pos ⟨h1, h9b⟩))
        have HTK := Hid.mk' htk
        have HAI : Hid (∀ (k c : Nat), A[k]? = some c → ∀ W, (Instr.index 9 (.string S) (.int .i64 (k : Int))).run Tryz.prog W = .ok (.int .u8 (c : Int)) W) := Hid.mk' (fun k c h W => by
          have h2 := drop_get S 0 k c (by rw [hA]; exact h) W
          rw [show ((0 + k : Nat) : Int) = (k : Int) by omega] at h2
          exact h2)
        have HLE := Hid.mk' (And.intro hle hAl)
        clear HRF htk
        go_enter Tryz.func18, Tryz.ntmps18
        go_wp2_with fail
        refine (HD.out _).mono ?_
        rintro e w2 ⟨rfl, hw2⟩
        have HW : Hid (w2 = w) := Hid.mk' hw2
        clear hw2 HD
        go_wp2_with fail
        go_loopw [6, 7] (fun nv iv wr => ∃ (j n : Nat), nv = .int .i64 (n : Int) ∧ iv = .int .i64 (j : Int) ∧ j ≤ q0 ∧ n < 10 ^ j ∧ Hid (n = dcN (A.take j) 0) ∧ Hid (wr = w)) (fun _ iv _ => q0 + 0 - (intOf iv).toNat)
        case atStart => exact ⟨0, 0, by simp, by simp, by omega, by decide, rfl, HW⟩
        case round =>
          obtain ⟨j, n, rfl, rfl, hj, hn, HN, HW⟩ := hrel
          rename World => wr
          have hnb : n ≤ 1000000000 := by
            have h3 : (10 : Nat) ^ j ≤ 10 ^ 9 := Nat.pow_le_pow_right (by decide) (by omega)
            have h4 : (10 : Nat) ^ 9 = 1000000000 := by decide
            omega
          by_cases hjq : j < q0
          · have hjI : (j : Int) < (q0 : Int) := by omega
            obtain ⟨c, hc⟩ : ∃ c, A[j]? = some c := ⟨_, List.getElem?_eq_getElem (by have := HLE.out.1; omega)⟩
            obtain ⟨d, rfl, hd9⟩ := dig_of c (HTK.out c (List.mem_of_getElem? (i := j) (by rw [List.getElem?_take, if_pos hjq]; exact hc)))
            have hidx := HAI.out j (48 + d) hc
            have HN2 : Hid (n * 10 + d = dcN (A.take (j + 1)) 0) := Hid.mk' (by rw [dc_step _ _ _ _ hc, ← HN.out]; omega)
            have hn3 : n * 10 + d < 10 ^ (j + 1) := by rw [Nat.pow_succ]; omega
            have hcI : ((48 + d : Nat) : Int) = 48 + (d : Int) := by omega
            rw [hcI] at hidx
            have hsb : (48 + (d : Int)) - 48 = (d : Int) := by omega
            have hw8 : IntKind.u8.wrap (d : Int) = (d : Int) := by rw [IntKind.wrap_u8]; omega
            clear hc hcI hn
            go_wp2_with fail
            go_roundw
            case rel => exact ⟨j + 1, n * 10 + d, by go_num, by go_num, by omega, hn3, HN2, HW⟩
            case measure => simp [intOf]; omega
          · obtain rfl : j = q0 := by omega
            obtain ⟨x, hx⟩ : ∃ x, n = x := ⟨_, rfl⟩
            have hx9 : x < 1000000000 := by
              have h3 : (10 : Nat) ^ j ≤ 10 ^ 9 := Nat.pow_le_pow_right (by decide) (by omega)
              have h4 : (10 : Nat) ^ 9 = 1000000000 := by decide
              omega
            rw [hx] at HN hnb ⊢
            clear hn hx hjq
            by_cases hlen : A.length = j
            · have hsz : S.size = 0 + j := by have := HLE.out.2; omega
              have e1 : decide ((j : Int) < (S.size : Int)) = false := decide_eq_false (by omega)
              have e2 : ¬ (j : Int) < (S.size : Int) := by omega
              have HR : Hid (R = (sgI false (dcN [48, 48, 48] x), true)) := Hid.mk' (by
                rw [HR1.out, if_pos hlen, dcN_app]
                have h := HN.out
                rw [← hlen, List.take_length] at h
                rw [← h])
              clear HR1 HN
              go_wp2_with fail
              go_loopw [6, 10] (fun nv kv wr => ∃ (k n : Nat), nv = .int .i64 (n : Int) ∧ kv = .int .i64 (k : Int) ∧ k ≤ 3 ∧ n < (x + 1) * 10 ^ k ∧ Hid (n = dcN (([48, 48, 48] : List Nat).take k) x) ∧ Hid (wr = w)) (fun _ kv _ => 3 - (intOf kv).toNat)
              case atStart => exact ⟨0, x, rfl, by simp, by omega, by omega, rfl, HW⟩
              case round =>
                obtain ⟨k, n, rfl, rfl, hk, hn, HN, HW⟩ := hrel
                rename World => wr
                by_cases hk3 : k < 3
                · have hkI : (k : Int) < 3 := by omega
                  have hnb : n ≤ 99999999999 := by
                    have : (10 : Nat) ^ k ≤ 10 ^ 2 := Nat.pow_le_pow_right (by decide) (by omega)
                    have h2 : (x + 1) * 10 ^ k ≤ 1000000000 * 10 ^ 2 := Nat.mul_le_mul (by omega) this
                    have h3 : 1000000000 * (10 : Nat) ^ 2 = 100000000000 := by decide
                    omega
                  have hn2 : ∀ d, d ≤ 9 → n * 10 + d < (x + 1) * 10 ^ (k + 1) := fun d hd => by
                    rw [Nat.pow_succ, ← Nat.mul_assoc]
                    have : (n + 1) * 10 ≤ (x + 1) * 10 ^ k * 10 := Nat.mul_le_mul_right 10 hn
                    omega
                  have d1 : decide ((k : Int) < 0) = false := decide_eq_false (by omega)
                  have hq : ([48, 48, 48] : List Nat)[k]? = some 48 := by
                    rcases (show k = 0 ∨ k = 1 ∨ k = 2 by omega) with e | e | e <;> rw [e] <;> rfl
                  have HN2 : Hid (n * 10 + 0 = dcN (([48, 48, 48] : List Nat).take (k + 1)) x) := Hid.mk' (by rw [dc_step _ _ _ _ hq, ← HN.out])
                  have hn3 := hn2 0 (by omega)
                  clear hq hn2
                  go_wp2_with fail
                  go_roundw
                  case rel => exact ⟨k + 1, n * 10 + 0, by go_num, by simp, by omega, hn3, HN2, HW⟩
                  case measure => simp [intOf]; omega
                · obtain rfl : k = 3 := by omega
                  have hnb : n ≤ 999999999999 := by
                    have h3 : (10 : Nat) ^ 3 = 1000 := by decide
                    rw [h3] at hn
                    omega
                  have hwn : IntKind.i64.wrap (-(n : Int)) = -(n : Int) := by rw [IntKind.wrap_i64]; omega
                  have HR2 := (show Hid (R = (sgI false n, true)) from Hid.mk' (by rw [HR.out, HN.out]; rfl))
                  clear hn HN
                  go_wp2_with fail
                  have hr := HR2.out
                  subst hr
                  refine ⟨rfl, _, ?_, rfl, HW.out⟩
                  simp [results, Tryz.f18, go_sem, sgI]
            · have hlt : j < A.length := by have := HLE.out.1; omega
              have hltS : (j : Int) < (S.size : Int) := by have := HLE.out.2; omega
              have e1 : decide ((j : Int) < (S.size : Int)) = true := decide_eq_true hltS
              obtain ⟨P, hP⟩ : ∃ P, A.drop (j + 1) = P := ⟨_, rfl⟩
              have hPl : P.length = A.length - (j + 1) := by rw [← hP, List.length_drop]
              have HD2 : Hid (∀ X, Calls Tryz.prog 37 #[.string S, .int .i64 ((j : Int) + 1)] X fun e w' => e = .returned (.int .i64 ((rwS digB P : Nat) : Int)) ∧ w' = X) := Hid.mk' (fun X => by
                have h := rDigits_any S (0 + j + 1) X hS (by omega)
                have e : (Sums.bl S).drop (0 + j + 1) = P := by rw [← hP, ← hA, List.drop_drop]; congr 1
                rw [e, show ((0 + j + 1 : Nat) : Int) = (j : Int) + 1 by omega] at h
                exact h)
              obtain ⟨c, hc⟩ : ∃ c, A[j]? = some c := ⟨_, List.getElem?_eq_getElem hlt⟩
              have hgd : A.getD j 0 = c := by rw [List.getD_eq_getElem?_getD, hc]; rfl
              have hidx := HAI.out j c hc
              have HPI : Hid (∀ (k c : Nat), P[k]? = some c → ∀ W, (Instr.index 9 (.string S) (.int .i64 ((j : Int) + 1 + (k : Int)))).run Tryz.prog W = .ok (.int .u8 (c : Int)) W) := Hid.mk' (fun k c h W => by
                rw [← hP, List.getElem?_drop] at h
                have h2 := HAI.out (j + 1 + k) c h W
                rw [show ((j + 1 + k : Nat) : Int) = (j : Int) + 1 + (k : Int) by omega] at h2
                exact h2)
              have hR1 := HR1.out
              rw [if_neg hlen, hgd, hP] at hR1
              obtain ⟨q, hq⟩ : ∃ q, rwS digB P = q := ⟨_, rfl⟩
              have hqP := rwS_le digB P
              have hqt := rw_take digB P
              rw [hq] at hR1 HD2 hqP hqt
              have hqI : (q : Int) ≤ 281474976710656 := by have := HLE.out.2; omega
              have hjb : (j : Int) ≤ 281474976710656 := by omega
              clear HR1 hc hgd hq
              go_wp2_with fail
              refine (HD2.out _).mono ?_
              rintro e w4 ⟨rfl, hw4⟩
              have HW4 : Hid (w4 = w) := Hid.mk' (hw4.trans HW.out)
              clear hw4 HW HD2
              have HW : Hid (w4 = w) := HW4.out
              clear HW4
              by_cases hall : c = 46 ∧ 1 ≤ q ∧ q ≤ 3 ∧ j + 1 + q = A.length
              · rw [if_pos hall] at hR1
                obtain ⟨rfl, q1, q3, q4⟩ := hall
                have hidx2 : ∀ W, (Instr.index 9 (.string S) (.int .i64 ((j : Int)))).run Tryz.prog W = .ok (.int .u8 46) W := hidx
                have g1 : decide ((q : Int) < 1) = false := decide_eq_false (by omega)
                have g2 : decide (3 < (q : Int)) = false := decide_eq_false (by omega)
                have g3 : (((j : Int) + 1 + (q : Int)) != (S.size : Int)) = false := by simp; have := HLE.out.2; omega
                have g4 : decide (q < 1) = false := decide_eq_false (by omega)
                have g5 : decide (3 < q) = false := decide_eq_false (by omega)
                have hPq : P.length = q := by omega
                have HPD : Hid (∀ z ∈ P, digB z = true) := Hid.mk' (by rw [← hPq, List.take_length] at hqt; exact hqt)
                have HR : Hid (R = (sgI false (dcN ((P ++ [48, 48, 48]).take 3) x), true)) := Hid.mk' (by rw [hR1, dcN_app, ← HN.out])
                subst hPq
                have HPL : Hid (P.length ≤ 3) := Hid.mk' q3
                clear hidx hR1 HN hqt hqP q4 hP hPl
                go_wp2_with fail
                go_loopw [6, 10] (fun nv kv wr => ∃ (k n : Nat), nv = .int .i64 (n : Int) ∧ kv = .int .i64 (k : Int) ∧ k ≤ 3 ∧ n < (x + 1) * 10 ^ k ∧ Hid (n = dcN ((P ++ [48, 48, 48]).take k) x) ∧ Hid (wr = w)) (fun _ kv _ => 3 - (intOf kv).toNat)
                case atStart => exact ⟨0, x, rfl, by simp, by omega, by omega, rfl, HW⟩
                case round =>
                  obtain ⟨k, n, rfl, rfl, hk, hn, HN, HW⟩ := hrel
                  rename World => wr
                  by_cases hk3 : k < 3
                  · have hkI : (k : Int) < 3 := by omega
                    have hnb : n ≤ 99999999999 := by
                      have : (10 : Nat) ^ k ≤ 10 ^ 2 := Nat.pow_le_pow_right (by decide) (by omega)
                      have h2 : (x + 1) * 10 ^ k ≤ 1000000000 * 10 ^ 2 := Nat.mul_le_mul (by omega) this
                      have h3 : 1000000000 * (10 : Nat) ^ 2 = 100000000000 := by decide
                      omega
                    have hn2 : ∀ d, d ≤ 9 → n * 10 + d < (x + 1) * 10 ^ (k + 1) := fun d hd => by
                      rw [Nat.pow_succ, ← Nat.mul_assoc]
                      have : (n + 1) * 10 ≤ (x + 1) * 10 ^ k * 10 := Nat.mul_le_mul_right 10 hn
                      omega
                    by_cases hkb : k < P.length
                    · have hkbI : (k : Int) < (P.length : Int) := by omega
                      have d1 : decide ((k : Int) < (P.length : Int)) = true := decide_eq_true hkbI
                      obtain ⟨c, hc⟩ : ∃ c, P[k]? = some c := ⟨_, List.getElem?_eq_getElem hkb⟩
                      obtain ⟨d, rfl, hd9⟩ := dig_of c (HPD.out c (List.mem_of_getElem? hc))
                      have hidx := HPI.out k (48 + d) hc
                      have hq : (P ++ [48, 48, 48])[k]? = some (48 + d) := by rw [List.getElem?_append_left hkb]; exact hc
                      have HN2 : Hid (n * 10 + d = dcN ((P ++ [48, 48, 48]).take (k + 1)) x) := Hid.mk' (by rw [dc_step _ _ _ _ hq, ← HN.out]; omega)
                      have hcI : ((48 + d : Nat) : Int) = 48 + (d : Int) := by omega
                      rw [hcI] at hidx
                      have hsb : (48 + (d : Int)) - 48 = (d : Int) := by omega
                      have hw8 : IntKind.u8.wrap (d : Int) = (d : Int) := by rw [IntKind.wrap_u8]; omega
                      have hKLT : (P.length : Int) ≤ 281474976710656 := by have := HPL.out; omega
                      have hn3 := hn2 d hd9
                      clear hc hq hcI hn2
                      go_wp2_with fail
                      go_roundw
                      case rel => exact ⟨k + 1, n * 10 + d, by go_num, by simp, by omega, hn3, HN2, HW⟩
                      case measure => simp [intOf]; omega
                    · have d1 : decide ((k : Int) < (P.length : Int)) = false := decide_eq_false (by omega)
                      have hq : (P ++ [48, 48, 48])[k]? = some 48 := by
                        rw [List.getElem?_append_right (by omega)]
                        rcases (show k - P.length = 0 ∨ k - P.length = 1 ∨ k - P.length = 2 by omega) with e | e | e <;> rw [e] <;> rfl
                      have HN2 : Hid (n * 10 + 0 = dcN ((P ++ [48, 48, 48]).take (k + 1)) x) := Hid.mk' (by rw [dc_step _ _ _ _ hq, ← HN.out])
                      have hn3 := hn2 0 (by omega)
                      clear hq hn2
                      go_wp2_with fail
                      go_roundw
                      case rel => exact ⟨k + 1, n * 10 + 0, by go_num, by simp, by omega, hn3, HN2, HW⟩
                      case measure => simp [intOf]; omega
                  · obtain rfl : k = 3 := by omega
                    have hnb : n ≤ 999999999999 := by
                      have h3 : (10 : Nat) ^ 3 = 1000 := by decide
                      rw [h3] at hn
                      omega
                    have hwn : IntKind.i64.wrap (-(n : Int)) = -(n : Int) := by rw [IntKind.wrap_i64]; omega
                    have HR2 := (show Hid (R = (sgI false n, true)) from Hid.mk' (by rw [HR.out, HN.out]))
                    clear hn HN
                    go_wp2_with fail
                    have hr := HR2.out
                    subst hr
                    refine ⟨rfl, _, ?_, rfl, HW.out⟩
                    simp [results, Tryz.f18, go_sem, sgI]
              · rw [if_neg hall] at hR1
                subst hR1
                by_cases hc46 : c = 46
                · subst hc46
                  have hidx2 : ∀ W, (Instr.index 9 (.string S) (.int .i64 ((j : Int)))).run Tryz.prog W = .ok (.int .u8 46) W := hidx
                  by_cases hq1 : q < 1
                  · have g1 : decide ((q : Int) < 1) = true := decide_eq_true (by omega)
                    have g4 : decide (q < 1) = true := decide_eq_true hq1
                    clear hidx hall hqt hqP hP HN
                    go_wp2_with fail
                    refine ⟨rfl, _, ?_, rfl, HW.out⟩
                    simp [results, Tryz.f18, go_sem]
                  · have g1 : decide ((q : Int) < 1) = false := decide_eq_false (by omega)
                    have g4 : decide (q < 1) = false := decide_eq_false hq1
                    by_cases hq3 : 3 < q
                    · have g2 : decide (3 < (q : Int)) = true := decide_eq_true (by omega)
                      have g5 : decide (3 < q) = true := decide_eq_true hq3
                      clear hidx hall hqt hqP hP HN hq1
                      go_wp2_with fail
                      refine ⟨rfl, _, ?_, rfl, HW.out⟩
                      simp [results, Tryz.f18, go_sem]
                    · have g2 : decide (3 < (q : Int)) = false := decide_eq_false (by omega)
                      have g5 : decide (3 < q) = false := decide_eq_false hq3
                      have g3 : (((j : Int) + 1 + (q : Int)) != (S.size : Int)) = true := by
                        simp
                        intro e
                        exact hall ⟨rfl, by omega, by omega, by have := HLE.out.2; omega⟩
                      clear hidx hall hqt hqP hP HN hq1 hq3
                      go_wp2_with fail
                      refine ⟨rfl, _, ?_, rfl, HW.out⟩
                      simp [results, Tryz.f18, go_sem]
                · have g0 : ((c : Int) != 46) = true := by simp; omega
                  have g6 : (c != 46) = true := by simp; omega
                  clear hall hqt hqP hP HN hc46
                  go_wp2_with fail
                  refine ⟨rfl, _, ?_, rfl, HW.out⟩
                  simp [results, Tryz.f18, go_sem]
      · have HR1 := Hid.mk' (HRF.out.trans (if_neg h9))
        have hr := HR1.out
        subst hr
        clear HRF HR1 htk
        by_cases h1 : q0 < 1
        · have d1 : decide ((q0 : Int) < 1) = true := decide_eq_true (by omega)
          have d3 : decide (q0 < 1) = true := decide_eq_true h1
          clear h9
          go_enter Tryz.func18, Tryz.ntmps18
          go_wp2_with fail
          refine (HD.out _).mono ?_
          rintro e w2 ⟨rfl, hw2⟩
          have HW := Hid.mk' hw2
          clear hw2 HD
          go_wp2_with fail
          refine ⟨rfl, _, ?_, rfl, HW.out⟩
          simp [results, Tryz.f18, go_sem]
        · have d1 : decide ((q0 : Int) < 1) = false := decide_eq_false (by omega)
          have d3 : decide (q0 < 1) = false := decide_eq_false h1
          have d2 : decide (9 < (q0 : Int)) = true := decide_eq_true (by omega)
          have d4 : decide (9 < q0) = true := decide_eq_true (by omega)
          clear h9 h1
          go_enter Tryz.func18, Tryz.ntmps18
          go_wp2_with fail
          refine (HD.out _).mono ?_
          rintro e w2 ⟨rfl, hw2⟩
          have HW := Hid.mk' hw2
          clear hw2 HD
          go_wp2_with fail
          refine ⟨rfl, _, ?_, rfl, HW.out⟩
          simp [results, Tryz.f18, go_sem]
end Go.Proofs.YtacbmpjpindepaaGreatDoor
