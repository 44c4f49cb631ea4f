/-
  fields: digits, numbers, how values stand; names and Values. Conditions: as each says.
-/
import Derived.Test.YtkplbggefiemdaaGreatDoorObW
import Derived.Lib.AtoiErrMem
import Derived.Test.YtkplbggefiemdaaGreatDoorShL
import Derived.RangeFuncBox
namespace Go.Proofs.YtkplbggefiemdaaGreatDoor
open Go.RowKit
set_option linter.unusedVariables false
set_option linter.unusedSimpArgs false
def digB (x : Nat) : Bool := decide (48 ≤ x ∧ x ≤ 57)
theorem isDigit_any (b : Nat) (w : World) : Calls Tryz.prog 63 #[.int .u8 (b : Int)] w fun e w' => e = .returned (.bool (digB b)) ∧ w' = w := by
  unfold digB
  by_cases h1 : 48 ≤ b
  · have t1 : decide ((48 : Int) ≤ (b : Int)) = true := decide_eq_true (by omega)
    have t2 : decide (48 ≤ b) = true := decide_eq_true h1
    by_cases h2 : b ≤ 57
    · have t3 : decide ((b : Int) ≤ 57) = true := decide_eq_true (by omega)
      have t4 : decide (b ≤ 57) = true := decide_eq_true h2
      have e : decide (48 ≤ b ∧ b ≤ 57) = true := decide_eq_true ⟨h1, h2⟩
      rw [e]
      clear h1 h2 e
      go_enter Tryz.func63, Tryz.ntmps63
      go_wp2_with fail
      go_ret
      exact ⟨rfl, rfl⟩
    · have t3 : decide ((b : Int) ≤ 57) = false := decide_eq_false (by omega)
      have t4 : decide (b ≤ 57) = false := decide_eq_false h2
      have e : decide (48 ≤ b ∧ b ≤ 57) = false := decide_eq_false (fun h => h2 h.2)
      rw [e]
      clear h1 h2 e
      go_enter Tryz.func63, Tryz.ntmps63
      go_wp2_with fail
      go_ret
      exact ⟨rfl, rfl⟩
  · have t1 : decide ((48 : Int) ≤ (b : Int)) = false := decide_eq_false (by omega)
    have t2 : decide (48 ≤ b) = false := decide_eq_false h1
    have e : decide (48 ≤ b ∧ b ≤ 57) = false := decide_eq_false (fun h => h1 h.1)
    rw [e]
    clear h1 e
    go_enter Tryz.func63, Tryz.ntmps63
    go_wp2_with fail
    go_ret
    exact ⟨rfl, rfl⟩
/-- how many bytes of a kind stand at the front -/
def rwS (p : Nat → Bool) : List Nat → Nat
  | [] => 0
  | x :: r => if p x = true then rwS p r + 1 else 0
theorem rwS_le (p : Nat → Bool) : ∀ l : List Nat, rwS p l ≤ l.length
  | [] => by simp [rwS]
  | x :: r => by
    have := rwS_le p r
    rw [rwS]
    split <;> simp <;> omega
set_option maxRecDepth 100000 in
set_option maxHeartbeats 4000000 in
theorem rowSize_any (Fn : FuncId) (cap : Array Value) (p : Nat → Bool) (S : ByteArray) (w : World) (hS : S.size ≤ 281474976710656)
    (hent : ∀ args w, (callFunc Fn args).run Tryz.prog w = .ok (.enter Fn args) w)
    (hcall : ∀ (b : Nat) (W : World), (∃ n, W = w.drewN n) → b < 256 → Calls Tryz.prog Fn (#[.int .u8 (b : Int)] ++ cap) W fun e W' => e = .returned (.bool (p b)) ∧ ∃ n, W' = w.drewN n) :
    Calls Tryz.prog 32 #[.string S, .func (.func Fn) #[] cap] w fun e w' => e = .returned (.int .i64 (rwS p (Sums.bl S) : Int)) ∧ ∃ n, w' = w.drewN n := by
  have hSI : (S.size : Int) ≤ 281474976710656 := by omega
  have HC := Hid.mk' hcall
  obtain ⟨N, hN⟩ : ∃ N, rwS p (Sums.bl S) = N := ⟨_, rfl⟩
  rw [hN]
  have HN := Hid.mk' hN
  clear hS hcall hN
  go_enter Tryz.func32, Tryz.ntmps32
  go_wp2_with fail
  go_loopw [8] (fun iv wr => ∃ i : Nat, iv = .int .i64 ((i : Nat) : Int) ∧ i ≤ S.size ∧ Hid (i + rwS p ((Sums.bl S).drop i) = N) ∧ Hid (∃ n, wr = w.drewN n)) (fun iv _ => S.size - (intOf iv).toNat)
  case atStart => exact ⟨0, rfl, by omega, Hid.mk' (by rw [Nat.zero_add]; exact HN.out), Hid.mk' ⟨0, by first | rfl | simp⟩⟩
  case round =>
    obtain ⟨i, rfl, hi, HI, HW⟩ := hrel
    clear HN
    rename World => wi
    by_cases hiT : i < S.size
    · have hiI : (i : Int) < (S.size : Int) := by omega
      obtain ⟨c, rest, hd⟩ : ∃ c rest, (Sums.bl S).drop i = c :: rest := by
        cases hd : (Sums.bl S).drop i with
        | nil => have := ob_nil S i (by omega) hd; omega
        | cons c rest => exact ⟨c, rest, rfl⟩
      have hidx := ob_idx S i c rest hd
      obtain ⟨_, hc256, hd1⟩ := ob_facts S i c rest hd
      have HCC := Hid.mk' (HC.out c wi HW.out hc256)
      obtain ⟨b, hb⟩ : ∃ b, p c = b := ⟨_, rfl⟩
      rw [hb] at HCC
      have HE : Hid (i + (if b = true then rwS p ((Sums.bl S).drop (i + 1)) + 1 else 0) = N) := Hid.mk' (by rw [← HI.out, hd, rwS, hb, hd1])
      clear hd hd1 hb HI
      go_wp2_with fail
      refine Calls.mono HCC.out ?_
      rintro e w2 ⟨rfl, hw2⟩
      have HW2 := Hid.mk' hw2
      clear hw2 HCC
      cases b
      · have hN : i + 0 = N := HE.out
        rw [Nat.add_zero] at hN
        subst hN
        simp only [Bool.not_false]
        go_wp2_with fail
        go_ret
        exact ⟨rfl, HW2.out⟩
      · have HE2 : Hid (i + 1 + rwS p ((Sums.bl S).drop (i + 1)) = N) := Hid.mk' (by have h : i + (rwS p ((Sums.bl S).drop (i + 1)) + 1) = N := HE.out; omega)
        simp only [Bool.not_true]
        go_wp2_with fail
        go_roundw
        case rel => exact ⟨i + 1, by simp, by omega, HE2, HW2⟩
        case measure => simp [intOf]; omega
    · obtain rfl : i = S.size := by omega
      have hI := HI.out
      rw [List.drop_eq_nil_of_le (by rw [Sums.bl_length]; omega), rwS, Nat.add_zero] at hI
      subst hI
      clear HI
      go_wp2_with fail
      go_ret
      exact ⟨rfl, HW.out⟩
end Go.Proofs.YtkplbggefiemdaaGreatDoor

namespace Go.Proofs.YtkplbggefiemdaaGreatDoor
open Go.RowKit
set_option linter.unusedVariables false
set_option linter.unusedSimpArgs false
def dgsF (m : Nat) (l : List Nat) : Bool := decide (0 < l.length) && (decide (l.length ≤ m) && decide (rwS digB l = l.length))
set_option maxRecDepth 100000 in
set_option maxHeartbeats 4000000 in
theorem isDigits_any (S : ByteArray) (m : Nat) (w : World) (hS : S.size ≤ 281474976710656) (hm : m ≤ 9) :
    Calls Tryz.prog 44 #[.string S, .int .i64 (m : Int)] w fun e w' => e = .returned (.bool (dgsF m (Sums.bl S))) ∧ ∃ n, w' = w.drewN n := by
  have HR := Hid.mk' (fun W => rowSize_any 63 #[] digB S W hS (fun _ _ => rfl) (fun b X hX _ => (isDigit_any b X).mono (fun e Y h => ⟨h.1, by obtain ⟨n, hn⟩ := hX; exact ⟨n, h.2.trans hn⟩⟩)))
  have hSI : (S.size : Int) ≤ 281474976710656 := by omega
  have hmI : (m : Int) ≤ 9 := by omega
  unfold dgsF
  rw [Sums.bl_length]
  by_cases h0 : S.size = 0
  · have hl : Sums.bl S = [] := List.eq_nil_of_length_eq_zero (by rw [Sums.bl_length]; exact h0)
    have hse : S = ByteArray.empty := Sums.bl_inj (hl.trans rfl)
    subst hse
    have e : (decide (0 < ByteArray.empty.size) && (decide (ByteArray.empty.size ≤ m) && decide (rwS digB (Sums.bl ByteArray.empty) = ByteArray.empty.size))) = false := rfl
    rw [e]
    clear hl h0 e
    go_enter Tryz.func44, Tryz.ntmps44
    go_wp2_with fail
    go_ret
    exact ⟨rfl, 0, rfl⟩
  · have hti : S.toList.isEmpty = false := by
      rw [ByteArray.toList_eq]
      cases hd : S.data.toList with
      | nil =>
        have : S.size = 0 := by
          show S.data.size = 0
          rw [← Array.length_toList, hd]
          rfl
        omega
      | cons a b => rfl
    have htn : ¬ S.toList = [] := fun e => by rw [e] at hti; cases hti
    rw [decide_eq_true (show 0 < S.size by omega), Bool.true_and]
    by_cases h1 : S.size ≤ m
    · have t1 : decide ((S.size : Int) ≤ (m : Int)) = true := decide_eq_true (by omega)
      have t2 : decide (S.size ≤ m) = true := decide_eq_true h1
      rw [t2, Bool.true_and]
      generalize rwS digB (Sums.bl S) = r at HR ⊢
      obtain ⟨z, hz⟩ : ∃ z, decide (r = S.size) = z := ⟨_, rfl⟩
      have t3 : ((r : Int) == (S.size : Int)) = z := by rw [← hz, Bool.eq_iff_iff]; simp; omega
      have t4 : (r == S.size) = z := by rw [← hz, Bool.eq_iff_iff]; simp
      rw [hz]
      clear h0 h1 hz
      go_enter Tryz.func44, Tryz.ntmps44
      go_wp2_with fail
      refine (HR.out _).mono ?_
      rintro e w1 ⟨rfl, n, hw⟩
      have HW := Hid.mk' hw
      clear hw
      go_wp2_with fail
      go_ret
      exact ⟨by first | rfl | exact ret_b t3 | exact ret_b t4, n, HW.out⟩
    · have t1 : decide ((S.size : Int) ≤ (m : Int)) = false := decide_eq_false (by omega)
      have t2 : decide (S.size ≤ m) = false := decide_eq_false h1
      rw [t2, Bool.false_and]
      clear h0 h1
      go_enter Tryz.func44, Tryz.ntmps44
      go_wp2_with fail
      go_ret
      exact ⟨rfl, 0, rfl⟩
end Go.Proofs.YtkplbggefiemdaaGreatDoor

namespace Go.Proofs.YtkplbggefiemdaaGreatDoor
open Go.RowKit
set_option linter.unusedVariables false
set_option linter.unusedSimpArgs false
/-- where a byte stands first -/
def ixF (c : Nat) : List Nat → Option Nat
  | [] => none
  | x :: r => if x = c then some 0 else (ixF c r).map (· + 1)
theorem ixF_lt (c : Nat) : ∀ (l : List Nat) (i : Nat), ixF c l = some i → i < l.length
  | [], i, h => by cases h
  | x :: r, i, h => by
    rw [ixF] at h
    split at h
    · cases h; simp
    · cases hr : ixF c r with
      | none => rw [hr] at h; cases h
      | some j =>
        rw [hr] at h
        have := ixF_lt c r j hr
        cases h
        simp
        omega
def ixI : Option Nat → Int
  | some i => (i : Int)
  | none => -1
theorem ix_lib (c : UInt8) : ∀ l : List UInt8, Lib.indexByte l c = ixI (ixF c.toNat (l.map UInt8.toNat))
  | [] => rfl
  | b :: l => by
    rw [Lib.indexByte, List.map_cons, ixF, ix_lib c l]
    by_cases h : b = c
    · subst h
      simp [ixI]
    · have h2 : ¬ b.toNat = c.toNat := fun e => h (UInt8.toNat_inj.1 e)
      have h3 : (b == c) = false := by simp [h]
      rw [h3, if_neg h2]
      cases ixF c.toNat (l.map UInt8.toNat) with
      | none => rfl
      | some i =>
        have h4 : ((i : Int) == -1) = false := by simp
        simp [ixI, h4]
/-- what Cut tells -/
def cutR (S : ByteArray) : Option Nat → Array Value
  | some i => #[.string (S.extract 0 i), .string (S.extract (i + 1) S.size), .bool true]
  | none => #[.string S, .string ByteArray.empty, .bool false]
theorem sl_to (s : ByteArray) (z : Nat) (W : World) (h2 : z ≤ s.size) : (Instr.slice 9 (.string s) none (some (.int .i64 (z : Int))) none).run Tryz.prog W = .ok (.string (s.extract 0 z)) W := by
  have e1 : ((z : Int)).toNat = z := by omega
  have e3 : (z : Int) ≤ (s.size : Int) := by omega
  have e5 : (0 : Int) ≤ (z : Int) := by omega
  simp [go_sem, Instr.slice, e3, e5]
theorem sl_on (s : ByteArray) (z : Nat) (W : World) (h2 : z ≤ s.size) : (Instr.slice 9 (.string s) (some (.int .i64 (z : Int))) none none).run Tryz.prog W = .ok (.string (s.extract z s.size)) W := by
  have e1 : ((z : Int)).toNat = z := by omega
  have e3 : (z : Int) ≤ (s.size : Int) := by omega
  have e5 : (0 : Int) ≤ (z : Int) := by omega
  simp [go_sem, Instr.slice, e3, e5]
set_option maxRecDepth 100000 in
set_option maxHeartbeats 2000000 in
theorem cutIn_dot (S : ByteArray) (w : World) (hS : S.size ≤ 281474976710656) : Calls Tryz.prog 71 #[.string S, .string ⟨#[46]⟩] w fun e w' => e = .returned (.tuple (cutR S (ixF 46 (Sums.bl S)))) ∧ ∃ n, w' = w.drewN n := by
  have HX := Hid.mk' (Any.stringslite_Index_one YtkplbggefiemdaaGreatDoor.lays219 S 46 w)
  rw [ix_lib] at HX
  have hb : (S.data.toList.map UInt8.toNat) = Sums.bl S := rfl
  rw [hb, show (46 : UInt8).toNat = 46 from rfl] at HX
  cases hx : ixF 46 (Sums.bl S) with
  | none =>
    rw [hx] at HX
    simp only [cutR]
    clear hS hb hx
    go_enter Tryz.func71, Tryz.ntmps71
    go_wp2_with fail
    refine Calls.mono HX.out ?_
    rintro e w1 ⟨rfl, hw⟩
    have hw2 := hw.symm
    subst hw2
    clear hw
    simp only [ixI]
    go_wp2_with fail
    refine ⟨rfl, _, ?_, rfl, 0, rfl⟩
    simp [results, Tryz.f71, go_sem]
    rfl
  | some i =>
    rw [hx] at HX
    have hi := ixF_lt _ _ _ hx
    rw [Sums.bl_length] at hi
    have hiI : (i : Int) < (S.size : Int) := by omega
    have hSI : (S.size : Int) ≤ 281474976710656 := by omega
    have s1 := fun W => sl_to S i W (by omega)
    have s2 := fun W => sl_on S (i + 1) W (by omega)
    have hc1 : ((i + 1 : Nat) : Int) = (i : Int) + 1 := by omega
    rw [hc1] at s2
    have d1 : decide ((0 : Int) ≤ (i : Int)) = true := decide_eq_true (by omega)
    simp only [cutR]
    obtain ⟨t1, ht1⟩ : ∃ t1, S.extract 0 i = t1 := ⟨_, rfl⟩
    obtain ⟨t2, ht2⟩ : ∃ t2, S.extract (i + 1) S.size = t2 := ⟨_, rfl⟩
    rw [ht1] at s1 ⊢
    rw [ht2] at s2 ⊢
    clear hS hb hx hi hc1 ht1 ht2
    go_enter Tryz.func71, Tryz.ntmps71
    go_wp2_with fail
    refine Calls.mono HX.out ?_
    rintro e w1 ⟨rfl, hw⟩
    have hw2 := hw.symm
    subst hw2
    clear hw HX
    simp only [ixI]
    go_wp2_with fail
    go_quiet (fail)
    go_wp2_with fail
    refine ⟨rfl, _, ?_, rfl, _, rfl⟩
    simp [results, Tryz.f71, go_sem]
theorem cut_dot (S : ByteArray) (w : World) (hS : S.size ≤ 281474976710656) : Calls Tryz.prog 43 #[.string S, .string ⟨#[46]⟩] w fun e w' => e = .returned (.tuple (cutR S (ixF 46 (Sums.bl S)))) ∧ ∃ n, w' = w.drewN n := by
  have HX := Hid.mk' (cutIn_dot S w hS)
  cases hx : ixF 46 (Sums.bl S) with
  | none =>
    rw [hx] at HX
    simp only [cutR] at HX ⊢
    clear hS hx
    go_enter Tryz.func43, Tryz.ntmps43
    go_wp2_with fail
    refine Calls.mono HX.out ?_
    rintro e w1 ⟨rfl, n, hw⟩
    have HW := Hid.mk' hw
    clear hw HX
    go_wp2_with fail
    refine ⟨rfl, _, ?_, rfl, n, HW.out⟩
    simp [results, Tryz.f43, go_sem]
  | some i =>
    rw [hx] at HX
    simp only [cutR] at HX ⊢
    clear hS hx
    go_enter Tryz.func43, Tryz.ntmps43
    go_wp2_with fail
    refine Calls.mono HX.out ?_
    rintro e w1 ⟨rfl, n, hw⟩
    have HW := Hid.mk' hw
    clear hw HX
    go_wp2_with fail
    refine ⟨rfl, _, ?_, rfl, n, HW.out⟩
    simp [results, Tryz.f43, go_sem]
end Go.Proofs.YtkplbggefiemdaaGreatDoor

namespace Go.Proofs.YtkplbggefiemdaaGreatDoor
open Go.RowKit
set_option linter.unusedVariables false
set_option linter.unusedSimpArgs false
def dcN (l : List Nat) (a : Nat) : Nat := l.foldl (fun a x => a * 10 + (x - 48)) a
theorem rwS_all (p : Nat → Bool) : ∀ l : List Nat, rwS p l = l.length → ∀ x ∈ l, p x = true
  | [], _, x, hx => by cases hx
  | a :: r, h, x, hx => by
    rw [rwS] at h
    split at h
    · have h2 : rwS p r = r.length := by simp at h; omega
      rcases List.mem_cons.1 hx with e | e
      · subst e; assumption
      · exact rwS_all p r h2 x e
    · simp at h
theorem dec_from : ∀ (l : List UInt8) (a : Nat), (∀ x ∈ l.map UInt8.toNat, digB x = true) → Lib.decFrom a l = some (dcN (l.map UInt8.toNat) a)
  | [], a, _ => rfl
  | b :: r, a, h => by
    have hb := h b.toNat (by simp)
    have hb2 : 48 ≤ b.toNat ∧ b.toNat ≤ 57 := by
      unfold digB at hb
      simpa using hb
    rw [Lib.decFrom]
    have e : Lib.digitVal b = some (b.toNat - 48) := by
      unfold Lib.digitVal
      rw [if_pos hb2]
    rw [e]
    have := dec_from r (a * 10 + (b.toNat - 48)) (fun x hx => h x (by rw [List.map_cons]; exact List.mem_cons_of_mem _ hx))
    exact this
theorem atoi_dig (D : ByteArray) (h0 : 0 < D.size) (h : ∀ x ∈ Sums.bl D, digB x = true) : Lib.atoi D.data.toList = some (dcN (Sums.bl D) 0 : Int) := by
  have hl : D.data.toList.length = D.size := by rw [Array.length_toList]; rfl
  unfold Sums.bl at h ⊢
  cases hd : D.data.toList with
  | nil => rw [hd] at hl; simp at hl; omega
  | cons b r =>
    rw [hd] at h
    have hb := h b.toNat (by simp)
    have hb2 : 48 ≤ b.toNat ∧ b.toNat ≤ 57 := by
      unfold digB at hb
      simpa using hb
    have n1 : (b == 45) = false := by
      rw [beq_eq_false_iff_ne]
      rintro rfl
      have : (45 : UInt8).toNat = 45 := rfl
      omega
    have n2 : (b == 43) = false := by
      rw [beq_eq_false_iff_ne]
      rintro rfl
      have : (43 : UInt8).toNat = 43 := rfl
      omega
    unfold Lib.atoi
    simp only [n1, n2, Bool.false_eq_true, if_false]
    unfold Lib.decNat
    simp only [List.isEmpty_cons, Bool.false_eq_true, if_false]
    rw [dec_from (b :: r) 0 h]
    rfl
theorem atoi_any (D : ByteArray) (w : World) (h0 : 0 < D.size) (h18 : D.size ≤ 18) (h : ∀ x ∈ Sums.bl D, digB x = true) : Calls Tryz.prog 45 #[.string D] w fun e w' => e = .returned (.tuple #[.int .i64 (dcN (Sums.bl D) 0 : Int), .nilIface]) ∧ Below w.heap.size w w' := by
  refine Calls.mono (Any.strconv_Atoi YtkplbggefiemdaaGreatDoor.lays172 D _ h18 (atoi_dig D h0 h) w) ?_
  rintro e w' ⟨rfl, t, rfl⟩
  exact ⟨rfl, Lib.bytesWorld_below _ _ _⟩
/-- a text without the stroke ahead -/
theorem cutMinus (S : ByteArray) (w : World) : Calls Tryz.prog 42 #[.string S, .string ⟨#[45]⟩] w fun e w' => (∃ A : ByteArray, Sums.bl A = (if hasO 45 (Sums.bl S) = true then (Sums.bl S).drop 1 else Sums.bl S) ∧ e = .returned (.tuple #[.string A, .bool (hasO 45 (Sums.bl S))])) ∧ w' = w := by
  refine Calls.mono (Any.strings_CutPrefix YtkplbggefiemdaaGreatDoor.lays103 S ⟨#[45]⟩ w) ?_
  rintro e w' ⟨rfl, hw⟩
  have hp : Lib.hasPrefix S.data.toList [45] = hasO 45 (Sums.bl S) := by
    unfold Sums.bl Lib.hasPrefix
    cases S.data.toList with
    | nil => rfl
    | cons b r =>
      simp only [List.map_cons, hasO, List.isPrefixOf, Bool.and_true]
      rw [Bool.eq_iff_iff]
      simp only [beq_iff_eq]
      constructor
      · rintro rfl; rfl
      · intro e
        exact (UInt8.toNat_inj.1 (by rw [e]; rfl))
  refine ⟨⟨⟨(Lib.trimPrefix S.data.toList [45]).toArray⟩, ?_, ?_⟩, hw⟩
  · unfold Lib.trimPrefix
    rw [hp]
    unfold Sums.bl
    split
    · simp
    · simp
  · rw [← hp]
end Go.Proofs.YtkplbggefiemdaaGreatDoor

namespace Go.Proofs.YtkplbggefiemdaaGreatDoor
open Go.RowKit
set_option linter.unusedVariables false
set_option linter.unusedSimpArgs false
def sgI (b : Bool) (n : Nat) : Int := if b = true then -(n : Int) else (n : Int)
/-- what is read behind the stroke -/
def nbA (b : Bool) (A : List Nat) : Option Nat → Int × Bool
  | none => if dgsF 9 A = true then (sgI b (dcN (A ++ [48, 48, 48]) 0), true) else (0, false)
  | some i => if dgsF 9 (A.take i) = true then if dgsF 3 (A.drop (i + 1)) = true then (sgI b (dcN (A.take i ++ (A.drop (i + 1) ++ [48, 48, 48]).take 3) 0), true) else (0, false) else (0, false)
/-- what Number tells -/
def nbF (l : List Nat) : Int × Bool := nbA (hasO 45 l) (if hasO 45 l = true then l.drop 1 else l) (ixF 46 (if hasO 45 l = true then l.drop 1 else l))
theorem dgs_ok {m : Nat} {l : List Nat} (h : dgsF m l = true) : 0 < l.length ∧ l.length ≤ m ∧ ∀ x ∈ l, digB x = true := by
  unfold dgsF at h
  simp only [Bool.and_eq_true, decide_eq_true_eq] at h
  exact ⟨h.1, h.2.1, rwS_all digB l h.2.2⟩
theorem dcN_lt : ∀ (l : List Nat) (a : Nat), (∀ x ∈ l, digB x = true) → dcN l a < (a + 1) * 10 ^ l.length
  | [], a, _ => by simp [dcN]
  | x :: r, a, h => by
    have hx := h x (by simp)
    have hx2 : 48 ≤ x ∧ x ≤ 57 := by
      unfold digB at hx
      simpa using hx
    have ih := dcN_lt r (a * 10 + (x - 48)) (fun y hy => h y (List.mem_cons_of_mem _ hy))
    have e : dcN (x :: r) a = dcN r (a * 10 + (x - 48)) := rfl
    rw [e, List.length_cons, Nat.pow_succ]
    have h1 : a * 10 + (x - 48) + 1 ≤ (a + 1) * 10 := by omega
    calc dcN r (a * 10 + (x - 48)) < (a * 10 + (x - 48) + 1) * 10 ^ r.length := ih
      _ ≤ ((a + 1) * 10) * 10 ^ r.length := Nat.mul_le_mul_right _ h1
      _ = (a + 1) * (10 ^ r.length * 10) := by rw [Nat.mul_assoc, Nat.mul_comm 10]
theorem dcN_few (l : List Nat) (h : ∀ x ∈ l, digB x = true) (hl : l.length ≤ 12) : dcN l 0 < 1000000000000 := by
  have h1 := dcN_lt l 0 h
  have h2 : 10 ^ l.length ≤ 10 ^ 12 := Nat.pow_le_pow_right (by decide) hl
  have h3 : (10 : Nat) ^ 12 = 1000000000000 := by decide
  omega
set_option maxRecDepth 100000 in
set_option maxHeartbeats 8000000 in
theorem number_fl (S : ByteArray) (w : World) (hS : S.size ≤ 281474976710656) : Calls Tryz.prog 20 #[.string S] w fun e w' => e = .returned (.tuple #[.int .i64 (nbF (Sums.bl S)).1, .bool (nbF (Sums.bl S)).2]) ∧ Below w.heap.size w w' := by
  have HM := Hid.mk' (cutMinus S w)
  unfold nbF
  obtain ⟨b, hb⟩ : ∃ b, hasO 45 (Sums.bl S) = b := ⟨_, rfl⟩
  rw [hb] at HM ⊢
  obtain ⟨AL, hAL⟩ : ∃ AL, (if b = true then (Sums.bl S).drop 1 else Sums.bl S) = AL := ⟨_, rfl⟩
  rw [hAL] at HM ⊢
  have hALl : AL.length ≤ 281474976710656 := by
    rw [← hAL]
    split
    · rw [List.length_drop, Sums.bl_length]; omega
    · rw [Sums.bl_length]; omega
  clear hb hAL hS
  obtain ⟨rz, hrz⟩ : ∃ rz, nbA b AL (ixF 46 AL) = rz := ⟨_, rfl⟩
  rw [hrz]
  have HE := Hid.mk' hrz
  have HAL := Hid.mk' hALl
  clear hrz hALl
  go_enter Tryz.func20, Tryz.ntmps20
  go_wp2_with fail
  refine HM.out.mono ?_
  rintro e w1 ⟨⟨A, hA, rfl⟩, hw⟩
  have hw2 := hw.symm
  subst hw2
  have hAs : A.size ≤ 281474976710656 := by have := Sums.bl_length A; rw [hA] at this; have := HAL.out; omega
  have HAS := Hid.mk' hAs
  have HAA := Hid.mk' hA
  have HCUT := Hid.mk' (cut_dot A w hAs)
  rw [hA] at HCUT
  clear hw HM hA hAs
  go_wp2_with fail
  refine HCUT.out.mono ?_
  rintro e w2 ⟨rfl, n2, hw2⟩
  have HW2 : Hid (Below w.heap.size w w2) := Hid.mk' (by rw [hw2]; exact (Below.refl _ w).drewN' n2)
  clear hw2 HCUT
  cases hx : ixF 46 AL with
  | none =>
    have hE := HE.out
    rw [hx, nbA] at hE
    simp only [cutR]
    have HDG := Hid.mk' (isDigits_any A 9 w2 HAS.out (by decide))
    rw [HAA.out] at HDG
    obtain ⟨z, hz⟩ : ∃ z, dgsF 9 AL = z := ⟨_, rfl⟩
    rw [hz] at HDG hE
    have HZ := Hid.mk' hz
    have HE2 := Hid.mk' hE
    clear hx hE hz HE
    go_wp2_with fail
    refine HDG.out.mono ?_
    rintro e w3 ⟨rfl, n3, hw3⟩
    have HW3 : Hid (Below w.heap.size w w3) := Hid.mk' (by rw [hw3]; exact HW2.out.drewN' n3)
    clear hw3 HDG HW2
    cases z
    · have hr : ((0 : Int), false) = rz := HE2.out
      subst hr
      simp only [Bool.not_false]
      go_wp2_with fail
      refine ⟨rfl, _, ?_, rfl, HW3.out⟩
      simp [results, Tryz.f20, go_sem]
    · obtain ⟨g1, g2, g3⟩ := dgs_ok HZ.out
      have hAl : A.size = AL.length := by rw [← Sums.bl_length, HAA.out]
      have HDD : Hid ((∀ x ∈ AL ++ [48, 48, 48], digB x = true) ∧ (AL ++ [48, 48, 48]).length ≤ 12) := Hid.mk' ⟨fun x hx => by
        rcases List.mem_append.1 hx with h | h
        · exact g3 x h
        · simp at h
          subst h
          rfl, by rw [List.length_append]; simp; omega⟩
      have HAT := Hid.mk' (fun W => atoi_any (A ++ ByteArray.extract ⟨#[48, 48, 48]⟩ 0 3) W (by rw [ByteArray.size_append]; omega) (by rw [ByteArray.size_append]; show A.size + 3 ≤ 18; omega) (fun x hx => by
        rw [Sums.bl_append, HAA.out] at hx
        exact HDD.out.1 x hx))
      rw [Sums.bl_append, HAA.out, show Sums.bl (ByteArray.extract ⟨#[48, 48, 48]⟩ 0 3) = [48, 48, 48] from rfl] at HAT
      have hAI : (A.size : Int) ≤ 9 := by omega
      clear g1 g2 g3 hAl
      generalize hN : dcN (AL ++ [48, 48, 48]) 0 = N at HAT HE2
      have hNb : N < 1000000000000 := by rw [← hN]; exact dcN_few _ HDD.out.1 HDD.out.2
      have hNI : (N : Int) < 1000000000000 := by omega
      have hwr : IntKind.i64.wrap (-(N : Int)) = -(N : Int) := by rw [IntKind.wrap_i64]; omega
      clear hN HDD hNb
      simp only [Bool.not_true]
      go_wp2_with fail
      refine (HAT.out _).mono ?_
      rintro e w4 ⟨rfl, hb4⟩
      have HW4 : Hid (Below w.heap.size w w4) := Hid.mk' (HW3.out.trans ⟨hb4.os, hb4.tape, hb4.output, hb4.size, fun j hj => hb4.block j (by have := HW3.out.size; omega)⟩)
      clear hb4 HAT HW3
      cases b
      · have hr : ((N : Int), true) = rz := by have := HE2.out; simpa [sgI] using this
        subst hr
        go_wp2_with fail
        refine ⟨rfl, _, ?_, rfl, HW4.out⟩
        simp [results, Tryz.f20, go_sem]
      · have hr : (-(N : Int), true) = rz := by have := HE2.out; simpa [sgI] using this
        subst hr
        go_wp2_with fail
        refine ⟨rfl, _, ?_, rfl, HW4.out⟩
        simp [results, Tryz.f20, go_sem]
  | some i =>
    have hE := HE.out
    rw [hx, nbA] at hE
    simp only [cutR]
    have hil := ixF_lt _ _ _ hx
    obtain ⟨W1, hW1⟩ : ∃ W1, A.extract 0 i = W1 := ⟨_, rfl⟩
    obtain ⟨P1, hP1⟩ : ∃ P1, A.extract (i + 1) A.size = P1 := ⟨_, rfl⟩
    have hbW : Sums.bl W1 = AL.take i := by rw [← hW1, Sums.bl_take, HAA.out]
    have hbP : Sums.bl P1 = AL.drop (i + 1) := by rw [← hP1, Sums.bl_drop, HAA.out]
    rw [hW1, hP1]
    have hWs : W1.size = (AL.take i).length := by rw [← hbW, Sums.bl_length]
    have hPs : P1.size = (AL.drop (i + 1)).length := by rw [← hbP, Sums.bl_length]
    generalize AL.take i = WL at hE hbW hWs
    generalize AL.drop (i + 1) = PL at hE hbP hPs
    have HSS : Hid (W1.size ≤ 281474976710656 ∧ P1.size ≤ 281474976710656) := Hid.mk' (by rw [← hW1, ← hP1, ByteArray.size_extract, ByteArray.size_extract]; have := HAS.out; omega)
    have HDG := Hid.mk' (isDigits_any W1 9 w2 HSS.out.1 (by decide))
    rw [hbW] at HDG
    have HWP := Hid.mk' (And.intro (And.intro hbW hbP) (And.intro hWs hPs))
    obtain ⟨z, hz⟩ : ∃ z, dgsF 9 WL = z := ⟨_, rfl⟩
    rw [hz] at HDG hE
    have HZ := Hid.mk' hz
    have HE2 := Hid.mk' hE
    clear hx hE hz HE hil hW1 hP1 hbW hbP hWs hPs
    go_wp2_with fail
    refine HDG.out.mono ?_
    rintro e w3 ⟨rfl, n3, hw3⟩
    have HW3 : Hid (Below w.heap.size w w3) := Hid.mk' (by rw [hw3]; exact HW2.out.drewN' n3)
    clear hw3 HDG HW2
    cases z
    · have hr : ((0 : Int), false) = rz := HE2.out
      subst hr
      simp only [Bool.not_false]
      go_wp2_with fail
      refine ⟨rfl, _, ?_, rfl, HW3.out⟩
      simp [results, Tryz.f20, go_sem]
    · have HDH := Hid.mk' (isDigits_any P1 3 w3 HSS.out.2 (by decide))
      rw [HWP.out.1.2] at HDH
      have hE := HE2.out
      rw [if_pos rfl] at hE
      obtain ⟨y, hy⟩ : ∃ y, dgsF 3 PL = y := ⟨_, rfl⟩
      rw [hy] at HDH hE
      have HY := Hid.mk' hy
      have HE3 := Hid.mk' hE
      clear hE hy HE2
      simp only [Bool.not_true]
      go_wp2_with fail
      refine HDH.out.mono ?_
      rintro e w5 ⟨rfl, n5, hw5⟩
      have HW5 : Hid (Below w.heap.size w w5) := Hid.mk' (by rw [hw5]; exact HW3.out.drewN' n5)
      clear hw5 HDH HW3
      cases y
      · have hr : ((0 : Int), false) = rz := HE3.out
        subst hr
        simp only [Bool.not_false]
        go_wp2_with fail
        refine ⟨rfl, _, ?_, rfl, HW5.out⟩
        simp [results, Tryz.f20, go_sem]
      · obtain ⟨g1, g2, g3⟩ := dgs_ok HZ.out
        obtain ⟨k1, k2, k3⟩ := dgs_ok HY.out
        obtain ⟨⟨hbW, hbP⟩, hWs, hPs⟩ := HWP.out
        have hWI : (W1.size : Int) ≤ 9 := by omega
        have hPI : (P1.size : Int) ≤ 3 := by omega
        have HDD : Hid ((∀ x ∈ WL ++ (PL ++ [48, 48, 48]).take 3, digB x = true) ∧ (WL ++ (PL ++ [48, 48, 48]).take 3).length ≤ 12) := Hid.mk' ⟨fun x hx => by
          rcases List.mem_append.1 hx with h | h
          · exact g3 x h
          · rcases List.mem_append.1 (List.mem_of_mem_take h) with h2 | h2
            · exact k3 x h2
            · simp at h2
              subst h2
              rfl, by rw [List.length_append, List.length_take]; omega⟩
        have HAT := Hid.mk' (fun W => atoi_any (W1 ++ (P1 ++ ⟨#[48, 48, 48]⟩).extract 0 3) W (by rw [ByteArray.size_append]; omega) (by rw [ByteArray.size_append, ByteArray.size_extract]; omega) (fun x hx => by
          rw [Sums.bl_append, Sums.bl_take, Sums.bl_append, hbW, hbP] at hx
          exact HDD.out.1 x hx))
        rw [Sums.bl_append, Sums.bl_take, Sums.bl_append, hbW, hbP, show Sums.bl ⟨#[48, 48, 48]⟩ = [48, 48, 48] from rfl] at HAT
        clear g1 g2 g3 k1 k2 k3 hbW hbP hWs hPs
        generalize hN : dcN (WL ++ (PL ++ [48, 48, 48]).take 3) 0 = N at HAT HE3
        have hNb : N < 1000000000000 := by rw [← hN]; exact dcN_few _ HDD.out.1 HDD.out.2
        have hNI : (N : Int) < 1000000000000 := by omega
        have hwr : IntKind.i64.wrap (-(N : Int)) = -(N : Int) := by rw [IntKind.wrap_i64]; omega
        clear hN HDD hNb
        simp only [Bool.not_true]
        go_wp2_with fail
        refine (HAT.out _).mono ?_
        rintro e w4 ⟨rfl, hb4⟩
        have HW4 : Hid (Below w.heap.size w w4) := Hid.mk' (HW5.out.trans ⟨hb4.os, hb4.tape, hb4.output, hb4.size, fun j hj => hb4.block j (by have := HW5.out.size; omega)⟩)
        clear hb4 HAT HW5
        cases b
        · have hr : ((N : Int), true) = rz := by have := HE3.out; simpa [sgI] using this
          subst hr
          go_wp2_with fail
          refine ⟨rfl, _, ?_, rfl, HW4.out⟩
          simp [results, Tryz.f20, go_sem]
        · have hr : (-(N : Int), true) = rz := by have := HE3.out; simpa [sgI] using this
          subst hr
          go_wp2_with fail
          refine ⟨rfl, _, ?_, rfl, HW4.out⟩
          simp [results, Tryz.f20, go_sem]
end Go.Proofs.YtkplbggefiemdaaGreatDoor

namespace Go.Proofs.YtkplbggefiemdaaGreatDoor
open Go.RowKit
set_option linter.unusedVariables false
set_option linter.unusedSimpArgs false
def lxF : List Nat → List Nat → Bool
  | [], [] => false
  | [], _ :: _ => true
  | _ :: _, [] => false
  | x :: a, y :: b => decide (x < y) || (decide (x = y) && lxF a b)
theorem less_lxF : ∀ (a b : List UInt8), Op.bytesLess a b = lxF (a.map UInt8.toNat) (b.map UInt8.toNat)
  | [], [] => rfl
  | [], _ :: _ => rfl
  | _ :: _, [] => rfl
  | x :: a, y :: b => by
    rw [Op.bytesLess, List.map_cons, List.map_cons, lxF, less_lxF a b]
    congr 1
    · congr 1
      rw [Bool.eq_iff_iff]
      simp only [beq_iff_eq, decide_eq_true_eq]
      exact ⟨fun e => by rw [e], fun e => UInt8.toNat_inj.1 e⟩
/-- what Less tells -/
def leF (s t : List Nat) : Bool :=
  if ((nbF s).2 != (nbF t).2) = true then (nbF s).2 else if ((nbF s).1 != (nbF t).1) = true then decide ((nbF s).1 < (nbF t).1) else lxF s t
set_option maxRecDepth 100000 in
set_option maxHeartbeats 8000000 in
theorem less_fl (S T : ByteArray) (w : World) (hS : S.size ≤ 281474976710656) (hT : T.size ≤ 281474976710656) : Calls Tryz.prog 23 #[.string S, .string T] w fun e w' => e = .returned (.bool (leF (Sums.bl S) (Sums.bl T))) ∧ Below w.heap.size w w' := by
  have HA := Hid.mk' (number_fl S w hS)
  have HB := Hid.mk' (fun W => number_fl T W hT)
  clear hS hT
  have hlx : Op.bytesLess S.toList T.toList = lxF (Sums.bl S) (Sums.bl T) := by
    rw [less_lxF, ByteArray.toList_eq, ByteArray.toList_eq]; rfl
  have HLX := Hid.mk' hlx
  clear hlx
  obtain ⟨rz, hrz⟩ : ∃ rz, leF (Sums.bl S) (Sums.bl T) = rz := ⟨_, rfl⟩
  rw [hrz]
  unfold leF at hrz
  obtain ⟨m, hm⟩ : ∃ m, (nbF (Sums.bl S)).1 = m := ⟨_, rfl⟩
  obtain ⟨a, ha⟩ : ∃ a, (nbF (Sums.bl S)).2 = a := ⟨_, rfl⟩
  obtain ⟨n, hn⟩ : ∃ n, (nbF (Sums.bl T)).1 = n := ⟨_, rfl⟩
  obtain ⟨b, hb⟩ : ∃ b, (nbF (Sums.bl T)).2 = b := ⟨_, rfl⟩
  rw [hm, ha] at HA
  rw [hn, hb] at HB
  rw [hm, ha, hn, hb] at hrz
  have HR := Hid.mk' hrz
  clear hm ha hn hb hrz
  go_enter Tryz.func23, Tryz.ntmps23
  go_wp2_with fail
  refine HA.out.mono ?_
  rintro e w1 ⟨rfl, h1⟩
  have HW1 := Hid.mk' h1
  clear h1 HA
  go_wp2_with fail
  refine (HB.out w1).mono ?_
  rintro e w2 ⟨rfl, h2⟩
  have HW2 : Hid (Below w.heap.size w w2) := Hid.mk' (HW1.out.trans ⟨h2.os, h2.tape, h2.output, h2.size, fun j hj => h2.block j (by have := HW1.out.size; omega)⟩)
  clear h2 HB HW1
  go_wp2_with fail
  · rename_i c
    have hr : a = rz := by have h := HR.out; rw [if_pos (by simpa [bne] using c)] at h; exact h
    subst hr
    refine ⟨rfl, _, ?_, rfl, HW2.out⟩
    simp [results, Tryz.f23, go_sem]
  · rename_i c d
    have hr : decide (m < n) = rz := by have h := HR.out; rw [if_neg (by simpa [bne] using c), if_pos d] at h; exact h
    subst hr
    refine ⟨rfl, _, ?_, rfl, HW2.out⟩
    simp [results, Tryz.f23, go_sem]
  · rename_i c d
    have hr : Op.bytesLess S.toList T.toList = rz := by have h := HR.out; rw [if_neg (by simpa [bne] using c), if_neg (by simp [d])] at h; rw [HLX.out]; exact h
    subst hr
    refine ⟨rfl, _, ?_, rfl, HW2.out⟩
    simp [results, Tryz.f23, go_sem]
end Go.Proofs.YtkplbggefiemdaaGreatDoor

namespace Go.Proofs.YtkplbggefiemdaaGreatDoor
open Go.RowKit
set_option linter.unusedVariables false
set_option linter.unusedSimpArgs false
def cmI (m n : Int) : Int := if decide (m < n) = true then -1 else if decide (n < m) = true then 1 else 0
def cmS (s t : List Nat) : Int := if lxF s t = true then -1 else if lxF t s = true then 1 else 0
/-- what compare tells -/
def cmF (s t : List Nat) : Int := if ((nbF s).2 && (nbF t).2) = true then cmI (nbF s).1 (nbF t).1 else cmS s t
theorem bl_self : ∀ a : List UInt8, Op.bytesLess a a = false
  | [] => rfl
  | x :: a => by rw [Op.bytesLess, bl_self a]; simp
theorem bl_tri : ∀ a b : List UInt8, Op.bytesLess a b = false → a ≠ b → Op.bytesLess b a = true
  | [], [], _, h => absurd rfl h
  | [], _ :: _, h, _ => by cases h
  | _ :: _, [], _, _ => rfl
  | x :: a, y :: b, h, e => by
    rw [Op.bytesLess] at h ⊢
    simp only [Bool.or_eq_false_iff, Bool.and_eq_false_iff, decide_eq_false_iff_not, beq_eq_false_iff_ne] at h
    simp only [Bool.or_eq_true, Bool.and_eq_true, decide_eq_true_eq, beq_iff_eq]
    by_cases c : y = x
    · subst c
      refine Or.inr ⟨rfl, bl_tri a b ?_ (fun z => e (by rw [z]))⟩
      rcases h.2 with q | q
      · exact absurd rfl q
      · exact q
    · left
      have h1 := h.1
      have : ¬ y.toNat = x.toNat := fun z => c (UInt8.toNat_inj.1 z)
      simp only [UInt8.lt_iff_toNat_lt] at h1 ⊢
      omega
set_option maxRecDepth 100000 in
set_option maxHeartbeats 8000000 in
theorem nanInt (m : Int) (w : World) : Calls Tryz.prog 112 #[.int .i64 m] w fun e w' => e = .returned (.bool false) ∧ w' = w := by
  go_enter Tryz.func112, Tryz.ntmps112
  go_wp2
  refine ⟨rfl, _, ?_, rfl, rfl⟩
  simp [results, Tryz.f112, go_sem]
set_option maxRecDepth 100000 in
set_option maxHeartbeats 8000000 in
theorem nanStr (S : ByteArray) (w : World) : Calls Tryz.prog 113 #[.string S] w fun e w' => e = .returned (.bool false) ∧ w' = w := by
  go_enter Tryz.func113, Tryz.ntmps113
  go_wp2
  refine ⟨rfl, _, ?_, rfl, rfl⟩
  simp [results, Tryz.f113, go_sem]
set_option maxRecDepth 100000 in
set_option maxHeartbeats 8000000 in
theorem cmpInt (m n : Int) (w : World) : Calls Tryz.prog 80 #[.int .i64 m, .int .i64 n] w fun e w' => e = .returned (.int .i64 (cmI m n)) ∧ w' = w := by
  obtain ⟨rz, hrz⟩ : ∃ rz, cmI m n = rz := ⟨_, rfl⟩
  rw [hrz]
  unfold cmI at hrz
  have HR := Hid.mk' hrz
  clear hrz
  go_enter Tryz.func80, Tryz.ntmps80
  go_wp2_with fail
  refine (nanInt m w).mono ?_
  rintro e w1 ⟨rfl, rfl⟩
  go_wp2_with fail
  refine (nanInt n _).mono ?_
  rintro e w1 ⟨rfl, rfl⟩
  go_wp2_with fail
  · rename_i c
    have hr : (-1 : Int) = rz := by have h := HR.out; rw [decide_eq_true c] at h; exact h
    subst hr
    refine ⟨rfl, _, ?_, rfl, rfl⟩
    simp [results, Tryz.f80, go_sem]
  · rename_i c d
    have hr : (1 : Int) = rz := by have h := HR.out; rw [decide_eq_false (show ¬ m < n by omega), decide_eq_true (show n < m by omega)] at h; exact h
    subst hr
    refine ⟨rfl, _, ?_, rfl, rfl⟩
    simp [results, Tryz.f80, go_sem]
  · rename_i c d
    have hr : (0 : Int) = rz := by have h := HR.out; rw [decide_eq_false (show ¬ m < n by omega), decide_eq_false (show ¬ n < m by omega)] at h; exact h
    subst hr
    refine ⟨rfl, _, ?_, rfl, rfl⟩
    simp [results, Tryz.f80, go_sem]
set_option maxRecDepth 100000 in
set_option maxHeartbeats 8000000 in
theorem cmpStr (S T : ByteArray) (w : World) : Calls Tryz.prog 81 #[.string S, .string T] w fun e w' => e = .returned (.int .i64 (cmS (Sums.bl S) (Sums.bl T))) ∧ w' = w := by
  have hl1 : Op.bytesLess S.toList T.toList = lxF (Sums.bl S) (Sums.bl T) := by
    rw [less_lxF, ByteArray.toList_eq, ByteArray.toList_eq]; rfl
  have hl2 : Op.bytesLess T.toList S.toList = lxF (Sums.bl T) (Sums.bl S) := by
    rw [less_lxF, ByteArray.toList_eq, ByteArray.toList_eq]; rfl
  obtain ⟨rz, hrz⟩ : ∃ rz, cmS (Sums.bl S) (Sums.bl T) = rz := ⟨_, rfl⟩
  rw [hrz]
  unfold cmS at hrz
  rw [← hl1, ← hl2] at hrz
  have HR := Hid.mk' hrz
  clear hrz hl1 hl2
  go_enter Tryz.func81, Tryz.ntmps81
  go_wp2_with fail
  refine (nanStr S w).mono ?_
  rintro e w1 ⟨rfl, rfl⟩
  go_wp2_with fail
  refine (nanStr T _).mono ?_
  rintro e w1 ⟨rfl, rfl⟩
  go_wp2_with fail
  · rename_i c
    have hr : (-1 : Int) = rz := by have h := HR.out; rw [c] at h; exact h
    subst hr
    refine ⟨rfl, _, ?_, rfl, rfl⟩
    simp [results, Tryz.f81, go_sem]
  · rename_i c d
    have hr : (1 : Int) = rz := by
      have h := HR.out
      have c1 : Op.bytesLess S.toList T.toList = false := by assumption
      rw [c1, bl_tri _ _ c1 (by simpa using d)] at h
      exact h
    subst hr
    refine ⟨rfl, _, ?_, rfl, rfl⟩
    simp [results, Tryz.f81, go_sem]
  · rename_i c d
    have hr : (0 : Int) = rz := by
      have h := HR.out
      have e : S.toList = T.toList := by simpa using d
      rw [e, bl_self] at h
      exact h
    subst hr
    refine ⟨rfl, _, ?_, rfl, rfl⟩
    simp [results, Tryz.f81, go_sem]
set_option maxRecDepth 100000 in
set_option maxHeartbeats 8000000 in
theorem compare_fl (S T : ByteArray) (w : World) (hS : S.size ≤ 281474976710656) (hT : T.size ≤ 281474976710656) : Calls Tryz.prog 49 #[.string S, .string T] w fun e w' => e = .returned (.int .i64 (cmF (Sums.bl S) (Sums.bl T))) ∧ Below w.heap.size w w' := by
  have HA := Hid.mk' (number_fl S w hS)
  have HB := Hid.mk' (fun W => number_fl T W hT)
  clear hS hT
  obtain ⟨rz, hrz⟩ : ∃ rz, cmF (Sums.bl S) (Sums.bl T) = rz := ⟨_, rfl⟩
  rw [hrz]
  unfold cmF at hrz
  obtain ⟨m, hm⟩ : ∃ m, (nbF (Sums.bl S)).1 = m := ⟨_, rfl⟩
  obtain ⟨a, ha⟩ : ∃ a, (nbF (Sums.bl S)).2 = a := ⟨_, rfl⟩
  obtain ⟨n, hn⟩ : ∃ n, (nbF (Sums.bl T)).1 = n := ⟨_, rfl⟩
  obtain ⟨b, hb⟩ : ∃ b, (nbF (Sums.bl T)).2 = b := ⟨_, rfl⟩
  rw [hm, ha] at HA
  rw [hn, hb] at HB
  rw [hm, ha, hn, hb] at hrz
  have HR := Hid.mk' hrz
  clear hm ha hn hb hrz
  go_enter Tryz.func49, Tryz.ntmps49
  go_wp2_with fail
  refine HA.out.mono ?_
  rintro e w1 ⟨rfl, h1⟩
  have HW1 := Hid.mk' h1
  clear h1 HA
  go_wp2_with fail
  refine (HB.out w1).mono ?_
  rintro e w2 ⟨rfl, h2⟩
  have HW2 : Hid (Below w.heap.size w w2) := Hid.mk' (HW1.out.trans ⟨h2.os, h2.tape, h2.output, h2.size, fun j hj => h2.block j (by have := HW1.out.size; omega)⟩)
  clear h2 HB HW1
  have hff : (if (a && b) = true then cmI m n else cmS (Sums.bl S) (Sums.bl T)) = rz := HR.out
  clear HR
  cases a
  · have HR : Hid (cmS (Sums.bl S) (Sums.bl T) = rz) := Hid.mk' (by simpa using hff)
    clear hff
    go_wp2_with fail
    have HC := cmpStr S T w2
    rw [HR.out] at HC
    refine HC.mono ?_
    rintro e w3 ⟨rfl, rfl⟩
    clear HR HC
    go_wp2_with fail
    refine ⟨rfl, _, ?_, rfl, HW2.out⟩
    simp [results, Tryz.f49, go_sem]
  · cases b
    · have HR : Hid (cmS (Sums.bl S) (Sums.bl T) = rz) := Hid.mk' (by simpa using hff)
      clear hff
      go_wp2_with fail
      have HC := cmpStr S T w2
      rw [HR.out] at HC
      refine HC.mono ?_
      rintro e w3 ⟨rfl, rfl⟩
      clear HR HC
      go_wp2_with fail
      refine ⟨rfl, _, ?_, rfl, HW2.out⟩
      simp [results, Tryz.f49, go_sem]
    · have HR : Hid (cmI m n = rz) := Hid.mk' (by simpa using hff)
      clear hff
      go_wp2_with fail
      have HC := cmpInt m n w2
      rw [HR.out] at HC
      refine HC.mono ?_
      rintro e w3 ⟨rfl, rfl⟩
      clear HR HC
      go_wp2_with fail
      refine ⟨rfl, _, ?_, rfl, HW2.out⟩
      simp [results, Tryz.f49, go_sem]
end Go.Proofs.YtkplbggefiemdaaGreatDoor

namespace Go.Proofs.YtkplbggefiemdaaGreatDoor
open Go.RowKit
set_option linter.unusedVariables false
set_option linter.unusedSimpArgs false
def letB (x : Nat) : Bool := (decide (65 ≤ x) && decide (x ≤ 90)) || (decide (97 ≤ x) && decide (x ≤ 122))
set_option maxRecDepth 100000 in
set_option maxHeartbeats 4000000 in
theorem isLetter_any (b : Nat) (w : World) : Calls Tryz.prog 31 #[.int .u8 (b : Int)] w fun e w' => e = .returned (.bool (letB b)) ∧ w' = w := by
  unfold letB
  rcases (show b < 65 ∨ (65 ≤ b ∧ b ≤ 90) ∨ (91 ≤ b ∧ b ≤ 96) ∨ (97 ≤ b ∧ b ≤ 122) ∨ 123 ≤ b by omega) with h | h | h | h | h
  · have t0 : decide ((65 : Int) ≤ (b : Int)) = false := decide_eq_false (by omega)
    have n0 : decide (65 ≤ b) = false := decide_eq_false (by omega)
    have t1 : decide ((b : Int) ≤ 90) = true := decide_eq_true (by omega)
    have n1 : decide (b ≤ 90) = true := decide_eq_true (by omega)
    have t2 : decide ((97 : Int) ≤ (b : Int)) = false := decide_eq_false (by omega)
    have n2 : decide (97 ≤ b) = false := decide_eq_false (by omega)
    have t3 : decide ((b : Int) ≤ 122) = true := decide_eq_true (by omega)
    have n3 : decide (b ≤ 122) = true := decide_eq_true (by omega)
    rw [n0, n1, n2, n3]
    clear h
    go_enter Tryz.func31, Tryz.ntmps31
    go_wp2_with fail
    go_ret
    exact ⟨rfl, rfl⟩
  · have t0 : decide ((65 : Int) ≤ (b : Int)) = true := decide_eq_true (by omega)
    have n0 : decide (65 ≤ b) = true := decide_eq_true (by omega)
    have t1 : decide ((b : Int) ≤ 90) = true := decide_eq_true (by omega)
    have n1 : decide (b ≤ 90) = true := decide_eq_true (by omega)
    have t2 : decide ((97 : Int) ≤ (b : Int)) = false := decide_eq_false (by omega)
    have n2 : decide (97 ≤ b) = false := decide_eq_false (by omega)
    have t3 : decide ((b : Int) ≤ 122) = true := decide_eq_true (by omega)
    have n3 : decide (b ≤ 122) = true := decide_eq_true (by omega)
    rw [n0, n1, n2, n3]
    clear h
    go_enter Tryz.func31, Tryz.ntmps31
    go_wp2_with fail
    go_ret
    exact ⟨rfl, rfl⟩
  · have t0 : decide ((65 : Int) ≤ (b : Int)) = true := decide_eq_true (by omega)
    have n0 : decide (65 ≤ b) = true := decide_eq_true (by omega)
    have t1 : decide ((b : Int) ≤ 90) = false := decide_eq_false (by omega)
    have n1 : decide (b ≤ 90) = false := decide_eq_false (by omega)
    have t2 : decide ((97 : Int) ≤ (b : Int)) = false := decide_eq_false (by omega)
    have n2 : decide (97 ≤ b) = false := decide_eq_false (by omega)
    have t3 : decide ((b : Int) ≤ 122) = true := decide_eq_true (by omega)
    have n3 : decide (b ≤ 122) = true := decide_eq_true (by omega)
    rw [n0, n1, n2, n3]
    clear h
    go_enter Tryz.func31, Tryz.ntmps31
    go_wp2_with fail
    go_ret
    exact ⟨rfl, rfl⟩
  · have t0 : decide ((65 : Int) ≤ (b : Int)) = true := decide_eq_true (by omega)
    have n0 : decide (65 ≤ b) = true := decide_eq_true (by omega)
    have t1 : decide ((b : Int) ≤ 90) = false := decide_eq_false (by omega)
    have n1 : decide (b ≤ 90) = false := decide_eq_false (by omega)
    have t2 : decide ((97 : Int) ≤ (b : Int)) = true := decide_eq_true (by omega)
    have n2 : decide (97 ≤ b) = true := decide_eq_true (by omega)
    have t3 : decide ((b : Int) ≤ 122) = true := decide_eq_true (by omega)
    have n3 : decide (b ≤ 122) = true := decide_eq_true (by omega)
    rw [n0, n1, n2, n3]
    clear h
    go_enter Tryz.func31, Tryz.ntmps31
    go_wp2_with fail
    go_ret
    exact ⟨rfl, rfl⟩
  · have t0 : decide ((65 : Int) ≤ (b : Int)) = true := decide_eq_true (by omega)
    have n0 : decide (65 ≤ b) = true := decide_eq_true (by omega)
    have t1 : decide ((b : Int) ≤ 90) = false := decide_eq_false (by omega)
    have n1 : decide (b ≤ 90) = false := decide_eq_false (by omega)
    have t2 : decide ((97 : Int) ≤ (b : Int)) = true := decide_eq_true (by omega)
    have n2 : decide (97 ≤ b) = true := decide_eq_true (by omega)
    have t3 : decide ((b : Int) ≤ 122) = false := decide_eq_false (by omega)
    have n3 : decide (b ≤ 122) = false := decide_eq_false (by omega)
    rw [n0, n1, n2, n3]
    clear h
    go_enter Tryz.func31, Tryz.ntmps31
    go_wp2_with fail
    go_ret
    exact ⟨rfl, rfl⟩
/-- is it among these? -/
def inL (l : List Nat) (x : Nat) : Bool := (ixF x l).isSome
def nmL : List Nat := [95, 46, 45, 91, 93]
def vlL : List Nat := [32, 9, 44, 59]
def nmB (x : Nat) : Bool := (letB x || digB x) || inL nmL x
def vlB (x : Nat) : Bool := !inL vlL x
def oneV (c : Nat) : Value := .func (.func 92) #[] #[.pointer (some ⟨c, 0, none⟩)]
theorem oneOf_any (s : ByteArray) (w : World) : Calls Tryz.prog 61 #[.string s] w fun e w' => e = .returned (oneV w.heap.size) ∧ w' = w.alloc (.cells #[.string s] 9) := by
  go_enter Tryz.func61, Tryz.ntmps61
  go_wp2_with fail
  go_ret
  exact ⟨rfl, rfl⟩
set_option maxRecDepth 100000 in
set_option maxHeartbeats 4000000 in
theorem oneOf1_any (L : List Nat) (s : ByteArray) (hs : Sums.bl s = L) (c b : Nat) (W : World) (hb : b < 256) (hc : W.cell? ⟨c, 0, none⟩ = some (.string s)) :
    Calls Tryz.prog 92 #[.int .u8 (b : Int), .pointer (some ⟨c, 0, none⟩)] W fun e w' => e = .returned (.bool (inL L b)) ∧ w' = W := by
  have HX := Any.strings_IndexByte YtkplbggefiemdaaGreatDoor.lays137 s (b : Int) W
  rw [ix_lib] at HX
  have e1 : ((b : Int).toNat.toUInt8).toNat = b := by rw [Int.toNat_natCast]; exact UInt8.toNat_ofNat_of_lt hb
  have e2 : s.data.toList.map UInt8.toNat = L := hs
  rw [e1, e2] at HX
  unfold inL
  cases hx : ixF b L with
  | none =>
    rw [hx] at HX
    simp only [ixI] at HX
    have HY := Hid.mk' HX
    clear HX hx e1 e2 hs hb
    go_enter Tryz.func92, Tryz.ntmps92
    go_wp2_with fail
    refine Calls.mono HY.out ?_
    rintro e w1 ⟨rfl, hw⟩
    have HW := Hid.mk' hw
    clear hw
    go_wp2_with fail
    go_ret
    exact ⟨rfl, HW.out⟩
  | some i =>
    rw [hx] at HX
    simp only [ixI] at HX
    have HY := Hid.mk' HX
    have hi : decide ((0 : Int) ≤ (i : Int)) = true := decide_eq_true (by omega)
    clear HX hx e1 e2 hs hb
    go_enter Tryz.func92, Tryz.ntmps92
    go_wp2_with fail
    refine Calls.mono HY.out ?_
    rintro e w1 ⟨rfl, hw⟩
    have HW := Hid.mk' hw
    clear hw
    go_wp2_with fail
    go_ret
    exact ⟨rfl, HW.out⟩
/-- a box that holds a function that tells whether a byte is among these -/
def ByB (L : List Nat) (b : Nat) (w : World) : Prop := ∃ (c : Nat) (s : ByteArray), Sums.bl s = L ∧ w.heap[b]? = some (.cells #[oneV c] 55 (0, 0)) ∧ w.heap[c]? = some (.cells #[.string s] 9 (0, 0))
theorem ByB.cells {L : List Nat} {b : Nat} {w : World} (h : ByB L b w) : ∃ (c : Nat) (s : ByteArray), Sums.bl s = L ∧ w.cell? ⟨b, 0, none⟩ = some (oneV c) ∧ w.cell? ⟨c, 0, none⟩ = some (.string s) := by
  obtain ⟨c, s, h1, h2, h3⟩ := h
  exact ⟨c, s, h1, by simp [World.cell?, h2], by simp [World.cell?, h3]⟩
theorem store_box {P : Program} (X : World) (x v : Value) (t : TypeId) (n : Nat) (hn : n = X.heap.size) (hv : v.oneCell' = true) : (store ⟨n, 0, none⟩ v).run P (X.alloc (.cells #[x] t)) = .ok () (X.alloc (.cells #[v] t)) := by
  subst hn
  have h := Boxed.new X t x
  rw [run_store P _ _ v _ hv, h.cell, h.frozen]
  show Result.ok () _ = _
  rw [World.setCell_alloc_at _ _ _ _ _ rfl]
  rfl
theorem box2 (w : World) (s : ByteArray) (L : List Nat) (hs : Sums.bl s = L) : ByB L (w.heap.size + 1) ((w.alloc (.cells #[.string s] 9)).alloc (.cells #[oneV w.heap.size] 55)) ∧ Below w.heap.size w ((w.alloc (.cells #[.string s] 9)).alloc (.cells #[oneV w.heap.size] 55)) := by
  have s1 : (w.alloc (.cells #[.string s] 9)).heap.size = w.heap.size + 1 := by simp
  have h2 := heap_alloc_new (w.alloc (.cells #[.string s] 9)) (.cells #[oneV w.heap.size] 55)
  rw [s1] at h2
  have h1 := heap_alloc_new w (.cells #[.string s] 9)
  have h3 := (Below.heap_alloc (w.alloc (.cells #[.string s] 9)) (.cells #[oneV w.heap.size] 55) w.heap.size (by omega)).trans h1
  exact ⟨⟨w.heap.size, s, hs, h2, h3⟩, ((Below.refl _ w).alloc (Nat.le_refl _) _).alloc (by omega) _⟩
def nmV (b : Nat) : Value := .func (.func 62) #[] #[.pointer (some ⟨b, 0, none⟩)]
def vlV (b : Nat) : Value := .func (.func 147) #[] #[.pointer (some ⟨b, 0, none⟩)]
set_option maxRecDepth 100000 in
set_option maxHeartbeats 4000000 in
theorem isNameByte_new (w : World) : Calls Tryz.prog 33 #[] w fun e w' => e = .returned (nmV (w.heap.size + 1)) ∧ ByB nmL (w.heap.size + 1) w' ∧ Below w.heap.size w w' := by
  have HB := Hid.mk' (box2 w ⟨#[95, 46, 45, 91, 93]⟩ nmL rfl)
  have hst := store_box (P := Tryz.prog) (w.alloc (.cells #[.string ⟨#[95, 46, 45, 91, 93]⟩] 9)) .nilFunc (oneV w.heap.size) 55 (w.heap.size + 1) (by simp) rfl
  go_enter Tryz.func33, Tryz.ntmps33
  go_wp2_with fail
  refine (oneOf_any _ w).mono ?_
  rintro e w1 ⟨rfl, rfl⟩
  unfold oneV at hst ⊢
  go_wp2_with fail
  go_ret
  exact ⟨rfl, HB.out⟩
set_option maxRecDepth 100000 in
set_option maxHeartbeats 4000000 in
theorem isValueByte_new (w : World) : Calls Tryz.prog 118 #[] w fun e w' => e = .returned (vlV (w.heap.size + 1)) ∧ ByB vlL (w.heap.size + 1) w' ∧ Below w.heap.size w w' := by
  have HB := Hid.mk' (box2 w ⟨#[32, 9, 44, 59]⟩ vlL rfl)
  have hst := store_box (P := Tryz.prog) (w.alloc (.cells #[.string ⟨#[32, 9, 44, 59]⟩] 9)) .nilFunc (oneV w.heap.size) 55 (w.heap.size + 1) (by simp) rfl
  go_enter Tryz.func118, Tryz.ntmps118
  go_wp2_with fail
  refine (oneOf_any _ w).mono ?_
  rintro e w1 ⟨rfl, rfl⟩
  unfold oneV at hst ⊢
  go_wp2_with fail
  go_ret
  exact ⟨rfl, HB.out⟩
set_option maxRecDepth 100000 in
set_option maxHeartbeats 4000000 in
theorem isNameByte1_any (Bx b : Nat) (W : World) (hb : b < 256) (h : ByB nmL Bx W) : Calls Tryz.prog 62 #[.int .u8 (b : Int), .pointer (some ⟨Bx, 0, none⟩)] W fun e w' => e = .returned (.bool (nmB b)) ∧ w' = W := by
  obtain ⟨c, s, hs, h1, h2⟩ := h.cells
  have HL := Hid.mk' (fun X => isLetter_any b X)
  have HD := Hid.mk' (fun X => isDigit_any b X)
  have HO := Hid.mk' (oneOf1_any _ s hs c b W hb h2)
  unfold nmB
  generalize letB b = p at HL ⊢
  generalize digB b = q at HD ⊢
  generalize inL nmL b = r at HO ⊢
  unfold oneV at h1
  clear hs hb h2
  cases p
  · cases q
    · go_enter Tryz.func62, Tryz.ntmps62
      go_wp2_with fail
      refine (HL.out W).mono ?_
      rintro e w1 ⟨rfl, hw⟩
      have hw2 := hw.symm
      subst hw2
      clear hw
      go_wp2_with fail
      refine (HD.out W).mono ?_
      rintro e w1 ⟨rfl, hw⟩
      have hw2 := hw.symm
      subst hw2
      clear hw
      go_wp2_with fail
      refine Calls.mono HO.out ?_
      rintro e w1 ⟨rfl, hw⟩
      have hw2 := hw.symm
      subst hw2
      clear hw
      go_wp2_with fail
      go_ret
      exact ⟨rfl, rfl⟩
    · go_enter Tryz.func62, Tryz.ntmps62
      go_wp2_with fail
      refine (HL.out W).mono ?_
      rintro e w1 ⟨rfl, hw⟩
      have hw2 := hw.symm
      subst hw2
      clear hw
      go_wp2_with fail
      refine (HD.out W).mono ?_
      rintro e w1 ⟨rfl, hw⟩
      have hw2 := hw.symm
      subst hw2
      clear hw
      go_wp2_with fail
      go_ret
      exact ⟨rfl, rfl⟩
  · have e : ((true || q) || r) = true := by cases q <;> rfl
    rw [e]
    clear e
    go_enter Tryz.func62, Tryz.ntmps62
    go_wp2_with fail
    refine (HL.out W).mono ?_
    rintro e w1 ⟨rfl, hw⟩
    have hw2 := hw.symm
    subst hw2
    clear hw
    go_wp2_with fail
    go_ret
    exact ⟨rfl, rfl⟩
set_option maxRecDepth 100000 in
set_option maxHeartbeats 4000000 in
theorem isValueByte1_any (Bx b : Nat) (W : World) (hb : b < 256) (h : ByB vlL Bx W) : Calls Tryz.prog 147 #[.int .u8 (b : Int), .pointer (some ⟨Bx, 0, none⟩)] W fun e w' => e = .returned (.bool (vlB b)) ∧ w' = W := by
  obtain ⟨c, s, hs, h1, h2⟩ := h.cells
  have HO := Hid.mk' (oneOf1_any _ s hs c b W hb h2)
  unfold vlB
  generalize inL vlL b = r at HO ⊢
  unfold oneV at h1
  clear hs hb h2
  go_enter Tryz.func147, Tryz.ntmps147
  go_wp2_with fail
  refine Calls.mono HO.out ?_
  rintro e w1 ⟨rfl, hw⟩
  have hw2 := hw.symm
  subst hw2
  clear hw
  go_wp2_with fail
  go_ret
  exact ⟨rfl, rfl⟩
set_option maxRecDepth 100000 in
theorem rowSize_name (S : ByteArray) (Bx : Nat) (w : World) (hS : S.size ≤ 281474976710656) (h : ByB nmL Bx w) : Calls Tryz.prog 32 #[.string S, nmV Bx] w fun e w' => e = .returned (.int .i64 (rwS nmB (Sums.bl S) : Int)) ∧ ∃ n, w' = w.drewN n :=
  rowSize_any 62 #[.pointer (some ⟨Bx, 0, none⟩)] nmB S w hS (fun _ _ => rfl) fun b W hW hb => by
    obtain ⟨n, hn⟩ := hW
    subst hn
    exact (isNameByte1_any Bx b (w.drewN n) hb h).mono fun e Y hY => ⟨hY.1, n, hY.2⟩
set_option maxRecDepth 100000 in
theorem rowSize_value (S : ByteArray) (Bx : Nat) (w : World) (hS : S.size ≤ 281474976710656) (h : ByB vlL Bx w) : Calls Tryz.prog 32 #[.string S, vlV Bx] w fun e w' => e = .returned (.int .i64 (rwS vlB (Sums.bl S) : Int)) ∧ ∃ n, w' = w.drewN n :=
  rowSize_any 147 #[.pointer (some ⟨Bx, 0, none⟩)] vlB S w hS (fun _ _ => rfl) fun b W hW hb => by
    obtain ⟨n, hn⟩ := hW
    subst hn
    exact (isValueByte1_any Bx b (w.drewN n) hb h).mono fun e Y hY => ⟨hY.1, n, hY.2⟩
end Go.Proofs.YtkplbggefiemdaaGreatDoor

namespace Go.Proofs.YtkplbggefiemdaaGreatDoor
open Go.RowKit
set_option linter.unusedVariables false
set_option linter.unusedSimpArgs false
def hdB : List Nat → Bool
  | [] => false
  | c :: _ => letB c || decide (c = 95)
/-- is it a name? -/
def nameF (l : List Nat) : Bool := decide (0 < l.length) && (decide (l.length ≤ 64) && (hdB l && decide (rwS nmB l = l.length)))
set_option maxRecDepth 100000 in
set_option maxHeartbeats 8000000 in
theorem fname_any (S : ByteArray) (w : World) (hS : S.size ≤ 281474976710656) : Calls Tryz.prog 17 #[.string S] w fun e w' => e = .returned (.bool (nameF (Sums.bl S))) ∧ Below w.heap.size w w' := by
  have hSI : (S.size : Int) ≤ 281474976710656 := by omega
  unfold nameF
  rw [Sums.bl_length]
  by_cases h0 : S.size = 0
  · have hl : Sums.bl S = [] := List.eq_nil_of_length_eq_zero (by rw [Sums.bl_length]; exact h0)
    have hse : S = ByteArray.empty := Sums.bl_inj (hl.trans rfl)
    subst hse
    have e : (decide (0 < ByteArray.empty.size) && (decide (ByteArray.empty.size ≤ 64) && (hdB (Sums.bl ByteArray.empty) && decide (rwS nmB (Sums.bl ByteArray.empty) = ByteArray.empty.size)))) = false := rfl
    rw [e]
    clear hl h0 e
    go_enter Tryz.func17, Tryz.ntmps17
    go_wp2_with fail
    go_ret
    exact ⟨rfl, Below.refl _ _⟩
  · have hti : S.toList.isEmpty = false := by
      rw [ByteArray.toList_eq]
      cases hd : S.data.toList with
      | nil =>
        have : S.size = 0 := by
          show S.data.size = 0
          rw [← Array.length_toList, hd]
          rfl
        omega
      | cons a b => rfl
    have htn : ¬ S.toList = [] := fun e => by rw [e] at hti; cases hti
    rw [decide_eq_true (show 0 < S.size by omega), Bool.true_and]
    by_cases h1 : S.size ≤ 64
    · have t1 : decide ((S.size : Int) ≤ 64) = true := decide_eq_true (by omega)
      have t2 : decide (S.size ≤ 64) = true := decide_eq_true h1
      rw [t2, Bool.true_and]
      obtain ⟨c, rest, hd⟩ : ∃ c rest, Sums.bl S = c :: rest := by
        cases hd : Sums.bl S with
        | nil => have := Sums.bl_length S; rw [hd] at this; simp at this; omega
        | cons c rest => exact ⟨c, rest, rfl⟩
      have hidx : ∀ W, (Instr.index 9 (.string S) (.int .i64 0)).run Tryz.prog W = .ok (.int .u8 (c : Int)) W := fun W => ob_idx S 0 c rest hd W
      have hh : hdB (Sums.bl S) = (letB c || decide (c = 95)) := by rw [hd]; rfl
      rw [hh]
      have HL := Hid.mk' (fun X => isLetter_any c X)
      have HS := Hid.mk' (fun b X (h : ByB nmL b X) => rowSize_name S b X hS h)
      obtain ⟨q, hq⟩ : ∃ q, decide (c = 95) = q := ⟨_, rfl⟩
      have t3 : ((c : Int) == 95) = q := by rw [← hq, Bool.eq_iff_iff]; simp; omega
      have t5 : (c == 95) = q := by rw [← hq, Bool.eq_iff_iff]; simp
      rw [hq]
      generalize letB c = p at HL ⊢
      generalize rwS nmB (Sums.bl S) = r at HS ⊢
      obtain ⟨z, hz⟩ : ∃ z, decide (r = S.size) = z := ⟨_, rfl⟩
      have t6 : ((r : Int) == (S.size : Int)) = z := by rw [← hz, Bool.eq_iff_iff]; simp; omega
      have t7 : (r == S.size) = z := by rw [← hz, Bool.eq_iff_iff]; simp
      rw [hz]
      clear h0 h1 hd hh hq hz hS
      cases p
      · cases q
        · go_enter Tryz.func17, Tryz.ntmps17
          go_wp2_with fail
          refine (HL.out _).mono ?_
          rintro e w1 ⟨rfl, hw⟩
          have hw2 := hw.symm
          subst hw2
          clear hw
          go_wp2_with fail
          go_ret
          exact ⟨rfl, Below.refl _ _⟩
        · go_enter Tryz.func17, Tryz.ntmps17
          go_wp2_with fail
          refine (HL.out _).mono ?_
          rintro e w1 ⟨rfl, hw⟩
          have hw2 := hw.symm
          subst hw2
          clear hw
          go_wp2_with fail
          refine (isNameByte_new w).mono ?_
          rintro e w2 ⟨rfl, hn, hb⟩
          have HB := Hid.mk' hb
          have HC := Hid.mk' (HS.out _ _ hn)
          clear hb hn
          go_wp2_with fail
          refine Calls.mono HC.out ?_
          rintro e w3 ⟨rfl, n, hw⟩
          have HW : Hid (Below w.heap.size w w3) := Hid.mk' (by rw [hw]; exact HB.out.drewN' n)
          clear hw HC HB
          go_wp2_with fail
          go_ret
          exact ⟨by first | rfl | exact ret_b t6 | exact ret_b t7, HW.out⟩
      · have e : ((true || q) && z) = z := by cases q <;> rfl
        rw [e]
        clear e
        go_enter Tryz.func17, Tryz.ntmps17
        go_wp2_with fail
        refine (HL.out _).mono ?_
        rintro e w1 ⟨rfl, hw⟩
        have hw2 := hw.symm
        subst hw2
        clear hw
        go_wp2_with fail
        refine (isNameByte_new w).mono ?_
        rintro e w2 ⟨rfl, hn, hb⟩
        have HB := Hid.mk' hb
        have HC := Hid.mk' (HS.out _ _ hn)
        clear hb hn
        go_wp2_with fail
        refine Calls.mono HC.out ?_
        rintro e w3 ⟨rfl, n, hw⟩
        have HW : Hid (Below w.heap.size w w3) := Hid.mk' (by rw [hw]; exact HB.out.drewN' n)
        clear hw HC HB
        go_wp2_with fail
        go_ret
        exact ⟨by first | rfl | exact ret_b t6 | exact ret_b t7, HW.out⟩
    · have t1 : decide ((S.size : Int) ≤ 64) = false := decide_eq_false (by omega)
      have t2 : decide (S.size ≤ 64) = false := decide_eq_false h1
      rw [t2, Bool.false_and]
      clear h0 h1
      go_enter Tryz.func17, Tryz.ntmps17
      go_wp2_with fail
      go_ret
      exact ⟨rfl, Below.refl _ _⟩
end Go.Proofs.YtkplbggefiemdaaGreatDoor

namespace Go.Proofs.YtkplbggefiemdaaGreatDoor
open Go.RowKit
set_option linter.unusedVariables false
set_option linter.unusedSimpArgs false
/-- what is meant, and what is behind it -/
def cqF : List Nat → List Nat → Option (List Nat × List Nat)
  | [], _ => none
  | [x], m => if x = 34 then some (m, []) else none
  | x :: y :: r, m => if x = 34 then some (m, y :: r) else if x = 92 then (if y = 34 ∨ y = 92 then cqF r (m ++ [y]) else cqF r (m ++ [92, y])) else cqF (y :: r) (m ++ [x])
theorem cq_quote (t m : List Nat) : cqF (34 :: t) m = some (m, t) := by
  cases t with
  | nil => rfl
  | cons y r => rfl
theorem cq_last (x : Nat) (m : List Nat) (h : x ≠ 34) : cqF [x] m = cqF [] (m ++ [x]) := by
  simp [cqF, h]
theorem cq_plain (x : Nat) (t m : List Nat) (h : x ≠ 34) (h2 : x ≠ 92) : cqF (x :: t) m = cqF t (m ++ [x]) := by
  cases t with
  | nil => exact cq_last x m h
  | cons y r => rw [cqF, if_neg h, if_neg h2]
theorem cq_pair (y : Nat) (r m : List Nat) : cqF (92 :: y :: r) m = if y = 34 ∨ y = 92 then cqF r (m ++ [y]) else cqF r (m ++ [92, y]) := by
  rw [cqF, if_neg (by decide), if_pos rfl]
def CqP (o : Option (List Nat × List Nat)) (e : Ending) : Prop :=
  match o with
  | none => e = .returned (.tuple #[.string ByteArray.empty, .string ByteArray.empty, .bool false])
  | some (m, r) => ∃ A B, Sums.bl A = m ∧ Sums.bl B = r ∧ e = .returned (.tuple #[.string A, .string B, .bool true])
set_option maxRecDepth 100000 in
set_option maxHeartbeats 16000000 in
theorem cutQuoted_any (S : ByteArray) (w : World) (hS : S.size ≤ 140737488351232) : Calls Tryz.prog 117 #[.string S] w fun e w' => CqP (cqF (Sums.bl S) []) e ∧ Below w.heap.size w w' := by
  have HI := Hid.mk' (info_parts infoB)
  obtain ⟨i0, HI⟩ : ∃ i0, Hid ((Tryz.prog.info? 5) = some i0 ∧ i0.zero = some (.int .u8 0) ∧ i0.size = 1 ∧ i0.bytes = 1) := info_parts infoB
  obtain ⟨R, hR⟩ : ∃ R, cqF (Sums.bl S) [] = R := ⟨_, rfl⟩
  rw [hR]
  have hSI : (S.size : Int) ≤ 140737488351232 := by omega
  have HR := Hid.mk' hR
  clear hR
  go_enter Tryz.func117, Tryz.ntmps117
  go_wp2_with fail
  go_loopw [5, 6] (fun v iv wr => ∃ (i : Nat) (ml : List Nat), iv = .int .i64 (i : Int) ∧ i ≤ S.size ∧ ml.length ≤ i ∧ Hid (cqF ((Sums.bl S).drop i) ml = R) ∧ Hid (∀ z ∈ ml, z < 256) ∧ Hid (wr.ownsRow w.heap.size 5 1 v ml.length (byv ml)) ∧ Hid (Below w.heap.size w wr)) (fun _ iv _ => S.size - (intOf iv).toNat)
  case atStart => exact ⟨0, [], rfl, by omega, by simp, HR, Hid.mk' (fun z hz => by cases hz), Hid.mk' (by simp [byv]; exact World.ownsRow_nil _ _ _ _), Hid.mk' (Below.refl _ _)⟩
  case round =>
    rename World => wr
    obtain ⟨i, ml, rfl, hi, hml, HE, HZ, HO, HB⟩ := hrel
    clear HR
    have hBs : w.heap.size ≤ wr.heap.size := HB.out.size
    by_cases hlt : i < S.size
    · have hiI : (i : Int) < (S.size : Int) := by omega
      obtain ⟨x, t, hd⟩ : ∃ x t, (Sums.bl S).drop i = x :: t := by
        cases hd : (Sums.bl S).drop i with
        | nil => have := ob_nil S i (by omega) hd; omega
        | cons x t => exact ⟨x, t, rfl⟩
      have hidx := ob_idx S i x t hd
      obtain ⟨_, hx256, hd1⟩ := ob_facts S i x t hd
      have hE := HE.out
      rw [hd] at hE
      by_cases h34 : x = 34
      · subst h34
        have hidx2 : ∀ W, (Instr.index 9 (.string S) (.int .i64 (i : Int))).run Tryz.prog W = .ok (.int .u8 34) W := hidx
        clear hidx hx256
        rw [cq_quote] at hE
        subst hE
        have hcv := conv_own w.heap.size ml.length ml wr _ rfl HO.out
        have hcv2 := conv_own w.heap.size ml.length ml wr.drew _ rfl HO.out
        have hsl := sl_on S (i + 1) wr.drew (by omega)
        have hsl2 := sl_on S (i + 1) wr (by omega)
        have hc1 : ((i + 1 : Nat) : Int) = (i : Int) + 1 := by omega
        rw [hc1] at hsl hsl2
        have HN := Hid.mk' (bl_nums ml HZ.out)
        have HD := Hid.mk' ((Sums.bl_drop S (i + 1)).trans hd1)
        obtain ⟨A, hA⟩ : ∃ A, nums ml = A := ⟨_, rfl⟩
        rw [hA] at hcv hcv2 HN
        clear hd hd1 HE hA
        go_wp2_with fail
        go_region
        go_wp2_with fail
        refine ⟨rfl, _, ?_, ⟨A, S.extract (i + 1) S.size, HN.out, HD.out, rfl⟩, HB.out.drewN' 1⟩
        simp [results, Tryz.f117, go_sem]
      · by_cases h92 : x = 92
        · subst h92
          cases t with
          | nil =>
            have hidx2 : ∀ W, (Instr.index 9 (.string S) (.int .i64 (i : Int))).run Tryz.prog W = .ok (.int .u8 92) W := hidx
            have hnx : i + 1 = S.size := ob_nil S (i + 1) (by omega) hd1
            have d1 : decide ((i : Int) + 1 < (S.size : Int)) = false := decide_eq_false (by omega)
            have d2 : decide (i + 1 < S.size) = false := decide_eq_false (by omega)
            have HE2 : Hid (cqF ((Sums.bl S).drop (i + 1)) (ml ++ [92]) = R) := Hid.mk' (by rw [hd1, ← cq_last 92 ml (by decide)]; exact hE)
            have HZ2 : Hid (∀ z ∈ ml ++ [92], z < 256) := Hid.mk' (fun z hz => by
              rcases List.mem_append.1 hz with h | h
              · exact HZ.out z h
              · simp at h; omega)
            clear hE hd hd1 h34 hidx
            go_wp2_with (first | (at_builtin; refine wpList_append_own _ rfl _ _ 101 rfl w.heap.size 5 i0 (.int .u8 0) 1 1 Tryz.underlying101 HI.out.1 HI.out.2.1 HI.out.2.2.1 HI.out.2.2.2 rfl (by decide) _ _ _ rfl (HO.out.alloc _) ⟨wr.heap.size, 0, none⟩ 1 1 [.int .u8 (92 : Int)] rfl rfl ?c1 ?c2 ?c3 ?c4 ?c5 ?_) | fail)
            case c1 => exact cell_one_new _ _ _
            case c2 => intro u hu; simp at hu; subst hu; rfl
            case c3 => unfold maxLen; omega
            case c4 => omega
            case c5 => simp; omega
            · intro v' w2 hown' hgrow _
              have HB2 : Hid (Below w.heap.size w w2) := Hid.mk' (own_rel hBs HO.out HB.out hgrow)
              have HO2 : Hid (w2.ownsRow w.heap.size 5 1 v' (ml ++ [92]).length (byv (ml ++ [92]))) := Hid.mk' (by rw [byv_append, List.length_append]; exact hown')
              clear hown' hgrow HO HB HE HZ hBs
              go_wp2_with fail
              go_roundw
              case rel => exact ⟨i + 1, ml ++ [92], by go_num, by omega, by simp; omega, HE2, HZ2, HO2, HB2⟩
              case measure => simp [intOf]; omega
          | cons y r =>
            have hidx2 : ∀ W, (Instr.index 9 (.string S) (.int .i64 (i : Int))).run Tryz.prog W = .ok (.int .u8 92) W := hidx
            obtain ⟨hi2, hy256, hd2⟩ := ob_facts S (i + 1) y r hd1
            have hidx3 := ob_idx S (i + 1) y r hd1
            have hc1 : ((i + 1 : Nat) : Int) = (i : Int) + 1 := by omega
            rw [hc1] at hidx3
            have hi2I : (i : Int) + 1 < (S.size : Int) := by omega
            have d1 : decide ((i : Int) + 1 < (S.size : Int)) = true := decide_eq_true (by omega)
            have d2 : decide (i + 1 < S.size) = true := decide_eq_true (by omega)
            rw [cq_pair, ← hd2] at hE
            by_cases hy : y = 34 ∨ y = 92
            · rw [if_pos hy] at hE
              have HE2 := Hid.mk' hE
              have HZ2 : Hid (∀ z ∈ ml ++ [y], z < 256) := Hid.mk' (fun z hz => by
                rcases List.mem_append.1 hz with h | h
                · exact HZ.out z h
                · simp at h; omega)
              clear hE hd hd1 hd2 h34 hidx hc1
              rcases hy with hy | hy
              · subst hy
                have hidx4 : ∀ W, (Instr.index 9 (.string S) (.int .i64 ((i : Int) + 1))).run Tryz.prog W = .ok (.int .u8 34) W := hidx3
                clear hidx3
                go_wp2_with (first | (at_builtin; refine wpList_append_own _ rfl _ _ 101 rfl w.heap.size 5 i0 (.int .u8 0) 1 1 Tryz.underlying101 HI.out.1 HI.out.2.1 HI.out.2.2.1 HI.out.2.2.2 rfl (by decide) _ _ _ rfl (HO.out.alloc _) ⟨wr.heap.size, 0, none⟩ 1 1 [.int .u8 (34 : Int)] rfl rfl ?c1 ?c2 ?c3 ?c4 ?c5 ?_) | fail)
                case c1 => exact cell_one_new _ _ _
                case c2 => intro u hu; simp at hu; subst hu; rfl
                case c3 => unfold maxLen; omega
                case c4 => omega
                case c5 => simp; omega
                · intro v' w2 hown' hgrow _
                  have HB2 : Hid (Below w.heap.size w w2) := Hid.mk' (own_rel hBs HO.out HB.out hgrow)
                  have HO2 : Hid (w2.ownsRow w.heap.size 5 1 v' (ml ++ [34]).length (byv (ml ++ [34]))) := Hid.mk' (by rw [byv_append, List.length_append]; exact hown')
                  clear hown' hgrow HO HB HE HZ hBs
                  go_wp2_with fail
                  go_roundw
                  case rel => exact ⟨i + 1 + 1, ml ++ [34], by go_num, by omega, by simp; omega, HE2, HZ2, HO2, HB2⟩
                  case measure => simp [intOf]; omega
              · subst hy
                have hidx4 : ∀ W, (Instr.index 9 (.string S) (.int .i64 ((i : Int) + 1))).run Tryz.prog W = .ok (.int .u8 92) W := hidx3
                clear hidx3
                go_wp2_with (first | (at_builtin; refine wpList_append_own _ rfl _ _ 101 rfl w.heap.size 5 i0 (.int .u8 0) 1 1 Tryz.underlying101 HI.out.1 HI.out.2.1 HI.out.2.2.1 HI.out.2.2.2 rfl (by decide) _ _ _ rfl (HO.out.alloc _) ⟨wr.heap.size, 0, none⟩ 1 1 [.int .u8 (92 : Int)] rfl rfl ?c1 ?c2 ?c3 ?c4 ?c5 ?_) | fail)
                case c1 => exact cell_one_new _ _ _
                case c2 => intro u hu; simp at hu; subst hu; rfl
                case c3 => unfold maxLen; omega
                case c4 => omega
                case c5 => simp; omega
                · intro v' w2 hown' hgrow _
                  have HB2 : Hid (Below w.heap.size w w2) := Hid.mk' (own_rel hBs HO.out HB.out hgrow)
                  have HO2 : Hid (w2.ownsRow w.heap.size 5 1 v' (ml ++ [92]).length (byv (ml ++ [92]))) := Hid.mk' (by rw [byv_append, List.length_append]; exact hown')
                  clear hown' hgrow HO HB HE HZ hBs
                  go_wp2_with fail
                  go_roundw
                  case rel => exact ⟨i + 1 + 1, ml ++ [92], by go_num, by omega, by simp; omega, HE2, HZ2, HO2, HB2⟩
                  case measure => simp [intOf]; omega
            · rw [if_neg hy] at hE
              have HE2 := Hid.mk' hE
              have HZ2 : Hid (∀ z ∈ ml ++ [92, y], z < 256) := Hid.mk' (fun z hz => by
                rcases List.mem_append.1 hz with h | h
                · exact HZ.out z h
                · simp at h; omega)
              have e1 : ((y : Int) != 34) = true := by simp; omega
              have e2 : ((y : Int) != 92) = true := by simp; omega
              have e3 : (y != 34) = true := by simp; omega
              have e4 : (y != 92) = true := by simp; omega
              clear hE hd hd1 hd2 h34 hidx hc1 hy
              go_wp2_with (first | (at_builtin; refine wpList_append_own _ rfl _ _ 101 rfl w.heap.size 5 i0 (.int .u8 0) 1 1 Tryz.underlying101 HI.out.1 HI.out.2.1 HI.out.2.2.1 HI.out.2.2.2 rfl (by decide) _ _ _ rfl (HO.out.alloc _) ⟨wr.heap.size, 0, none⟩ 1 1 [.int .u8 (92 : Int)] rfl rfl ?c1 ?c2 ?c3 ?c4 ?c5 ?_) | fail)
              case c1 => exact cell_one_new _ _ _
              case c2 => intro u hu; simp at hu; subst hu; rfl
              case c3 => unfold maxLen; omega
              case c4 => omega
              case c5 => simp; omega
              · intro v' w2 hown' hgrow _
                have HB2 : Hid (Below w.heap.size w w2) := Hid.mk' (own_rel hBs HO.out HB.out hgrow)
                have hBs2 : w.heap.size ≤ w2.heap.size := HB2.out.size
                have HO2 := Hid.mk' hown'
                clear hown' hgrow HO HB HE HZ hBs
                go_wp2_with (first | (at_builtin; refine wpList_append_own _ rfl _ _ 101 rfl w.heap.size 5 i0 (.int .u8 0) 1 1 Tryz.underlying101 HI.out.1 HI.out.2.1 HI.out.2.2.1 HI.out.2.2.2 rfl (by decide) _ _ _ rfl (HO2.out.alloc _) ⟨w2.heap.size, 0, none⟩ 1 1 [.int .u8 (y : Int)] rfl rfl ?c1 ?c2 ?c3 ?c4 ?c5 ?_) | fail)
                case c1 => exact cell_one_new _ _ _
                case c2 => intro u hu; simp at hu; subst hu; rfl
                case c3 => unfold maxLen; omega
                case c4 => omega
                case c5 => simp; omega
                · intro v3 w3 hown3 hgrow _
                  have HB3 : Hid (Below w.heap.size w w3) := Hid.mk' (own_rel hBs2 HO2.out HB2.out hgrow)
                  have HO3 : Hid (w3.ownsRow w.heap.size 5 1 v3 (ml ++ [92, y]).length (byv (ml ++ [92, y]))) := Hid.mk' (by
                    have e : byv (ml ++ [92, y]) = byv ml ++ [.int .u8 92, .int .u8 (y : Int)] := byv_append ml [92, y]
                    have e2 : (ml ++ [92, y]).length = ml.length + 1 + 1 := by simp
                    rw [e, e2]
                    exact hown3)
                  clear hown3 hgrow HO2 HB2 hBs2
                  go_wp2_with fail
                  go_roundw
                  case rel => exact ⟨i + 1 + 1, ml ++ [92, y], by go_num, by omega, by simp; omega, HE2, HZ2, HO3, HB3⟩
                  case measure => simp [intOf]; omega
        · rw [cq_plain x t ml h34 h92, ← hd1] at hE
          have HE2 := Hid.mk' hE
          have HZ2 : Hid (∀ z ∈ ml ++ [x], z < 256) := Hid.mk' (fun z hz => by
            rcases List.mem_append.1 hz with h | h
            · exact HZ.out z h
            · simp at h; omega)
          have e1 : ((x : Int) == 34) = false := beq_eq_false_iff_ne.2 (by omega)
          have e2 : ((x : Int) == 92) = false := beq_eq_false_iff_ne.2 (by omega)
          have e3 : (x == 34) = false := beq_eq_false_iff_ne.2 h34
          have e4 : (x == 92) = false := beq_eq_false_iff_ne.2 h92
          clear hE hd hd1
          go_wp2_with (first | (at_builtin; refine wpList_append_own _ rfl _ _ 101 rfl w.heap.size 5 i0 (.int .u8 0) 1 1 Tryz.underlying101 HI.out.1 HI.out.2.1 HI.out.2.2.1 HI.out.2.2.2 rfl (by decide) _ _ _ rfl (HO.out.alloc _) ⟨wr.heap.size, 0, none⟩ 1 1 [.int .u8 (x : Int)] rfl rfl ?c1 ?c2 ?c3 ?c4 ?c5 ?_) | fail)
          case c1 => exact cell_one_new _ _ _
          case c2 => intro u hu; simp at hu; subst hu; rfl
          case c3 => unfold maxLen; omega
          case c4 => omega
          case c5 => simp; omega
          · intro v' w2 hown' hgrow _
            have HB2 : Hid (Below w.heap.size w w2) := Hid.mk' (own_rel hBs HO.out HB.out hgrow)
            have HO2 : Hid (w2.ownsRow w.heap.size 5 1 v' (ml ++ [x]).length (byv (ml ++ [x]))) := Hid.mk' (by rw [byv_append, List.length_append]; exact hown')
            clear hown' hgrow HO HB HE HZ hBs
            go_wp2_with fail
            go_roundw
            case rel => exact ⟨i + 1, ml ++ [x], by go_num, by omega, by simp; omega, HE2, HZ2, HO2, HB2⟩
            case measure => simp [intOf]; omega
    · obtain rfl : i = S.size := by omega
      have hE := HE.out
      rw [List.drop_eq_nil_of_le (by rw [Sums.bl_length]; omega), cqF] at hE
      subst hE
      have hlt' : ¬ (S.size : Int) < (S.size : Int) := by omega
      clear HE HO HZ
      go_wp2_with fail
      refine ⟨rfl, _, ?_, (rfl : CqP none (.returned (.tuple #[.string ByteArray.empty, .string ByteArray.empty, .bool false]))), HB.out⟩
      simp [results, Tryz.f117, go_sem]
      rfl
end Go.Proofs.YtkplbggefiemdaaGreatDoor

namespace Go.Proofs.YtkplbggefiemdaaGreatDoor
open Go.RowKit
set_option linter.unusedVariables false
set_option linter.unusedSimpArgs false
def bareF (l : List Nat) : List Nat × List Nat := (l.take (rwS vlB l), l.drop (rwS vlB l))
/-- a Value, and what is behind it -/
def cvF (l : List Nat) : List Nat × List Nat := if hasO 34 l = true then (match cqF (l.drop 1) [] with | some r => r | none => bareF l) else bareF l
theorem cutMark (S : ByteArray) (w : World) : Calls Tryz.prog 42 #[.string S, .string ⟨#[34]⟩] w fun e w' => (∃ A : ByteArray, Sums.bl A = (if hasO 34 (Sums.bl S) = true then (Sums.bl S).drop 1 else Sums.bl S) ∧ e = .returned (.tuple #[.string A, .bool (hasO 34 (Sums.bl S))])) ∧ w' = w := by
  refine Calls.mono (Any.strings_CutPrefix YtkplbggefiemdaaGreatDoor.lays103 S ⟨#[34]⟩ w) ?_
  rintro e w' ⟨rfl, hw⟩
  have hp : Lib.hasPrefix S.data.toList [34] = hasO 34 (Sums.bl S) := by
    unfold Sums.bl Lib.hasPrefix
    cases S.data.toList with
    | nil => rfl
    | cons b r =>
      simp only [List.map_cons, hasO, List.isPrefixOf, Bool.and_true]
      rw [Bool.eq_iff_iff]
      simp only [beq_iff_eq]
      constructor
      · rintro rfl; rfl
      · intro e
        exact (UInt8.toNat_inj.1 (by rw [e]; rfl))
  refine ⟨⟨⟨(Lib.trimPrefix S.data.toList [34]).toArray⟩, ?_, ?_⟩, hw⟩
  · unfold Lib.trimPrefix
    rw [hp]
    unfold Sums.bl
    split
    · simp
    · simp
  · rw [← hp]
set_option maxRecDepth 100000 in
set_option maxHeartbeats 16000000 in
theorem cutValue_any (S : ByteArray) (w : World) (hS : S.size ≤ 140737488351232) : Calls Tryz.prog 84 #[.string S] w fun e w' => (∃ A B, Sums.bl A = (cvF (Sums.bl S)).1 ∧ Sums.bl B = (cvF (Sums.bl S)).2 ∧ e = .returned (.tuple #[.string A, .string B])) ∧ Below w.heap.size w w' := by
  have hS2 : S.size ≤ 281474976710656 := by omega
  have hSI : (S.size : Int) ≤ 140737488351232 := by omega
  have HM := Hid.mk' (cutMark S w)
  obtain ⟨b, hb⟩ : ∃ b, hasO 34 (Sums.bl S) = b := ⟨_, rfl⟩
  rw [hb] at HM
  obtain ⟨RR, hRR⟩ : ∃ RR, cvF (Sums.bl S) = RR := ⟨_, rfl⟩
  rw [hRR]
  unfold cvF at hRR
  rw [hb] at hRR
  clear hb
  go_enter Tryz.func84, Tryz.ntmps84
  go_wp2_with fail
  refine HM.out.mono ?_
  rintro e w1 ⟨⟨A, hA, rfl⟩, hw⟩
  have hw2 := hw.symm
  subst hw2
  clear hw HM
  cases b
  · have HE : Hid (RR = bareF (Sums.bl S)) := Hid.mk' (by rw [← hRR]; rfl)
    unfold bareF at HE
    have HB : Hid (Below w.heap.size w w) := Hid.mk' (Below.refl _ _)
    clear hRR hA
    go_wp2_with fail
    refine (isValueByte_new w).mono ?_
    rintro e w5 ⟨rfl, hn, hb⟩
    have HB5 : Hid (Below w.heap.size w w5) := Hid.mk' (HB.out.trans ⟨hb.os, hb.tape, hb.output, hb.size, fun j hj => hb.block j (by have := HB.out.size; omega)⟩)
    have HC := Hid.mk' (rowSize_value S _ w5 hS2 hn)
    clear hb hn HB
    go_wp2_with fail
    refine Calls.mono HC.out ?_
    rintro e w6 ⟨rfl, n6, hw⟩
    have HB6 : Hid (Below w.heap.size w w6) := Hid.mk' (by rw [hw]; exact HB5.out.drewN' n6)
    clear hw HC HB5
    obtain ⟨r, hr⟩ : ∃ r, rwS vlB (Sums.bl S) = r := ⟨_, rfl⟩
    have hrs : r ≤ S.size := by have := rwS_le vlB (Sums.bl S); rw [Sums.bl_length, hr] at this; exact this
    rw [hr] at HE ⊢
    have hrI : (r : Int) ≤ (S.size : Int) := by omega
    have s1 := fun W => sl_to S r W hrs
    have s2 := fun W => sl_on S r W hrs
    have HT := Hid.mk' (Sums.bl_take S r)
    have HD := Hid.mk' (Sums.bl_drop S r)
    generalize S.extract 0 r = A1 at s1 HT
    generalize S.extract r S.size = B1 at s2 HD
    clear hr
    go_wp2_with fail
    go_region
    go_wp2_with fail
    refine ⟨rfl, _, ?_, ⟨A1, B1, by rw [HE.out]; exact HT.out, by rw [HE.out]; exact HD.out, rfl⟩, HB6.out.drewN' 1⟩
    simp [results, Tryz.f84, go_sem]
  · have hA2 : Sums.bl A = (Sums.bl S).drop 1 := hA
    have hAs : A.size ≤ 140737488351232 := by have h := Sums.bl_length A; rw [hA2, List.length_drop, Sums.bl_length] at h; omega
    have HQ := Hid.mk' (fun X => cutQuoted_any A X hAs)
    rw [hA2] at HQ
    have hRR2 : (match cqF ((Sums.bl S).drop 1) [] with | some r => r | none => bareF (Sums.bl S)) = RR := hRR
    clear hRR hA hA2 hAs
    go_wp2_with fail
    refine (HQ.out _).mono ?_
    rintro e w2 ⟨hq, hb⟩
    have HB := Hid.mk' hb
    clear hb HQ
    cases hc : cqF ((Sums.bl S).drop 1) [] with
    | none =>
      rw [hc] at hq hRR2
      unfold CqP at hq
      have hq2 : e = .returned (.tuple #[.string ByteArray.empty, .string ByteArray.empty, .bool false]) := hq
      subst hq2
      have HE : Hid (RR = bareF (Sums.bl S)) := Hid.mk' hRR2.symm
      unfold bareF at HE
      clear hRR2 hc hq
      go_wp2_with fail
      refine (isValueByte_new w2).mono ?_
      rintro e w5 ⟨rfl, hn, hb⟩
      have HB5 : Hid (Below w.heap.size w w5) := Hid.mk' (HB.out.trans ⟨hb.os, hb.tape, hb.output, hb.size, fun j hj => hb.block j (by have := HB.out.size; omega)⟩)
      have HC := Hid.mk' (rowSize_value S _ w5 hS2 hn)
      clear hb hn HB
      go_wp2_with fail
      refine Calls.mono HC.out ?_
      rintro e w6 ⟨rfl, n6, hw⟩
      have HB6 : Hid (Below w.heap.size w w6) := Hid.mk' (by rw [hw]; exact HB5.out.drewN' n6)
      clear hw HC HB5
      obtain ⟨r, hr⟩ : ∃ r, rwS vlB (Sums.bl S) = r := ⟨_, rfl⟩
      have hrs : r ≤ S.size := by have := rwS_le vlB (Sums.bl S); rw [Sums.bl_length, hr] at this; exact this
      rw [hr] at HE ⊢
      have hrI : (r : Int) ≤ (S.size : Int) := by omega
      have s1 := fun W => sl_to S r W hrs
      have s2 := fun W => sl_on S r W hrs
      have HT := Hid.mk' (Sums.bl_take S r)
      have HD := Hid.mk' (Sums.bl_drop S r)
      generalize S.extract 0 r = A1 at s1 HT
      generalize S.extract r S.size = B1 at s2 HD
      clear hr
      go_wp2_with fail
      go_region
      go_wp2_with fail
      refine ⟨rfl, _, ?_, ⟨A1, B1, by rw [HE.out]; exact HT.out, by rw [HE.out]; exact HD.out, rfl⟩, HB6.out.drewN' 1⟩
      simp [results, Tryz.f84, go_sem]
    | some mr =>
      obtain ⟨m, r⟩ := mr
      rw [hc] at hq hRR2
      obtain ⟨A2, B2, h1, h2, rfl⟩ : ∃ A B, Sums.bl A = m ∧ Sums.bl B = r ∧ e = .returned (.tuple #[.string A, .string B, .bool true]) := hq
      have HE : Hid (RR = (m, r)) := Hid.mk' hRR2.symm
      have H1 := Hid.mk' h1
      have H2 := Hid.mk' h2
      clear hRR2 hc h1 h2
      go_wp2_with fail
      refine ⟨rfl, _, ?_, ⟨A2, B2, by rw [HE.out]; exact H1.out, by rw [HE.out]; exact H2.out, rfl⟩, HB.out⟩
      simp [results, Tryz.f84, go_sem]
end Go.Proofs.YtkplbggefiemdaaGreatDoor
