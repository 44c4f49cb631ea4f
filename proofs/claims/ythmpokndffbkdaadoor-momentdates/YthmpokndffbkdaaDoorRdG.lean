/-
  Show of what is no stamp, of both sides; what Of, Date, Weekday, Show and Bucket answer on both sides is the same. Conditions: ints.
-/
import Derived.Test.YthmpokndffbkdaaDoorRdF
import Derived.Test.YthmpokndffbkdaaDoorBk12
namespace Go.Proofs.YthmpokndffbkdaaDoor
open Go.RowKit
set_option linter.unusedVariables false
theorem _root_.Mo.day_is : ∀ N, N ≤ 2932896 → ∃ y m d, Mo.IsDay N y m d
  | 0, _ => ⟨1970, 1, 1, by decide, by decide, by decide, by decide, by decide, by decide, by decide⟩
  | N + 1, h => by
    obtain ⟨y, m, d, A⟩ := Mo.day_is N (by omega)
    exact ⟨_, _, _, A.next (by omega)⟩
set_option maxRecDepth 100000 in
set_option maxHeartbeats 2000000 in
theorem show_bad (n : Int) (w : World) (hn : ¬ (0 ≤ n ∧ n ≤ 253402300799999)) :
    Calls Tryd.prog 15 #[.int .i64 n] w fun e w' => e = .returned (.tuple #[.string ByteArray.empty, .int .i64 171]) ∧ Below w.heap.size w w' := by
  have S := Hid.mk' (fun w => date_bad n w hn)
  clear hn
  unfold dateV at S
  go_enter Tryd.func15, Tryd.ntmps15
  go_wp2_with fail
  refine (S.out _).mono ?_
  rintro e w1 ⟨rfl, hb⟩
  have B := Hid.mk' (hb.trans (((Below.refl _ w1).alloc (Nat.le_refl _) (.cells #[.int .i64 0, .int .i64 0, .int .i64 0, .int .i64 0, .int .i64 0, .int .i64 0, .int .i64 0] 23)).mono hb.size))
  clear hb S
  go_wp2_with fail
  go_ret2
  exact ⟨rfl, B.out⟩
set_option maxRecDepth 100000 in
set_option maxHeartbeats 2000000 in
theorem rShow_bad (n : Int) (w : World) (hn : ¬ (0 ≤ n ∧ n ≤ 253402300799999)) :
    Calls Tryd.prog 16 #[.int .i64 n] w fun e w' => e = .returned (.tuple #[.string ByteArray.empty, .int .i64 171]) ∧ Below w.heap.size w w' := by
  have S := Hid.mk' (fun w => rDate_bad n w hn)
  clear hn
  unfold dateV at S
  go_enter Tryd.func16, Tryd.ntmps16
  go_wp2_with fail
  refine (S.out _).mono ?_
  rintro e w1 ⟨rfl, hb⟩
  have B := Hid.mk' (hb.trans (((Below.refl _ w1).alloc (Nat.le_refl _) (.cells #[.int .i64 0, .int .i64 0, .int .i64 0, .int .i64 0, .int .i64 0, .int .i64 0, .int .i64 0] 23)).mono hb.size))
  clear hb S
  go_wp2_with fail
  go_ret2
  exact ⟨rfl, B.out⟩
theorem of_two (y m d h mi s ms : Int) : ∃ a c : Int, (∀ w, Calls Tryd.prog 9 #[dateV y m d h mi s ms] w fun e w' => e = .returned (.tuple #[.int .i64 a, .int .i64 c]) ∧ Below w.heap.size w w') ∧ (∀ w, Calls Tryd.prog 10 #[dateV y m d h mi s ms] w fun e w' => e = .returned (.tuple #[.int .i64 a, .int .i64 c]) ∧ Below w.heap.size w w') := by
  cases q : Mo.dayOK y m d && Mo.timeOK h mi s ms
  · exact ⟨0, 120, fun w => of_bad _ _ _ _ _ _ _ w q, fun w => rOf_bad _ _ _ _ _ _ _ w q⟩
  · obtain ⟨y', m', d', h', i', s', k', rfl, rfl, rfl, rfl, rfl, rfl, rfl⟩ := ok_nats q
    have hok : Mo.ok y' m' d' h' i' s' k' = true := q
    obtain ⟨⟨f1, f2, f3, f4, f5, f6⟩, f7, f8, f9, f10⟩ := Mo.ok_facts hok
    exact ⟨_, 0, fun w => of_any y' m' d' h' i' s' k' w f1 f2 f3 f4 f5 f6 f7 f8 f9 f10, fun w => rOf_any y' m' d' h' i' s' k' w hok⟩
theorem date_two (n : Int) : ∃ a0 a1 a2 a3 a4 a5 a6 c : Int, (∀ w, Calls Tryd.prog 11 #[.int .i64 n] w fun e w' => e = .returned (.tuple #[dateV a0 a1 a2 a3 a4 a5 a6, .int .i64 c]) ∧ Below w.heap.size w w') ∧ (∀ w, Calls Tryd.prog 12 #[.int .i64 n] w fun e w' => e = .returned (.tuple #[dateV a0 a1 a2 a3 a4 a5 a6, .int .i64 c]) ∧ Below w.heap.size w w') := by
  by_cases h : 0 ≤ n ∧ n ≤ 253402300799999
  · obtain ⟨n, rfl⟩ := Int.eq_ofNat_of_zero_le h.1
    have hn : n ≤ 253402300799999 := by omega
    obtain ⟨y, m, d, A⟩ := Mo.day_is (n / 86400000) (by omega)
    refine ⟨(y : Int), (m : Int), (d : Int), ((n % 86400000 / 3600000 : Nat) : Int), ((n % 86400000 % 3600000 / 60000 : Nat) : Int), ((n % 86400000 % 60000 / 1000 : Nat) : Int), ((n % 86400000 % 1000 : Nat) : Int), 0, fun w => (date_any n w hn).mono ?_, fun w => (rDate_any n w hn).mono ?_⟩
    · rintro e w' ⟨⟨y', m', d', B, rfl⟩, hb⟩
      obtain ⟨rfl, rfl, rfl⟩ := A.same B
      exact ⟨rfl, hb⟩
    · rintro e w' ⟨⟨y', m', d', B, rfl⟩, hb⟩
      obtain ⟨rfl, rfl, rfl⟩ := A.same B
      exact ⟨rfl, hb⟩
  · exact ⟨0, 0, 0, 0, 0, 0, 0, 171, fun w => date_bad n w h, fun w => rDate_bad n w h⟩
theorem ShT.one {n : Nat} {s t : ByteArray} (h : ShT n s) (k : ShT n t) : s = t := by
  obtain ⟨y, m, d, A, e⟩ := h.ex
  obtain ⟨y', m', d', B, f⟩ := k.ex
  obtain ⟨rfl, rfl, rfl⟩ := A.same B
  exact Sums.bl_inj (e.trans f.symm)
theorem show_two (n : Int) : ∃ (t : ByteArray) (c : Int), (∀ w, Calls Tryd.prog 15 #[.int .i64 n] w fun e w' => e = .returned (.tuple #[.string t, .int .i64 c]) ∧ Below w.heap.size w w') ∧ (∀ w, Calls Tryd.prog 16 #[.int .i64 n] w fun e w' => e = .returned (.tuple #[.string t, .int .i64 c]) ∧ Below w.heap.size w w') := by
  by_cases h : 0 ≤ n ∧ n ≤ 253402300799999
  · obtain ⟨n, rfl⟩ := Int.eq_ofNat_of_zero_le h.1
    have hn : n ≤ 253402300799999 := by omega
    obtain ⟨y, m, d, A⟩ := Mo.day_is (n / 86400000) (by omega)
    have T : ShT n (nums (Mo.sh y m d (n % 86400000 / 3600000) (n % 86400000 % 3600000 / 60000) (n % 86400000 % 60000 / 1000) (n % 86400000 % 1000))) := ⟨y, m, d, A, bl_nums _ (sh_byt _ _ _ _ _ _ _)⟩
    refine ⟨nums (Mo.sh y m d (n % 86400000 / 3600000) (n % 86400000 % 3600000 / 60000) (n % 86400000 % 60000 / 1000) (n % 86400000 % 1000)), 0, fun w => (showT n w hn).mono ?_, fun w => (rShow_any n w hn).mono ?_⟩
    · rintro e w' ⟨⟨u, hu, rfl⟩, hb⟩
      rw [hu.one T]
      exact ⟨rfl, hb⟩
    · rintro e w' ⟨⟨u, hu, rfl⟩, hb⟩
      rw [hu.one T]
      exact ⟨rfl, hb⟩
  · exact ⟨_, 171, fun w => show_bad n w h, fun w => rShow_bad n w h⟩
theorem week_two (n : Int) : ∃ a c : Int, (∀ w, Calls Tryd.prog 13 #[.int .i64 n] w fun e w' => e = .returned (.tuple #[.int .i64 a, .int .i64 c]) ∧ w' = w) ∧ (∀ w, Calls Tryd.prog 14 #[.int .i64 n] w fun e w' => e = .returned (.tuple #[.int .i64 a, .int .i64 c]) ∧ w' = w) := by
  by_cases h : 0 ≤ n ∧ n ≤ 253402300799999
  · obtain ⟨n, rfl⟩ := Int.eq_ofNat_of_zero_le h.1
    have hn : n ≤ 253402300799999 := by omega
    exact ⟨_, 0, fun w => weekday_any n w hn, fun w => rWeekday_any n w hn⟩
  · exact ⟨0, 171, fun w => weekday_bad n w h, fun w => rWeekday_bad n w h⟩
theorem bucket_two (n k : Int) : ∃ a c : Int, (∀ w, Calls Tryd.prog 17 #[.int .i64 n, .int .i64 k] w fun e w' => e = .returned (.tuple #[.int .i64 a, .int .i64 c]) ∧ w' = w) ∧ (∀ w, Calls Tryd.prog 18 #[.int .i64 n, .int .i64 k] w fun e w' => e = .returned (.tuple #[.int .i64 a, .int .i64 c]) ∧ w' = w) := by
  obtain ⟨a, c, h⟩ : ∃ a c, bucketR n k = .returned (.tuple #[.int .i64 a, .int .i64 c]) := by
    unfold bucketR
    split
    · exact ⟨_, _, rfl⟩
    · split <;> exact ⟨_, _, rfl⟩
  have h1 := bucket_any n k
  have h2 := rBucket_any n k
  rw [h] at h1 h2
  exact ⟨a, c, h1, h2⟩
end Go.Proofs.YthmpokndffbkdaaDoor
