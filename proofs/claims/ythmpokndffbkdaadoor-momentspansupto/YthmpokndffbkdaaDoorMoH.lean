/-
  moment.Date. Conditions: ints.
-/
import Derived.Test.YthmpokndffbkdaaDoorMoG
namespace Go.Proofs.YthmpokndffbkdaaDoor
open Go.RowKit
set_option linter.unusedVariables false
def dD (y m d h mi s ms : Nat) : List Value := [.int .i64 (y : Int), .int .i64 (m : Int), .int .i64 (d : Int), .int .i64 (h : Int), .int .i64 (mi : Int), .int .i64 (s : Int), .int .i64 (ms : Int)]
theorem dD_size (y m d h mi s ms : Nat) : (dD y m d h mi s ms).toArray.size = 7 := rfl
theorem dD_old (y m d h mi s ms : Nat) : (#[.int .i64 0, .int .i64 0, .int .i64 0, .int .i64 0, .int .i64 0, .int .i64 0, .int .i64 0] : Array Value).size = (dD y m d h mi s ms).toArray.size := rfl
theorem dD_one (y m d h mi s ms : Nat) : (dD y m d h mi s ms).toArray.all (·.oneCell') = true := by simp [dD, Value.oneCell']
theorem bel_setRow {B g : Nat} {a b : World} (h : Below B a b) (hg : B ≤ g) (cs : Array Value) : Below B a (b.setRow g cs) := by
  refine h.trans ⟨rfl, rfl, rfl, by simp [World.setRow], fun k hk => ?_⟩
  simp only [World.setRow, Array.getElem?_modify]
  rw [if_neg (by omega)]
def zD : Array Value := #[.int .i64 0, .int .i64 0, .int .i64 0, .int .i64 0, .int .i64 0, .int .i64 0, .int .i64 0]
set_option maxRecDepth 100000 in
set_option maxHeartbeats 2000000 in
theorem date_any (n : Nat) (w : World) (hn : n ≤ 253402300799999) :
    Calls Tryd.prog 11 #[.int .i64 (n : Int)] w fun e w' => (∃ y m d, Mo.IsDay (n / 86400000) y m d ∧ e = .returned (.tuple #[dateV (y : Int) (m : Int) (d : Int) ((n % 86400000 / 3600000 : Nat) : Int) ((n % 86400000 % 3600000 / 60000 : Nat) : Int) ((n % 86400000 % 60000 / 1000 : Nat) : Int) ((n % 86400000 % 1000 : Nat) : Int), .int .i64 0])) ∧ Below w.heap.size w w' := by
  have S := Hid.mk' (stamp_is (n : Int) true (by simp; omega))
  obtain ⟨N, hN⟩ : ∃ N, n / 86400000 = N := ⟨_, rfl⟩
  obtain ⟨T, hT⟩ : ∃ T, n % 86400000 = T := ⟨_, rfl⟩
  have hNI : (n : Int) / 86400000 = (N : Int) := by omega
  have hTI : (n : Int) % 86400000 = (T : Int) := by omega
  have hNb : N ≤ 2932896 := by omega
  have hTb : T < 86400000 := by omega
  rw [hN, hT]
  obtain ⟨h, hh⟩ : ∃ h, T / 3600000 = h := ⟨_, rfl⟩
  obtain ⟨mi, hmi⟩ : ∃ h, T % 3600000 / 60000 = h := ⟨_, rfl⟩
  obtain ⟨s, hs⟩ : ∃ h, T % 60000 / 1000 = h := ⟨_, rfl⟩
  obtain ⟨ms, hms⟩ : ∃ h, T % 1000 = h := ⟨_, rfl⟩
  have hhI : (T : Int) / 3600000 = (h : Int) := by omega
  have hmiI : (T : Int) % 3600000 / 60000 = (mi : Int) := by omega
  have hsI : (T : Int) % 60000 / 1000 = (s : Int) := by omega
  have hmsI : (T : Int) % 1000 = (ms : Int) := by omega
  rw [hh, hmi, hs, hms]
  have HD := Hid.mk' (fun w => dayOf_any N w hNb)
  clear hN hT hh hmi hs hms
  go_enter Tryd.func11, Tryd.ntmps11
  go_wp2_with (first | (go_at_call 33; refine (S.out _).mono ?_; rintro e w' ⟨rfl, hw'⟩; have hw2 := hw'.symm; subst hw2) | fail)
  have Z0 := heap_alloc_new w (.cells #[.int .i64 0, .int .i64 0, .int .i64 0, .int .i64 0, .int .i64 0, .int .i64 0, .int .i64 0] 23)
  have B0 := (Below.refl w.heap.size w).alloc (Nat.le_refl _) (.cells #[.int .i64 0, .int .i64 0, .int .i64 0, .int .i64 0, .int .i64 0, .int .i64 0, .int .i64 0] 23)
  have S0 : w.heap.size < (w.alloc (.cells #[.int .i64 0, .int .i64 0, .int .i64 0, .int .i64 0, .int .i64 0, .int .i64 0, .int .i64 0] 23)).heap.size := by simp
  generalize (w.alloc _) = w0 at *
  refine (HD.out _).mono ?_
  rintro e w1 ⟨⟨y, m, d, hday, rfl⟩, hb1⟩
  have Z1 := Hid.mk' ((hb1.block _ S0).trans Z0)
  have B1 := Hid.mk' (B0.trans (hb1.mono (Nat.le_of_lt S0)))
  have S1 : w.heap.size < w1.heap.size := Nat.lt_of_lt_of_le S0 hb1.size
  have HDAY := Hid.mk' hday
  clear hb1 B0 S0 Z0 hday
  unfold dateV
  have Z2 : Hid (∀ o, (w1.alloc o).heap[w.heap.size]? = some (.cells #[.int .i64 0, .int .i64 0, .int .i64 0, .int .i64 0, .int .i64 0, .int .i64 0, .int .i64 0] 23 (0, 0))) := fun o => (Below.heap_alloc w1 o _ S1).trans Z1.out
  go_wp2_with (first | (refine wpList_store_row rfl 23 _ _ rfl w.heap.size (dD y m d h mi s ms).toArray rfl rfl 23 _ (Z2.out _) (sizeDate _ (dD_size _ _ _ _ _ _ _)) (dD_old _ _ _ _ _ _ _) (dD_one _ _ _ _ _ _ _) ?_) | fail)
  have hrow := setRow_heap _ w.heap.size _ (dD y m d h mi s ms).toArray 23 (0, 0) (Z2.out (.cells #[.int .i64 (y : Int), .int .i64 (m : Int), .int .i64 (d : Int), .int .i64 (h : Int), .int .i64 (mi : Int), .int .i64 (s : Int), .int .i64 (ms : Int)] 23))
  have hbel : Below w.heap.size w ((w1.alloc (.cells #[.int .i64 (y : Int), .int .i64 (m : Int), .int .i64 (d : Int), .int .i64 (h : Int), .int .i64 (mi : Int), .int .i64 (s : Int), .int .i64 (ms : Int)] 23)).setRow w.heap.size (dD y m d h mi s ms).toArray) := bel_setRow (B1.out.alloc (Nat.le_of_lt S1) _) (Nat.le_refl _) _
  generalize ((w1.alloc _).setRow _ _) = w2 at *
  have hld := run_loadVar_row (P := Tryd.prog) w2 w.heap.size _ 23 _ _ _ hrow Tryd.underlying23 rfl (sizeDate _ (dD_size _ _ _ _ _ _ _))
  refine bodyPost_ret (v := .tuple #[.agg (dD y m d h mi s ms).toArray, .int .i64 0]) ?_ rfl ⟨⟨y, m, d, HDAY.out, rfl⟩, hbel⟩
  simp [results, Tryd.f11, asAddr, hld]
set_option maxRecDepth 100000 in
set_option maxHeartbeats 2000000 in
theorem date_bad (n : Int) (w : World) (hn : ¬ (0 ≤ n ∧ n ≤ 253402300799999)) :
    Calls Tryd.prog 11 #[.int .i64 n] w fun e w' => e = .returned (.tuple #[dateV 0 0 0 0 0 0 0, .int .i64 171]) ∧ Below w.heap.size w w' := by
  have S := Hid.mk' (stamp_is n false (by simp; omega))
  have HB : Hid (∀ o, Below w.heap.size w (w.alloc o)) := fun o => (Below.refl w.heap.size w).alloc (Nat.le_refl _) o
  clear hn
  go_enter Tryd.func11, Tryd.ntmps11
  go_wp2_with (first | (go_at_call 33; refine (S.out _).mono ?_; rintro e w' ⟨rfl, hw'⟩; have hw2 := hw'.symm; subst hw2) | fail)
  have hrow := heap_alloc_new w (.cells #[.int .i64 0, .int .i64 0, .int .i64 0, .int .i64 0, .int .i64 0, .int .i64 0, .int .i64 0] 23)
  have hbel := HB.out (.cells #[.int .i64 0, .int .i64 0, .int .i64 0, .int .i64 0, .int .i64 0, .int .i64 0, .int .i64 0] 23)
  generalize (w.alloc _) = w2 at *
  have hld := run_loadVar_row (P := Tryd.prog) w2 w.heap.size _ 23 _ _ _ hrow Tryd.underlying23 rfl (sizeDate _ rfl)
  refine bodyPost_ret (v := .tuple #[.agg #[.int .i64 0, .int .i64 0, .int .i64 0, .int .i64 0, .int .i64 0, .int .i64 0, .int .i64 0], .int .i64 171]) ?_ rfl ⟨rfl, hbel⟩
  simp [results, Tryd.f11, asAddr, hld]
end Go.Proofs.YthmpokndffbkdaaDoor
