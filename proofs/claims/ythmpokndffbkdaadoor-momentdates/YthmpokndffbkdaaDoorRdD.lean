/-
  The document's Date. Conditions: ints.
-/
import Derived.Test.YthmpokndffbkdaaDoorRdC
namespace Go.Proofs.YthmpokndffbkdaaDoor
open Go.RowKit
set_option linter.unusedVariables false
set_option maxRecDepth 100000 in
set_option maxHeartbeats 4000000 in
theorem rDate_any (n : Nat) (w : World) (hn : n ≤ 253402300799999) :
    Calls Tryd.prog 12 #[.int .i64 (n : Int)] w fun e w' => (∃ y m d, Mo.IsDay (n / 86400000) y m d ∧ e = .returned (.tuple #[dateV (y : Int) (m : Int) (d : Int) ((n % 86400000 / 3600000 : Nat) : Int) ((n % 86400000 % 3600000 / 60000 : Nat) : Int) ((n % 86400000 % 60000 / 1000 : Nat) : Int) ((n % 86400000 % 1000 : Nat) : Int), .int .i64 0])) ∧ Below w.heap.size w w' := by
  have S := Hid.mk' (rStamp_is (n : Int) true (by simp; omega))
  obtain ⟨N, hN⟩ : ∃ N, n / 86400000 = N := ⟨_, rfl⟩
  obtain ⟨T, hT⟩ : ∃ T, n % 86400000 = T := ⟨_, rfl⟩
  have hNI : (n : Int) / 86400000 = (N : Int) := by omega
  have hTI : (n : Int) % 86400000 = (T : Int) := by omega
  obtain ⟨k, hk⟩ : ∃ k, N / 146097 = k := ⟨_, rfl⟩
  obtain ⟨r, hr⟩ : ∃ r, N % 146097 = r := ⟨_, rfl⟩
  have hkI : (N : Int) / 146097 = (k : Int) := by omega
  have hrI : (N : Int) % 146097 = (r : Int) := by omega
  have hNb : N ≤ 2932896 := by omega
  have hTb : T < 86400000 := by omega
  have hkb : k ≤ 20 := by omega
  have hkr : Hid (146097 * k + r = N) := by show _ = _; omega
  have HY := Hid.mk' (fun z w hz => rYear_any z w hz)
  have HL := Hid.mk' (fun y z w hy a b => rLong_any y z w hy a b)
  rw [hN, hT]
  have HB0 : Hid (∀ o, Below w.heap.size w (w.alloc o)) := fun o => (Below.refl w.heap.size w).alloc (Nat.le_refl _) o
  have hrb : r < 146097 := by omega
  clear hN hT hk hr hn
  go_enter Tryd.func12, Tryd.ntmps12
  go_wp2_with (first | (go_at_call 35; refine (S.out _).mono ?_; rintro e w' ⟨rfl, hw'⟩; have hw2 := hw'.symm; subst hw2; clear hw') | fail)
  have Z0 := Hid.mk' (heap_alloc_new w (.cells #[.int .i64 0, .int .i64 0, .int .i64 0, .int .i64 0, .int .i64 0, .int .i64 0, .int .i64 0] 23))
  have B0 := Hid.mk' ((Below.refl w.heap.size w).alloc (Nat.le_refl _) (.cells #[.int .i64 0, .int .i64 0, .int .i64 0, .int .i64 0, .int .i64 0, .int .i64 0, .int .i64 0] 23))
  have S0 : Hid (w.heap.size < (w.alloc (.cells #[.int .i64 0, .int .i64 0, .int .i64 0, .int .i64 0, .int .i64 0, .int .i64 0, .int .i64 0] 23)).heap.size) := by show _ < _; simp
  generalize (w.alloc _) = w0 at *
  simp only [hTI, hrI]
  clear hTI hrI hNI hkI S
  obtain ⟨h, hh⟩ : ∃ h, T / 3600000 = h := ⟨_, rfl⟩
  obtain ⟨mi, hmi⟩ : ∃ h, T % 3600000 / 60000 = h := ⟨_, rfl⟩
  obtain ⟨s, hs⟩ : ∃ h, T % 60000 / 1000 = h := ⟨_, rfl⟩
  obtain ⟨ms, hms⟩ : ∃ h, T % 1000 = h := ⟨_, rfl⟩
  have hhI : (T : Int) / 3600000 = (h : Int) := by omega
  have hmiI : (T : Int) / 60000 % 60 = (mi : Int) := by omega
  have hsI : (T : Int) / 1000 % 60 = (s : Int) := by omega
  have hmsI : (T : Int) % 1000 = (ms : Int) := by omega
  have HHH := Hid.mk' (And.intro hh (And.intro hmi (And.intro hs hms)))
  have HTI := Hid.mk' (And.intro hhI (And.intro hmiI (And.intro hsI hmsI)))
  clear hh hmi hs hms hhI hmiI hsI hmsI
  go_loopw [5, 7] (fun nv yv wr => ∃ z a : Nat, yv = .int .i64 ((z : Nat) : Int) ∧ nv = .int .i64 ((a : Nat) : Int) ∧ Hid (Mo.ys z + a = N) ∧ 1970 ≤ z ∧ z ≤ 9999 ∧ a ≤ 146097 ∧ wr = w0) (fun nv _ _ => (intOf nv).toNat)
  case atStart => exact ⟨1970 + 400 * k, r, int_eq (by omega), rfl, by show _ = _; rw [ys_cycle]; exact hkr.out, by omega, by omega, by omega, rfl⟩
  case round =>
    obtain ⟨z, a, rfl, rfl, ha, hz0, hz1, hab, rfl⟩ := hrel
    obtain ⟨b, hb⟩ : ∃ b, Mo.yl z = b := ⟨_, rfl⟩
    have hb1 : 365 ≤ b := by rw [← hb]; exact (Mo.yl_pos z).1
    have hb2 : b ≤ 366 := by rw [← hb]; exact (Mo.yl_pos z).2
    have HK := Hid.mk' (fun w => HY.out z w (by omega))
    rw [hb] at HK
    have HBZ := Hid.mk' hb
    clear hb
    by_cases hc : b ≤ a
    · have hcI : (b : Int) ≤ (a : Int) := by omega
      have hz2 : z + 1 ≤ 9999 := by
        have h1 := Mo.ys_succ hz0
        have h2 := ha.out
        have h3 := HBZ.out
        rcases Nat.lt_or_ge z 9999 with l | l
        · omega
        · have e : z = 9999 := by omega
          subst e
          have h4 := Mo.ys_last
          rw [h1, h3] at h4
          omega
      have HS : Hid (Mo.ys (z + 1) + (a - b) = N) := by
        show Mo.ys (z + 1) + (a - b) = N
        have h2 := ha.out
        rw [Mo.ys_succ hz0, HBZ.out]
        omega
      obtain ⟨q, hq⟩ : ∃ q, a - b = q := ⟨_, rfl⟩
      have hqI : (a : Int) - (b : Int) = (q : Int) := by omega
      rw [hq] at HS
      have HQ := Hid.mk' (And.intro hq (And.intro hb1 hc))
      have hqb : q ≤ 146097 := by omega
      clear hq hc
      go_wp2_with (go_at_call 31; refine (HK.out _).mono ?_; rintro e w' ⟨rfl, hw'⟩; have hw2 := hw'.symm; subst hw2; clear hw')
      go_roundw
      case rel => exact ⟨z + 1, q, by first | rfl | exact int_eq (by omega), by first | rfl | exact int_eq (by omega), HS, by omega, hz2, hqb, by first | rfl | trivial | assumption⟩
      case measure => have := HQ.out; simp [intOf]; omega
    · have hcI : ¬ (b : Int) ≤ (a : Int) := by omega
      have HC := Hid.mk' hc
      clear hc
      go_wp2_with (go_at_call 31; refine (HK.out _).mono ?_; rintro e w' ⟨rfl, hw'⟩; have hw2 := hw'.symm; subst hw2; clear hw')
      clear hcI
      simp only [show decide (b ≤ a) = false from decide_eq_false HC.out]
      go_loopw [5, 8] (fun nv mv wq => ∃ i x : Nat, mv = .int .i64 ((i : Nat) : Int) ∧ nv = .int .i64 ((x : Nat) : Int) ∧ Hid (Mo.ml z (i - 1) + x = a) ∧ 1 ≤ i ∧ i ≤ 12 ∧ x ≤ 366 ∧ wq = wr) (fun nv _ _ => (intOf nv).toNat)
      case atStart => exact ⟨1, a, rfl, rfl, by show _ = _; exact Nat.zero_add a, by decide, by decide, by have := HC.out; omega, rfl⟩
      case round =>
        obtain ⟨i, x, rfl, rfl, hx, hi0, hi1, hxb, rfl⟩ := hrel
        obtain ⟨c, hcm⟩ : ∃ c, Mo.md z i = c := ⟨_, rfl⟩
        have hc1 : 28 ≤ c := by rw [← hcm]; exact (Mo.md_pos z i).1
        have hc2 : c ≤ 31 := by rw [← hcm]; exact (Mo.md_pos z i).2
        have HM := Hid.mk' (fun w => HL.out z i w (by omega) hi0 hi1)
        rw [hcm] at HM
        have HCM := Hid.mk' hcm
        clear hcm
        have hml : Mo.ml z i = Mo.ml z (i - 1) + c := by
          have : i = i - 1 + 1 := by omega
          rw [this, Mo.ml, ← this, HCM.out]
        have HML := Hid.mk' hml
        clear hml
        by_cases hd : c ≤ x
        · have hdI : (c : Int) ≤ (x : Int) := by omega
          have hi2 : i + 1 ≤ 12 := by
            rcases Nat.lt_or_ge i 12 with l | l
            · omega
            · have e : i = 12 := by omega
              subst e
              have h1 := HML.out
              rw [Mo.ml_year, HBZ.out] at h1
              have h2 := HC.out
              have h3 := hx.out
              omega
          obtain ⟨q, hq⟩ : ∃ q, x - c = q := ⟨_, rfl⟩
          have hqI : (x : Int) - (c : Int) = (q : Int) := by omega
          have HS : Hid (Mo.ml z (i + 1 - 1) + q = a) := by
            show Mo.ml z (i + 1 - 1) + q = a
            have h3 := hx.out
            rw [show i + 1 - 1 = i by omega, HML.out]
            omega
          have HQ := Hid.mk' (And.intro hq (And.intro hc1 hd))
          have hqb : q ≤ 366 := by omega
          clear hq hd
          go_wp2_with (go_at_call 32; refine (HM.out _).mono ?_; rintro e w' ⟨rfl, hw'⟩; have hw2 := hw'.symm; subst hw2; clear hw')
          go_roundw
          case rel => exact ⟨i + 1, q, by first | rfl | exact int_eq (by omega), by first | rfl | exact int_eq (by omega), HS, by omega, hi2, hqb, by first | rfl | trivial | assumption⟩
          case measure => have := HQ.out; simp [intOf]; omega
        · have hdI : ¬ (c : Int) ≤ (x : Int) := by omega
          have hday : Mo.IsDay N z i (x + 1) := ⟨hz0, hz1, hi0, hi1, by omega, by rw [HCM.out]; omega, by have h1 := ha.out; have h2 := hx.out; omega⟩
          have HDAY := Hid.mk' hday
          obtain ⟨g, hg⟩ : ∃ g, x + 1 = g := ⟨_, rfl⟩
          have hgI : (x : Int) + 1 = (g : Int) := by omega
          rw [hg] at HDAY
          clear hday hd hg
          obtain ⟨t1, t2, t3, t4⟩ := HTI.out
          go_wp2_with (first | (go_at_call 32; refine (HM.out _).mono ?_; rintro e w' ⟨rfl, hw'⟩; have hw2 := hw'.symm; subst hw2; clear hw') | (refine wpList_store_row rfl 23 _ _ rfl w.heap.size (dD z i g h mi s ms).toArray rfl rfl 23 _ Z0.out (sizeDate _ (dD_size _ _ _ _ _ _ _)) (dD_old _ _ _ _ _ _ _) (dD_one _ _ _ _ _ _ _) ?_) | fail)
          have hrow := setRow_heap _ w.heap.size _ (dD z i g h mi s ms).toArray 23 (0, 0) Z0.out
          have hbel : Below w.heap.size w (wr.setRow w.heap.size (dD z i g h mi s ms).toArray) := bel_setRow B0.out (Nat.le_refl _) _
          generalize (wr.setRow _ _) = w2 at *
          have hld := run_loadVar_row (P := Tryd.prog) w2 w.heap.size _ 23 _ _ _ hrow Tryd.underlying23 rfl (sizeDate _ (dD_size _ _ _ _ _ _ _))
          refine bodyPost_ret (v := .tuple #[.agg (dD z i g h mi s ms).toArray, .int .i64 0]) ?_ rfl ⟨⟨z, i, g, HDAY.out, ?_⟩, hbel⟩
          · simp [results, Tryd.f12, asAddr, hld]
          · obtain ⟨e1, e2, e3, e4⟩ := HHH.out
            rw [e1, e2, e3, e4]
            rfl
set_option maxRecDepth 100000 in
set_option maxHeartbeats 2000000 in
theorem rDate_bad (n : Int) (w : World) (hn : ¬ (0 ≤ n ∧ n ≤ 253402300799999)) :
    Calls Tryd.prog 12 #[.int .i64 n] w fun e w' => e = .returned (.tuple #[dateV 0 0 0 0 0 0 0, .int .i64 171]) ∧ Below w.heap.size w w' := by
  have S := Hid.mk' (rStamp_is n false (by simp; omega))
  have HB : Hid (∀ o, Below w.heap.size w (w.alloc o)) := fun o => (Below.refl w.heap.size w).alloc (Nat.le_refl _) o
  clear hn
  go_enter Tryd.func12, Tryd.ntmps12
  go_wp2_with (first | (go_at_call 35; refine (S.out _).mono ?_; rintro e w' ⟨rfl, hw'⟩; have hw2 := hw'.symm; subst hw2) | fail)
  have hrow := heap_alloc_new w (.cells #[.int .i64 0, .int .i64 0, .int .i64 0, .int .i64 0, .int .i64 0, .int .i64 0, .int .i64 0] 23)
  have hbel := HB.out (.cells #[.int .i64 0, .int .i64 0, .int .i64 0, .int .i64 0, .int .i64 0, .int .i64 0, .int .i64 0] 23)
  generalize (w.alloc _) = w2 at *
  have hld := run_loadVar_row (P := Tryd.prog) w2 w.heap.size _ 23 _ _ _ hrow Tryd.underlying23 rfl (sizeDate _ rfl)
  refine bodyPost_ret (v := .tuple #[.agg #[.int .i64 0, .int .i64 0, .int .i64 0, .int .i64 0, .int .i64 0, .int .i64 0, .int .i64 0], .int .i64 171]) ?_ rfl ⟨rfl, hbel⟩
  simp [results, Tryd.f12, asAddr, hld]
end Go.Proofs.YthmpokndffbkdaaDoor
