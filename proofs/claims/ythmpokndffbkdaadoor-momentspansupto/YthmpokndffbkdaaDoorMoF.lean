/-
  moment.dayOf. Conditions: the day's number is at most that of the last day.
-/
import Derived.Test.YthmpokndffbkdaaDoorMoE
import Derived.Laws.Tables
namespace Go.Proofs.YthmpokndffbkdaaDoor
open Go.RowKit
set_option linter.unusedVariables false
theorem _root_.Mo.ys_first_le (k : Nat) : Mo.ys (1970 + k) ≤ 366 * k := by
  induction k with
  | zero => decide
  | succ k ih =>
    rw [← Nat.add_assoc, Mo.ys_succ (by omega)]
    have := (Mo.yl_pos (1970 + k)).2
    omega
theorem _root_.Mo.ys_below {y n : Nat} (h : Mo.ys y ≤ n) (hn : n ≤ 2932896) (h0 : 1970 ≤ y) : y ≤ 9999 := by
  apply Nat.le_of_not_lt
  intro hc
  have := Mo.ys_le (y := 10000) (z := y) (by omega) (by omega)
  rw [Mo.ys_last] at this
  omega
def dC (y m d : Nat) : List Value := [.int .i64 (y : Int), .int .i64 (m : Int), .int .i64 (d : Int), .int .i64 0, .int .i64 0, .int .i64 0, .int .i64 0]
theorem sizeDate (cs : Array Value) (h : cs.size = 7) : (Tryd.prog.info? 23).map (·.size) = some cs.size := by
  have : (Tryd.prog.info? 23).map (·.size) = some 7 := by kernel_rfl
  rw [this, h]
theorem dC_size (y m d : Nat) : (dC y m d).toArray.size = 7 := rfl
theorem dC_old (y m d : Nat) : (#[.int .i64 0, .int .i64 0, .int .i64 0, .int .i64 0, .int .i64 0, .int .i64 0, .int .i64 0] : Array Value).size = (dC y m d).toArray.size := rfl
theorem dC_one (y m d : Nat) : (dC y m d).toArray.all (·.oneCell') = true := by simp [dC, Value.oneCell']
def monM (g : Nat) (w : World) : Nat := match w.cell? ⟨g, 1, none⟩ with
  | some (.int _ m) => 13 - m.toNat
  | _ => 0
theorem monM_of {g m : Nat} {w : World} (h : w.cell? ⟨g, 1, none⟩ = some (.int .i64 (m : Int))) : monM g w = 13 - m := by
  unfold monM; rw [h]; simp
theorem Put.cells {g : Nat} {t : TypeId} {y m d : Nat} {a b : World} (h : Put g t (dC y m d) a b) : b.cell? ⟨g, 0, none⟩ = some (.int .i64 (y : Int)) ∧ b.cell? ⟨g, 1, none⟩ = some (.int .i64 (m : Int)) ∧ b.cell? ⟨g, 2, none⟩ = some (.int .i64 (d : Int)) ∧ b.cell? ⟨g, 3, none⟩ = some (.int .i64 0) ∧ b.cell? ⟨g, 4, none⟩ = some (.int .i64 0) ∧ b.cell? ⟨g, 5, none⟩ = some (.int .i64 0) ∧ b.cell? ⟨g, 6, none⟩ = some (.int .i64 0) :=
  ⟨h.cell _ rfl, h.cell _ rfl, h.cell _ rfl, h.cell _ rfl, h.cell _ rfl, h.cell _ rfl, h.cell _ rfl⟩
set_option maxRecDepth 100000 in
set_option maxHeartbeats 2000000 in
theorem dayOf_any (n : Nat) (w : World) (hn : n ≤ 2932896) :
    Calls Tryd.prog 34 #[.int .i64 (n : Int)] w fun e w' => (∃ y m d, Mo.IsDay n y m d ∧ e = .returned (dateV (y : Int) (m : Int) (d : Int) 0 0 0 0)) ∧ Below w.heap.size w w' := by
  have HY := Hid.mk' (fun y w h0 h1 => yearStart_any y w h0 h1)
  have HM := Hid.mk' (fun y k w h0 h1 h2 => monthDays_any y k w h0 h1 h2)
  obtain ⟨k0, hk0⟩ : ∃ k, n / 366 = k := ⟨_, rfl⟩
  have hk0I : (n : Int) / 366 = (k0 : Int) := by omega
  have HK : Hid (Mo.ys (1970 + k0) ≤ n) := Nat.le_trans (Mo.ys_first_le k0) (by omega)
  clear hk0
  have hk0b : k0 ≤ 8100 := by omega
  go_enter Tryd.func34, Tryd.ntmps34
  go_wp2_with fail
  have B0 := Hid.mk' ((Below.refl w.heap.size w).alloc (Nat.le_refl _) (.cells #[.int .i64 0, .int .i64 0, .int .i64 0, .int .i64 0, .int .i64 0, .int .i64 0, .int .i64 0] 23))
  go_loopw [3] (fun yv wr => ∃ y : Nat, yv = .int .i64 ((y : Nat) : Int) ∧ 1970 ≤ y ∧ Hid (Mo.ys y ≤ n) ∧ wr = w.alloc (.cells #[.int .i64 0, .int .i64 0, .int .i64 0, .int .i64 0, .int .i64 0, .int .i64 0, .int .i64 0] 23)) (fun yv _ => 10000 - (intOf yv).toNat)
  case atStart => exact ⟨1970 + k0, int_eq (by omega), by omega, HK.out, rfl⟩
  case round =>
    obtain ⟨y, rfl, hy0, hyn, rfl⟩ := hrel
    have hy1 := Mo.ys_below hyn.out hn hy0
    have HS := Hid.mk' (fun w => HY.out (y + 1) w (by omega) (by omega))
    have hsp : Mo.ys (y + 1) = Mo.ys y + Mo.yl y := Mo.ys_succ hy0
    obtain ⟨Y, hY⟩ : ∃ Y, Mo.ys (y + 1) = Y := ⟨_, rfl⟩
    rw [hY] at HS hsp
    have HSP := Hid.mk' hsp
    have HYY := Hid.mk' hY
    have hadd : (y : Int) + 1 = ((y + 1 : Nat) : Int) := by omega
    clear hsp hY
    by_cases hc : Y ≤ n
    · have hcI : (Y : Int) ≤ (n : Int) := by omega
      obtain ⟨y2, hy2⟩ : ∃ y2, y + 1 = y2 := ⟨_, rfl⟩
      rw [hy2] at HS hadd HYY
      have HY2 := Hid.mk' hy2
      clear hy2
      go_wp2_with (go_at_call 59; refine (HS.out _).mono ?_; rintro e w' ⟨rfl, rfl⟩)
      go_roundw
      case rel => exact ⟨y2, by first | rfl | simp, by have := HY2.out; omega, by show Mo.ys y2 ≤ n; rw [HYY.out]; exact hc, by first | trivial | rfl⟩
      case measure => have := HY2.out; simp [intOf]; omega
    · have hcI : ¬ (Y : Int) ≤ (n : Int) := by omega
      obtain ⟨y2, hy2⟩ : ∃ y2, y + 1 = y2 := ⟨_, rfl⟩
      rw [hy2] at HS hadd HYY
      clear hy2
      have HS1 := Hid.mk' (fun w => HY.out y w (by omega) (by omega))
      obtain ⟨X, hX⟩ : ∃ X, Mo.ys y = X := ⟨_, rfl⟩
      rw [hX] at HS1 HSP hyn
      have hXn := hyn.out
      have HX := Hid.mk' hX
      obtain ⟨r, hr⟩ : ∃ r, n - X + 1 = r := ⟨_, rfl⟩
      have hrI : (n : Int) - (X : Int) + 1 = (r : Int) := by omega
      have HR := Hid.mk' hr
      have hXb : X ≤ 3000000 := by omega
      clear hX hyn hr
      have HNY : Hid (n < X + Mo.yl y) := by show _ < _; have := HSP.out; omega
      clear HSP HYY
      go_wp2_with (first | (go_at_call_of 59 y2; refine (HS.out _).mono ?_; rintro e w' ⟨rfl, rfl⟩) | (go_at_call_of 59 y; refine (HS1.out _).mono ?_; rintro e w' ⟨rfl, rfl⟩))
      have HP0 : Hid (Put (w.heap.size + 1) 23 (dC y 1 r) ((w.alloc (.cells #[.int .i64 0, .int .i64 0, .int .i64 0, .int .i64 0, .int .i64 0, .int .i64 0, .int .i64 0] 23)).alloc (.cells #[.int .i64 (y : Int), .int .i64 1, .int .i64 (r : Int), .int .i64 0, .int .i64 0, .int .i64 0, .int .i64 0] 23)) ((w.alloc (.cells #[.int .i64 0, .int .i64 0, .int .i64 0, .int .i64 0, .int .i64 0, .int .i64 0, .int .i64 0] 23)).alloc (.cells #[.int .i64 (y : Int), .int .i64 1, .int .i64 (r : Int), .int .i64 0, .int .i64 0, .int .i64 0, .int .i64 0] 23))) := by
        have := heap_alloc_new (w.alloc (.cells #[.int .i64 0, .int .i64 0, .int .i64 0, .int .i64 0, .int .i64 0, .int .i64 0, .int .i64 0] 23)) (.cells #[.int .i64 (y : Int), .int .i64 1, .int .i64 (r : Int), .int .i64 0, .int .i64 0, .int .i64 0, .int .i64 0] 23)
        refine Put.refl ?_
        simpa [dC] using this
      have HZ : Hid ((((w.alloc (.cells #[.int .i64 0, .int .i64 0, .int .i64 0, .int .i64 0, .int .i64 0, .int .i64 0, .int .i64 0] 23)).alloc (.cells #[.int .i64 (y : Int), .int .i64 1, .int .i64 (r : Int), .int .i64 0, .int .i64 0, .int .i64 0, .int .i64 0] 23))).heap[w.heap.size]? = some (.cells #[.int .i64 0, .int .i64 0, .int .i64 0, .int .i64 0, .int .i64 0, .int .i64 0, .int .i64 0] 23 (0, 0))) := by
        have h1 := heap_alloc_new w (.cells #[.int .i64 0, .int .i64 0, .int .i64 0, .int .i64 0, .int .i64 0, .int .i64 0, .int .i64 0] 23)
        have h2 := Below.heap_alloc (w.alloc (.cells #[.int .i64 0, .int .i64 0, .int .i64 0, .int .i64 0, .int .i64 0, .int .i64 0, .int .i64 0] 23)) (.cells #[.int .i64 (y : Int), .int .i64 1, .int .i64 (r : Int), .int .i64 0, .int .i64 0, .int .i64 0, .int .i64 0] 23) w.heap.size (by simp)
        exact h2.trans h1
      have B1 := Hid.mk' (B0.out.alloc (by simp) (.cells #[.int .i64 (y : Int), .int .i64 1, .int .i64 (r : Int), .int .i64 0, .int .i64 0, .int .i64 0, .int .i64 0] 23))
      generalize ((w.alloc _).alloc _) = W0 at *
      clear B0 HS HS1 HK
      go_loopw [5] (fun _ wr => ∃ m r2 : Nat, Hid (1 ≤ m ∧ m ≤ 12 ∧ 1 ≤ r2 ∧ Mo.ml y (m - 1) + r2 = r) ∧ Hid (Put (w.heap.size + 1) 23 (dC y m r2) W0 wr)) (fun _ wr => monM (w.heap.size + 1) wr)
      case atStart => exact ⟨1, r, ⟨by omega, by omega, by have := HR.out; omega, by rw [show (1 : Nat) - 1 = 0 from rfl, Mo.ml]; omega⟩, HP0.out⟩
      case round =>
        obtain ⟨m, r2, hm, hp⟩ := hrel
        obtain ⟨c0, c1, c2, c3, c4, c5, c6⟩ := hp.out.cells
        have hm1 := hm.out.1
        have hm2 := hm.out.2.1
        have hr2 := hm.out.2.2.1
        have HMM := Hid.mk' (fun w => HM.out y m w (by omega) hm1 hm2)
        obtain ⟨D, hD⟩ : ∃ D, Mo.md y m = D := ⟨_, rfl⟩
        have hDb : D ≤ 31 ∧ 28 ≤ D := by rw [← hD]; exact ⟨(Mo.md_pos y m).2, (Mo.md_pos y m).1⟩
        rw [hD] at HMM
        have HD := Hid.mk' hD
        have hr2b : r2 ≤ 3000000 := by have := hm.out.2.2.2; omega
        clear hD
        by_cases hle : r2 ≤ D
        · have hleI : (r2 : Int) ≤ (D : Int) := by omega
          have hz : wr.heap[w.heap.size]? = some (.cells #[.int .i64 0, .int .i64 0, .int .i64 0, .int .i64 0, .int .i64 0, .int .i64 0, .int .i64 0] 23 (0, 0)) := (hp.out.block _ (by omega)).trans HZ.out
          have HZZ := Hid.mk' hz
          have HRW := Hid.mk' hp.out.row
          clear hz c3 c4 c5 c6
          go_wp2_with (first | (go_at_call 58; refine (HMM.out _).mono ?_; rintro e w' ⟨rfl, hw'⟩; have hw2 := hw'.symm; subst hw2) | (refine wpList_load_row rfl 23 _ rfl (w.heap.size + 1) rfl 23 _ _ _ HRW.out Tryd.underlying23 rfl (sizeDate _ (dC_size _ _ _)) ?_) | (refine wpList_store_row rfl 23 _ _ rfl w.heap.size (dC y m r2).toArray rfl rfl 23 _ HZZ.out (sizeDate _ (dC_size _ _ _)) (dC_old _ _ _) (dC_one _ _ _) ?_) | fail)
          have hrow := setRow_heap wr w.heap.size _ (dC y m r2).toArray 23 (0, 0) HZZ.out
          have hbel : Below w.heap.size w (wr.setRow w.heap.size (dC y m r2).toArray) := by
            have h1 := B1.out.trans (hp.out.below (B := w.heap.size) (by omega))
            refine h1.trans ⟨rfl, rfl, rfl, by simp [World.setRow], fun k hk => ?_⟩
            simp only [World.setRow, Array.getElem?_modify]
            rw [if_neg (by omega)]
          refine bodyPost_ret (results_cell_row rfl _ _ w.heap.size 23 (dC y m r2).toArray (0, 0) _ rfl hrow Tryd.underlying23 rfl (sizeDate _ (dC_size _ _ _))) rfl ⟨⟨y, m, r2, ?_, rfl⟩, hbel⟩
          have hr := hm.out.2.2.2
          have hrn := HR.out
          refine ⟨hy0, hy1, hm1, hm2, hr2, by rw [HD.out]; exact hle, ?_⟩
          rw [HX.out]
          omega
        · have hleI : ¬ (r2 : Int) ≤ (D : Int) := by omega
          have hf1 : wr.frozen? ⟨w.heap.size + 1, 1, none⟩ = false := hp.out.frozen
          have hf2 : wr.frozen? ⟨w.heap.size + 1, 2, none⟩ = false := hp.out.frozen
          go_wp2_with (go_at_call 58; refine (HMM.out _).mono ?_; rintro e w' ⟨rfl, rfl⟩)
          obtain ⟨r3, hr3⟩ : ∃ r3, r2 - D = r3 := ⟨_, rfl⟩
          have hr3I : (r2 : Int) - (D : Int) = (r3 : Int) := by omega
          have hm3I : (m : Int) + 1 = ((m + 1 : Nat) : Int) := by omega
          rw [hr3I, hm3I]
          have hp2 : Put (w.heap.size + 1) 23 (dC y (m + 1) r3) W0 ((w'.setCell ⟨w.heap.size + 1, 2, none⟩ (.int .i64 (r3 : Int))).setCell ⟨w.heap.size + 1, 1, none⟩ (.int .i64 ((m + 1 : Nat) : Int))) := (hp.out.setCell (o := 2) _).setCell (o := 1) _
          have hml : Mo.ml y m = Mo.ml y (m - 1) + D := by
            have : m = m - 1 + 1 := by omega
            rw [this, Mo.ml, ← this, HD.out]
          have hr := hm.out.2.2.2
          have hrn := HR.out
          have hny := HNY.out
          have hle12 := Mo.ml_le y (a := m) (b := 12) (by omega)
          have hyl := Mo.ml_year y
          have hm12 : m ≠ 12 := by
            intro e
            subst e
            omega
          refine ⟨⟨m + 1, r3, ⟨by omega, by omega, by omega, ?_⟩, hp2⟩, ?_⟩
          · rw [show m + 1 - 1 = m from rfl, hml]; omega
          · rw [monM_of c1, monM_of hp2.cells.2.1]; omega
end Go.Proofs.YthmpokndffbkdaaDoor
