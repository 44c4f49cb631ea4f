/-
  The law's lent and still: lines copied, with five marks behind them. Conditions: as each says.
-/
import Derived.Test.YtobbobbfmiefeaaEnB
import Derived.Test.YtobbobbfmiefeaaRcO
import Derived.BigQuiet
namespace Go.Proofs.Ytobbobbfmiefeaa
open Go.RowKit
set_option linter.unusedVariables false
set_option linter.unusedSimpArgs false
abbrev noL : Rec.Ln := (0, ⟨#[]⟩)
abbrev mkM : Rec.Ln := (-77, ⟨#[]⟩)
def mkL (L : List Rec.Ln) : List Rec.Ln := L ++ List.replicate 5 mkM
def upL (L : List Rec.Ln) (k : Nat) : List Rec.Ln := (mkL L).take k ++ List.replicate (L.length + 5 - k) noL
theorem mkL_len (L : List Rec.Ln) : (mkL L).length = L.length + 5 := by simp [mkL]
theorem upL_0 (L : List Rec.Ln) : upL L 0 = List.replicate (L.length + 5) noL := by simp [upL]
theorem upL_len (L : List Rec.Ln) (k : Nat) (h : k ≤ L.length + 5) : (upL L k).length = L.length + 5 := by
  unfold upL
  rw [List.length_append, List.length_take, mkL_len, List.length_replicate]
  omega
theorem upL_all (L : List Rec.Ln) : upL L (L.length + 5) = mkL L := by
  unfold upL
  rw [List.take_of_length_le (by rw [mkL_len]; omega)]
  simp
theorem upL_set (L : List Rec.Ln) (k : Nat) (hk : k < L.length + 5) : (upL L k).set k ((mkL L).getD k noL) = upL L (k + 1) := by
  have hl : k < (mkL L).length := by rw [mkL_len]; exact hk
  unfold upL
  have e1 : ((mkL L).take k).length = k := by rw [List.length_take, mkL_len]; omega
  rw [List.set_append_right _ _ (by omega), e1, Nat.sub_self, List.take_succ_eq_append_getElem hl, List.getD_eq_getElem?_getD, List.getElem?_eq_getElem hl, List.append_assoc]
  congr 1
  rw [show L.length + 5 - k = (L.length + 5 - (k + 1)) + 1 by omega, List.replicate_succ]
  rfl
theorem mkL_lo (L : List Rec.Ln) (k : Nat) (hk : k < L.length) : (mkL L).getD k noL = L.getD k noL := by
  unfold mkL
  rw [List.getD_eq_getElem?_getD, List.getElem?_append_left hk, List.getD_eq_getElem?_getD]
theorem mkL_hi (L : List Rec.Ln) (k : Nat) (h1 : L.length ≤ k) (h2 : k < L.length + 5) : (mkL L).getD k noL = mkM := by
  unfold mkL
  rw [List.getD_eq_getElem?_getD, List.getElem?_append_right h1, List.getElem?_replicate, if_pos (by omega)]
  rfl
theorem lnV_set : ∀ (M : List Rec.Ln) (j : Nat) (x : Rec.Ln), ((lnV M).set (j * 2) (.int .i64 x.1)).set (j * 2 + 1) (.string x.2) = lnV (M.set j x)
  | [], j, x => rfl
  | y :: M, 0, x => rfl
  | y :: M, j + 1, x => by
    have h := lnV_set M j x
    rw [lnV, show (j + 1) * 2 = j * 2 + 1 + 1 by omega, List.set_cons_succ, List.set_cons_succ, List.set_cons_succ, List.set_cons_succ, h, List.set_cons_succ, lnV]
theorem lnV_rep : ∀ n : Nat, lnV (List.replicate n noL) = (madeCells (Value.cells (.agg #[.int .i64 0, .string ⟨#[]⟩])) (n * 2)).toList := by
  intro n
  apply List.ext_getElem?
  intro j
  by_cases hj : j < n * 2
  · have hn : j / 2 < n := by omega
    have hg := lnV_get (List.replicate n noL) (j / 2) (by rw [List.length_replicate]; exact hn)
    have hd : (List.replicate n noL).getD (j / 2) (0, ⟨#[]⟩) = noL := by
      rw [List.getD_eq_getElem?_getD, List.getElem?_replicate, if_pos hn]
      rfl
    rw [hd] at hg
    rcases Nat.mod_two_eq_zero_or_one j with h | h
    · rw [show j / 2 * 2 = j by omega] at hg
      rw [hg.1]
      simp [madeCells, hj, h, Value.cells]
    · rw [show j / 2 * 2 + 1 = j by omega] at hg
      rw [hg.2]
      simp [madeCells, hj, h, Value.cells]
  · rw [List.getElem?_eq_none (by rw [lnV_len, List.length_replicate]; omega)]
    simp [madeCells, hj]
/-- a line stored in a row -/
theorem own_put {w : World} {B g m c : Nat} {M : List Rec.Ln} (h : w.ownsRow B 24 2 (.slice (some ⟨g, 0, none⟩) m c) m (lnV M)) (j : Nat) (x : Rec.Ln) : ((w.setCell ⟨g, j * 2, none⟩ (.int .i64 x.1)).setCell ⟨g, j * 2 + 1, none⟩ (.string x.2)).ownsRow B 24 2 (.slice (some ⟨g, 0, none⟩) m c) m (lnV (M.set j x)) := by
  have h1 := (h.stored (j * 2) (.int .i64 x.1)).1
  have h2 := (h1.stored (j * 2 + 1) (.string x.2)).1
  rw [lnV_set] at h2
  exact h2
theorem own_at {w : World} {B g m c : Nat} {M : List Rec.Ln} (h : w.ownsRow B 24 2 (.slice (some ⟨g, 0, none⟩) m c) m (lnV M)) (j : Nat) (hj : j < m) : w.cell? ⟨g, j * 2, none⟩ = some (.int .i64 (M.getD j (0, ⟨#[]⟩)).1) ∧ w.cell? ⟨g, j * 2 + 1, none⟩ = some (.string (M.getD j (0, ⟨#[]⟩)).2) := by
  have hl := h.1
  rw [lnV_len] at hl
  have := lnV_get M j (by omega)
  exact ⟨(h.cellAt (j * 2) (by omega)).trans this.1, (h.cellAt (j * 2 + 1) (by omega)).trans this.2⟩
set_option maxHeartbeats 2000000 in
set_option maxRecDepth 100000 in
theorem lent_any (v : Value) (L : List Rec.Ln) (w : World) (h : LsAt v L w) (hL : L.length ≤ 5864062014634) :
    Calls Try.prog 10 #[v] w fun e w' => e = .returned (.slice (some ⟨w.heap.size, 0, none⟩) L.length (L.length + 5)) ∧
      w'.ownsRow w.heap.size 24 2 (.slice (some ⟨w.heap.size, 0, none⟩) (L.length + 5) (L.length + 5)) (L.length + 5) (lnV (mkL L)) ∧ Below w.heap.size w w' := by
  obtain ⟨i0, hi, hz0, hz1, hz2⟩ := info_parts infoLn
  obtain ⟨a, c, rfl, h1⟩ := h
  obtain ⟨n, hn⟩ : ∃ n, n = L.length := ⟨_, rfl⟩
  have HC : Hid (∀ W, Below w.heap.size w W → ∀ i, i < n → ∃ q off, a = some ⟨q, off, none⟩ ∧ q < w.heap.size ∧ W.cell? ⟨q, off + i * 2, none⟩ = some (.int .i64 (L.getD i (0, ⟨#[]⟩)).1) ∧ W.cell? ⟨q, off + i * 2 + 1, none⟩ = some (.string (L.getD i (0, ⟨#[]⟩)).2)) := fun W hW i hi => by
    obtain ⟨q, off, rfl, hq, hc⟩ := h1 (by omega)
    exact ⟨q, off, rfl, hq, (hW.cell (p := ⟨q, off + i * 2, none⟩) hq).trans (hc i (by omega)).1, (hW.cell (p := ⟨q, off + i * 2 + 1, none⟩) hq).trans (hc i (by omega)).2⟩
  rw [← hn]
  have HN := Hid.mk' hn
  have HL : n ≤ 5864062014634 := by omega
  obtain ⟨m, hm⟩ : ∃ m, m = n + 5 := ⟨_, rfl⟩
  have hmi : (n : Int) + 5 = (m : Int) := by omega
  rw [← hm]
  have HM := Hid.mk' hm
  have hmb : m ≤ 5864062014639 := by omega
  clear h1 hn hL hm
  have hmw : IntKind.i64.wrap ((n : Int) + 5) = (m : Int) := by rw [IntKind.wrap_i64]; omega
  go_enter Try.func10, Try.ntmps10
  go_wp2_with (first | (at_make; refine wpList_make_full _ rfl _ _ 22 rfl w.heap.size 24 i0 _ 2 Try.underlying22 hi hz0 hz1 .i64 .i64 (m : Int) (m : Int) m rfl rfl rfl rfl (by rw [hz2]; omega) (by unfold maxLen; omega) (Nat.le_refl _) ?_; intro w1 hownA hgrow) | fail)
  have HB1 : Hid (Below w.heap.size w w1) := (Below.refl _ _).grown hgrow (Nat.le_refl _) (fun k hk => by cases hk)
  have HO1 : Hid (w1.ownsRow w.heap.size 24 2 (.slice (some ⟨w.heap.size, 0, none⟩) m m) m (lnV (upL L 0))) := by
    rw [upL_0, ← HN.out, ← HM.out, lnV_rep]
    exact hownA
  clear hownA hgrow
  go_wp2_with fail
  go_loopw [4] (fun s4 wr => ∃ k : Nat, s4 = .int .i64 (k : Int) ∧ k ≤ m ∧ Hid (wr.ownsRow w.heap.size 24 2 (.slice (some ⟨w.heap.size, 0, none⟩) m m) m (lnV (upL L k)) ∧ Below w.heap.size w wr)) (fun s4 _ => m - (intOf s4).toNat)
  case atStart => exact ⟨0, rfl, by omega, HO1.out, HB1.out⟩
  case round =>
    obtain ⟨k, rfl, hkm, HX⟩ := hrel
    clear HO1 HB1
    obtain ⟨b, hb⟩ : ∃ b, b = w.heap.size := ⟨_, rfl⟩
    by_cases hlt : k < m
    · have HLT := Hid.mk' hlt
      have j0 : (0 : Int) ≤ (k : Int) := by omega
      have j1 : (k : Int) < (m : Int) := by omega
      have c0 := (own_at HX.out.1 k hlt).1
      have c1 := (own_at HX.out.1 k hlt).2
      have f0 := HX.out.1.frozenAt (k * 2)
      have f1 := HX.out.1.frozenAt (k * 2 + 1)
      by_cases hkn : k < n
      · obtain ⟨q, off, rfl, hq, e0, e1⟩ := HC.out wr HX.out.2 k hkn
        have hup : (((upL L k).set k mkM).set k (L.getD k (0, ⟨#[]⟩))) = upL L (k + 1) := by
          rw [List.set_set, ← mkL_lo L k (by rw [← HN.out]; exact hkn), upL_set L k (by rw [← HN.out, ← HM.out]; exact hlt)]
        obtain ⟨x, t, hxt⟩ : ∃ x t, L.getD k (0, ⟨#[]⟩) = (x, t) := ⟨_, _, rfl⟩
        rw [hxt] at e0 e1 hup
        have HUP := Hid.mk' hup
        have n1 : (k : Int) < (n : Int) := by omega
        have s1 := own_put (own_put HX.out.1 k mkM) k (x, t)
        rw [HUP.out] at s1
        have s2 := (((HX.out.2.setCell (p := ⟨w.heap.size, k * 2, none⟩) (Nat.le_refl _) (.int .i64 (-77))).setCell (p := ⟨w.heap.size, k * 2 + 1, none⟩) (Nat.le_refl _) (.string ⟨#[]⟩)).setCell (p := ⟨w.heap.size, k * 2, none⟩) (Nat.le_refl _) (.int .i64 x)).setCell (p := ⟨w.heap.size, k * 2 + 1, none⟩) (Nat.le_refl _) (.string t)
        have HS := Hid.mk' (And.intro s1 s2)
        clear hkm hup hxt s1 s2 hlt hkn
        go_wp2_with fail
        go_roundw
        case rel => exact ⟨k + 1, by go_num, HLT.out, HS.out.1, HS.out.2⟩
        case measure => have := HLT.out; simp [intOf]; omega
      · have n1 : ¬ (k : Int) < (n : Int) := by omega
        have hup : (upL L k).set k mkM = upL L (k + 1) := by
          rw [← upL_set L k (by rw [← HN.out, ← HM.out]; exact hlt), mkL_hi L k (by rw [← HN.out]; omega) (by rw [← HN.out, ← HM.out]; exact hlt)]
        have HUP := Hid.mk' hup
        have s1 := own_put HX.out.1 k mkM
        rw [HUP.out] at s1
        have s2 := (HX.out.2.setCell (p := ⟨w.heap.size, k * 2, none⟩) (Nat.le_refl _) (.int .i64 (-77))).setCell (p := ⟨w.heap.size, k * 2 + 1, none⟩) (Nat.le_refl _) (.string ⟨#[]⟩)
        have HS := Hid.mk' (And.intro s1 s2)
        clear hkm hup s1 s2 hlt hkn
        go_wp2_with fail
        go_roundw
        case rel => exact ⟨k + 1, by go_num, HLT.out, HS.out.1, HS.out.2⟩
        case measure => have := HLT.out; simp [intOf]; omega
    · have j1 : ¬ (k : Int) < (m : Int) := by omega
      have hke : k = L.length + 5 := by rw [← HN.out, ← HM.out]; omega
      have ho := HX.out.1
      rw [hke, upL_all] at ho
      have HO := Hid.mk' ho
      have n2 : (n : Int) ≤ (m : Int) := by omega
      have n3 : (0 : Int) ≤ (n : Int) := by omega
      have n4 : n ≤ m := by omega
      clear hkm hlt hke ho
      go_wp2_with fail
      go_ret
      exact ⟨rfl, HO.out, HX.out.2⟩
set_option maxHeartbeats 2000000 in
set_option maxRecDepth 100000 in
theorem still_any (v : Value) (L : List Rec.Ln) (g B : Nat) (w : World) (h : LsAt v L w) (ho : w.ownsRow B 24 2 (.slice (some ⟨g, 0, none⟩) (L.length + 5) (L.length + 5)) (L.length + 5) (lnV (mkL L))) (hL : L.length ≤ 5864062014634) :
    Calls Try.prog 13 #[.slice (some ⟨g, 0, none⟩) L.length (L.length + 5), v] w fun e w' => e = .returned (.bool true) ∧ ∃ k, w' = w.drewN k := by
  obtain ⟨a, c, rfl, h1⟩ := h
  obtain ⟨n, hn⟩ : ∃ n, n = L.length := ⟨_, rfl⟩
  have HC : Hid (∀ i, i < n → ∃ q off x t, a = some ⟨q, off, none⟩ ∧ L.getD i (0, ⟨#[]⟩) = (x, t) ∧ w.cell? ⟨q, off + i * 2, none⟩ = some (.int .i64 x) ∧ w.cell? ⟨q, off + i * 2 + 1, none⟩ = some (.string t)) := fun i hi => by
    obtain ⟨q, off, rfl, hq, hc⟩ := h1 (by omega)
    exact ⟨q, off, _, _, rfl, rfl, (hc i (by omega)).1, (hc i (by omega)).2⟩
  have HLO : Hid (∀ i, i < n → (mkL L).getD i (0, ⟨#[]⟩) = L.getD i (0, ⟨#[]⟩)) := fun i hi => mkL_lo L i (by omega)
  have HHI : Hid (∀ i, n ≤ i → i < n + 5 → (mkL L).getD i (0, ⟨#[]⟩) = mkM) := fun i h1 h2 => mkL_hi L i (by omega) (by omega)
  rw [← hn] at ho ⊢
  have HL : n ≤ 5864062014634 := by omega
  obtain ⟨m, hm⟩ : ∃ m, m = n + 5 := ⟨_, rfl⟩
  have hmi : (n : Int) + 5 = (m : Int) := by omega
  rw [← hm] at ho ⊢
  have HO := Hid.mk' ho
  have HM := Hid.mk' hm
  have hmb : m ≤ 5864062014639 := by omega
  have hnm : n ≤ m := by omega
  clear h1 hn hL hm ho
  have hmw : IntKind.i64.wrap ((n : Int) + 5) = (m : Int) := by rw [IntKind.wrap_i64]; omega
  go_enter Try.func13, Try.ntmps13
  go_wp2_with fail
  go_loopw [6] (fun s6 wr => ∃ i k : Nat, s6 = .int .i64 (i : Int) ∧ i ≤ m ∧ wr = w.drewN k) (fun s6 _ => m - (intOf s6).toNat)
  case atStart => exact ⟨0, 0, rfl, by omega, rfl⟩
  case round =>
    obtain ⟨i, k, rfl, him, rfl⟩ := hrel
    by_cases hlt : i < m
    · have i0 : (0 : Int) ≤ (i : Int) := by omega
      have i1 : (i : Int) < (m : Int) := by omega
      have HLT := Hid.mk' hlt
      have hwn : IntKind.i64.wrap ((i : Int) + 1) = (i : Int) + 1 := by rw [IntKind.wrap_i64]; omega
      have hat := own_at HO.out i hlt
      by_cases hin : i < n
      · obtain ⟨q, off, x, t, rfl, hxt, e1, e2⟩ := HC.out i hin
        have hlo := HLO.out i hin
        rw [hlo, hxt] at hat
        have e3 := hat.1
        have e4 := hat.2
        have i2 : (i : Int) < (n : Int) := by omega
        have g1 : decide ((i : Int) < (n : Int)) = true := decide_eq_true (by omega)
        have g2 : decide ((n : Int) ≤ (i : Int)) = false := decide_eq_false (by omega)
        have g4 : decide (n ≤ i) = false := decide_eq_false (by omega)
        have i3 : ¬ (n : Int) ≤ (i : Int) := by omega
        have hq : ∀ W, (binOp .neq 24 (.agg #[.int .i64 x, .string t]) (.agg #[.int .i64 x, .string t])).run Try.prog W = .ok (.bool false) W := fun W => by rw [neq_line]; simp
        clear hlt him hat hin hlo hxt
        go_wp2_with fail
        go_quiet (fail)
        go_wp2_with fail
        go_roundw
        case rel => exact ⟨i + 1, k + nq, by go_num, HLT.out, rfl⟩
        case measure => have := HLT.out; simp [intOf]; omega
      · have hhi := HHI.out i (by omega) (by rw [← HM.out]; exact hlt)
        rw [hhi] at hat
        have e3 : w.cell? ⟨g, i * 2, none⟩ = some (.int .i64 (-77)) := hat.1
        have e4 : w.cell? ⟨g, i * 2 + 1, none⟩ = some (.string ⟨#[]⟩) := hat.2
        have i2 : ¬ (i : Int) < (n : Int) := by omega
        have i3 : (n : Int) ≤ (i : Int) := by omega
        have g1 : decide ((i : Int) < (n : Int)) = false := decide_eq_false (by omega)
        have g2 : decide ((n : Int) ≤ (i : Int)) = true := decide_eq_true (by omega)
        have g4 : decide (n ≤ i) = true := decide_eq_true (by omega)
        have g5 : decide (i < n) = false := decide_eq_false (by omega)
        have hq : ∀ W, (binOp .neq 24 (.agg #[.int .i64 (-77), .string ⟨#[]⟩]) (.agg #[.int .i64 (-77), .string ⟨#[]⟩])).run Try.prog W = .ok (.bool false) W := fun W => by rw [neq_line]; simp
        clear hlt him hat hin hhi
        go_wp2_with fail
        go_quiet (fail)
        go_wp2_with fail
        go_roundw
        case rel => exact ⟨i + 1, k + nq, by go_num, HLT.out, rfl⟩
        case measure => have := HLT.out; simp [intOf]; omega
    · have i1 : ¬ (i : Int) < (m : Int) := by omega
      go_wp2_with fail
      go_ret
      exact ⟨rfl, k, rfl⟩
end Go.Proofs.Ytobbobbfmiefeaa
