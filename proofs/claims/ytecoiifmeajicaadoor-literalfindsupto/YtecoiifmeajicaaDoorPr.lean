/-
  What the kernel for the first and the last byte does. Conditions: as each says.
-/
import Derived.Test.YtecoiifmeajicaaDoorSgl
import Derived.Deep.RegionHeld3
namespace Go.Proofs.YtecoiifmeajicaaDoor
open Go.RowKit
set_option linter.unusedVariables false
/-- a word of the text, as it counts -/
def wrd (fold : Bool) (s : ByteArray) (x : Int) : Nat := if fold then Swar.lowerL (Swar.ldL s x) else Swar.ldL s x
theorem wrd_lt (fold : Bool) (s : ByteArray) (x : Int) : wrd fold s x < 18446744073709551616 := by
  unfold wrd; split
  · exact Swar.lowerL_lt _
  · exact Swar.ldL_lt s x
theorem byt_wrd (fold : Bool) (s : ByteArray) (a j : Nat) (hj : j < 8) : Swar.byt (wrd fold s (a : Int)) j = Lit.cs fold (Swar.bt s (a + j)) := by
  have h := Swar.byt_ldL s (a : Int) j hj
  rw [← Int.natCast_add, Swar.cell_nat] at h
  unfold wrd Lit.cs
  split
  · rw [Swar.byt_lower _ _ hj, h]
  · exact h
/-- where both bytes stand -/
def both (fold : Bool) (q s : ByteArray) (G a : Nat) (i : Nat) : Bool := decide (Lit.cs fold (Swar.bt s (a + i)) = Swar.bt q 0) && decide (Lit.cs fold (Swar.bt s (a + G + i)) = Swar.bt q G)
theorem marks_both (fold : Bool) (q s : ByteArray) (G a : Nat) :
    Swar.equalL (wrd fold s (a : Int)) (Swar.spreadL (Swar.bt q 0)) &&& Swar.equalL (wrd fold s ((a : Int) + (G : Int))) (Swar.spreadL (Swar.bt q G)) = Lit.mkw (both fold q s G a) 0 := by
  refine Lit.mkw_of _ _ (Nat.lt_of_le_of_lt Nat.and_le_left (Swar.equalL_lt _ _)) (fun i hi => ?_)
  rw [Swar.byt_and _ _ _ hi, Swar.byt_equal _ _ _ hi, Swar.byt_equal _ _ _ hi, Swar.byt_spread _ _ (Swar.bt_lt _ _) hi, Swar.byt_spread _ _ (Swar.bt_lt _ _) hi, byt_wrd fold s a i hi, ← Int.natCast_add, byt_wrd fold s (a + G) i hi]
  unfold both
  by_cases h1 : Lit.cs fold (Swar.bt s (a + i)) = Swar.bt q 0
  · by_cases h2 : Lit.cs fold (Swar.bt s (a + G + i)) = Swar.bt q G
    · simp [h1, h2]
    · simp [h1, h2]
  · simp [h1]
theorem both_no (fold : Bool) (q s : ByteArray) (G a i : Nat) (hq : q.size = G + 1) (hn : Nrm fold q) (h : both fold q s G a i = false) : Lit.stB fold q s (a + i) = false := by
  rw [Lit.stB_no]
  intro hst
  have h0 := hst.2 0 (by omega)
  have hG := hst.2 G (by omega)
  rw [hn] at h0 hG
  unfold both at h
  rw [Nat.add_zero] at h0
  rw [show a + G + i = a + i + G by omega, h0, hG] at h
  simp at h
set_option maxHeartbeats 400000 in
theorem pload_any (g : Nat) (fold : Bool) (s : ByteArray) (x : Int) (w : World) (hs : s.size ≤ 1125899906842624) (hl : -9223372036854775808 ≤ x) (hh : x ≤ 9223372036854775807) (h1 : w.cell? ⟨g, 1, none⟩ = some (.bool fold)) :
    Calls Tryd.prog 55 #[.pointer (some ⟨g, 0, none⟩), .string s, .int .i64 x] w fun e w' => e = .returned (.int .u64 (wrd fold s x : Nat)) ∧ ∃ n, w' = w.drewN n := by
  have hlt := Swar.ldL_lt s x
  cases fold with
  | false =>
    go_enter Tryd.func55, Tryd.ntmps55
    go_wp2_with fail
    refine (load_any s x _ hs hl hh).mono ?_
    rintro e w' ⟨rfl, n, rfl⟩
    go_wp2_with fail
    go_ret
    exact ⟨rfl, n, rfl⟩
  | true =>
    go_enter Tryd.func55, Tryd.ntmps55
    go_wp2_with fail
    refine (load_any s x _ hs hl hh).mono ?_
    rintro e w' ⟨rfl, n, rfl⟩
    go_wp2_with fail
    refine (lower_any _ _ hlt).mono ?_
    rintro e w' ⟨rfl, rfl⟩
    go_wp2_with fail
    go_ret
    exact ⟨rfl, n, rfl⟩
theorem clear_lt (m : Nat) (h : m ≠ 0) : m &&& (m - 1) < m := by
  have : m &&& (m - 1) ≤ m - 1 := Nat.and_le_right
  omega
theorem drew_drew (w : World) (a b : Nat) : (w.drewN a).drewN b = w.drewN (a + b) := by
  simp [World.drewN, Nat.add_assoc]
set_option maxRecDepth 100000 in
set_option maxHeartbeats 2000000 in
theorem pairLook_any (g : Nat) (fold : Bool) (q s : ByteArray) (G a0 : Nat) (w : World) (hq : q.size = G + 1) (hG : 1 ≤ G) (hGl : G ≤ 256) (hn : Nrm fold q) (hs : s.size ≤ 1125899906842624) (ha : a0 + q.size ≤ s.size)
    (c0 : w.cell? ⟨g, 0, none⟩ = some (.string q)) (c1 : w.cell? ⟨g, 1, none⟩ = some (.bool fold)) (c2 : w.cell? ⟨g, 2, none⟩ = some (.int .u64 ((Swar.spreadL (Swar.bt q 0) : Nat) : Int))) (c3 : w.cell? ⟨g, 3, none⟩ = some (.int .u64 ((Swar.spreadL (Swar.bt q G) : Nat) : Int))) (ht : Tab w) :
    Calls Tryd.prog 41 #[.pointer (some ⟨g, 0, none⟩), .string s, .int .i64 (a0 : Int)] w fun e w' => e = .returned (.int .i64 (Lit.fndL fold q s a0)) ∧ Below w.heap.size w w' := by
  have hx := Swar.spreadL_lt _ (Swar.bt_lt q 0)
  have hy := Swar.spreadL_lt _ (Swar.bt_lt q G)
  have HM := Hid.mk' (marks_both fold q s G)
  have HN := Hid.mk' (fun a i => both_no fold q s G a i hq hn)
  have HST := Hid.mk' (fun k (h : k + q.size ≤ s.size) => Lit.is_st fold q s k h)
  obtain ⟨X, hX⟩ : ∃ X, Swar.spreadL (Swar.bt q 0) = X := ⟨_, rfl⟩
  obtain ⟨Y, hY⟩ : ∃ Y, Swar.spreadL (Swar.bt q G) = Y := ⟨_, rfl⟩
  rw [hX] at c2 hx HM
  rw [hY] at c3 hy HM
  clear hX hY hn
  have hs1 : s.size ≤ 1125899906842624 := by omega
  have hq1 : q.size ≤ 1125899906842624 := by omega
  go_enter Tryd.func41, Tryd.ntmps41
  go_wp2_with fail
  go_loopw [9] (fun i wr => ∃ a : Nat, a ≤ s.size + 8 ∧ i = .int .i64 (a : Int) ∧ Hid (Lit.fndL fold q s a0 = Lit.fndL fold q s a) ∧ Hid (∃ n, wr = w.drewN n)) (fun i _ => s.size + 8 - (intOf i).toNat)
  case atStart => exact ⟨a0, by omega, rfl, rfl, 0, rfl⟩
  case round =>
    obtain ⟨a, hal, rfl, HI, HW⟩ := hrel
    have k0 : wr.cell? ⟨g, 0, none⟩ = some (.string q) := by obtain ⟨n, rfl⟩ := HW.out; exact c0
    have k1 : wr.cell? ⟨g, 1, none⟩ = some (.bool fold) := by obtain ⟨n, rfl⟩ := HW.out; exact c1
    have k2 : wr.cell? ⟨g, 2, none⟩ = some (.int .u64 (X : Int)) := by obtain ⟨n, rfl⟩ := HW.out; exact c2
    have k3 : wr.cell? ⟨g, 3, none⟩ = some (.int .u64 (Y : Int)) := by obtain ⟨n, rfl⟩ := HW.out; exact c3
    by_cases hlt : a + G < s.size
    · have hlt' : (a : Int) < (s.size : Int) - (G : Int) := by omega
      have hw1 := wrd_lt fold s (a : Int)
      have hw2 := wrd_lt fold s ((a : Int) + (G : Int))
      have he1 := Swar.equalL_lt (wrd fold s (a : Int)) X
      have he2 := Swar.equalL_lt (wrd fold s ((a : Int) + (G : Int))) Y
      go_wp2_with fail
      go_quiet ((first
        | (go_at_call 55; exact Calls.quiet_of (pload_any g fold s _ _ hs1 (by omega) (by omega) (by exact k1)))
        | (go_at_call_of 54 X; exact Calls.quiet_of_same (equal_any _ X _ hw1 hx))
        | (go_at_call_of 54 Y; exact Calls.quiet_of_same (equal_any _ Y _ hw2 hy))))
      rw [u64_and_nat _ _ he1 he2, HM.out a]
      have HW1 : Hid (∃ n, wr.drewN nq = w.drewN n) := by obtain ⟨n, rfl⟩ := HW.out; exact ⟨n + nq, drew_drew _ _ _⟩
      generalize wr.drewN nq = W1 at *
      go_wp2_with fail
      have HMK := Hid.mk' (Lit.mkw_lt (both fold q s G a))
      go_loopw [10] (fun mk wr => ∃ j : Nat, mk = .int .u64 ((Lit.mkw (both fold q s G a) j : Nat) : Int) ∧ Hid (∀ i, i < j → Lit.stB fold q s (a + i) = false) ∧ Hid (∃ n, wr = w.drewN n)) (fun mk _ => (intOf mk).toNat)
      case atStart => exact ⟨0, rfl, fun i hi => absurd hi (by omega), HW1.out⟩
      case round =>
        obtain ⟨j, rfl, HJ, HW2⟩ := hrel
        have x0 : wr.cell? ⟨g, 0, none⟩ = some (.string q) := by obtain ⟨n, rfl⟩ := HW2.out; exact c0
        have x1 : wr.cell? ⟨g, 1, none⟩ = some (.bool fold) := by obtain ⟨n, rfl⟩ := HW2.out; exact c1
        have xt : Tab wr := by obtain ⟨n, rfl⟩ := HW2.out; exact ht.drewN _
        by_cases h0 : Lit.mkw (both fold q s G a) j = 0
        · have HNX : Hid (Lit.fndL fold q s a = Lit.fndL fold q s (a + 8)) := Lit.fndL_skip fold q s a 8 (fun i hi => by
            by_cases hij : i < j
            · exact HJ.out i hij
            · exact HN.out a i (Lit.mkw_zero _ j h0 i hi (by omega)))
          rw [h0]
          clear h0
          go_wp2_with fail
          go_roundw
          case rel => exact ⟨a + 8, by omega, by go_num, by show _ = _; rw [HI.out, HNX.out], HW2.out⟩
          case measure => simp [intOf]; omega
        · have hML := HMK.out j
          obtain ⟨t, ht1, ht8, hjt, hft, hno, hclr⟩ := Lit.mkw_step _ j h0
          have hlt2 := clear_lt _ h0
          obtain ⟨M, hM⟩ : ∃ M, Lit.mkw (both fold q s G a) j = M := ⟨_, rfl⟩
          obtain ⟨M2, hM2⟩ : ∃ M2, Lit.mkw (both fold q s G a) (t + 1) = M2 := ⟨_, rfl⟩
          rw [hM] at h0 hML ht1 hclr hlt2
          rw [hM2] at hclr
          have hM0 : ((M : Int) != 0) = true := by rw [bne_iff_ne]; omega
          have hM1 : (1 : Int) ≤ (M : Int) := by omega
          have HC : Hid (bits .and .u64 (M : Int) ((M : Int) - 1) = (M2 : Int)) := by
            show _ = _
            rw [show (M : Int) - 1 = ((M - 1 : Nat) : Int) by omega, u64_and_nat _ _ hML (by omega), hclr]
          have HL2 : Hid (M2 < M) := by show _ < _; rw [← hclr]; exact hlt2
          have HT1 := Hid.mk' ht1
          have HM2 := Hid.mk' hM2
          have HNO := Hid.mk' hno
          have hst : ∀ i, i < t → Lit.stB fold q s (a + i) = false := fun i hi => by
            by_cases hij : i < j
            · exact HJ.out i hij
            · exact HN.out a i (hno i (by omega) hi)
          have HS := Hid.mk' hst
          rw [hM]
          clear hM hM2 ht1 hno hclr hlt2 hst hft h0
          by_cases hin : a + t + G < s.size
          · have hd : decide ((a : Int) + (t : Int) < (s.size : Int) - (G : Int)) = true := decide_eq_true (by omega)
            have hI : (a : Int) + (t : Int) < (s.size : Int) - (G : Int) := by omega
            have HE : Hid (Lit.isL fold q (s.extract (a + t) (a + t + G + 1)) = Lit.stB fold q s (a + t)) := by
              have := HST.out (a + t) (by omega)
              rw [hq] at this
              exact this
            have hez : (s.extract (a + t) (a + t + G + 1)).size ≤ 1125899906842624 := by rw [ByteArray.size_extract]; omega
            go_wp2_with fail
            refine (first_any M _ hML xt).mono ?_
            rintro e w1 ⟨rfl, rfl⟩
            rw [HT1.out]
            go_wp2_with fail
            go_quiet ((go_at_call 57; exact Calls.quiet_of (is_any g fold q _ _ hq1 (by rw [ByteArray.size_extract]; omega) (by exact x0) (by exact x1))))
            rw [HE.out]
            have HW3 : Hid (∃ n, w1.drewN nq = w.drewN n) := by obtain ⟨n, rfl⟩ := HW2.out; exact ⟨n + nq, drew_drew _ _ _⟩
            generalize w1.drewN nq = W3 at *
            cases hst : Lit.stB fold q s (a + t) with
            | true =>
              have HF : Hid (Lit.fndL fold q s a = ((a + t : Nat) : Int)) := Lit.fndL_of fold q s a (a + t) (by omega) hst (fun i h1 h2 => by
                have := HS.out (i - a) (by omega)
                rwa [show a + (i - a) = i by omega] at this)
              clear hst
              go_wp2_with fail
              go_ret
              exact ⟨ret_i64 (by rw [HI.out, HF.out]; omega), by obtain ⟨n, rfl⟩ := HW3.out; exact (Below.refl _ _).drewN' _⟩
            | false =>
              have HST2 := Hid.mk' hst
              clear hst
              go_wp2_with fail
              rw [HC.out]
              go_roundw
              case rel => exact ⟨t + 1, by rw [HM2.out], fun i hi => by
                by_cases hit : i < t
                · exact HS.out i hit
                · rw [show i = t by omega]; exact HST2.out, HW3.out⟩
              case measure => simp [intOf]; exact HL2.out
          · have hd : decide ((a : Int) + (t : Int) < (s.size : Int) - (G : Int)) = false := decide_eq_false (by omega)
            have hI : ¬ (a : Int) + (t : Int) < (s.size : Int) - (G : Int) := by omega
            have HE : Hid (Lit.stB fold q s (a + t) = false) := by
              show _ = _
              rw [Lit.stB_no]
              intro hst
              have := hst.1
              omega
            go_wp2_with fail
            refine (first_any M _ hML xt).mono ?_
            rintro e w1 ⟨rfl, rfl⟩
            rw [HT1.out]
            go_wp2_with fail
            go_quiet (fail)
            go_wp2_with fail
            rw [HC.out]
            go_roundw
            case rel => exact ⟨t + 1, by rw [HM2.out], fun i hi => by
              by_cases hit : i < t
              · exact HS.out i hit
              · rw [show i = t by omega]; exact HE.out, by obtain ⟨n, rfl⟩ := HW2.out; exact ⟨n + nq, drew_drew _ _ _⟩⟩
            case measure => simp [intOf]; exact HL2.out
    · have hlt' : decide ((a : Int) < (s.size : Int) - (G : Int)) = false := decide_eq_false (by omega)
      have HF : Hid (Lit.fndL fold q s a = -1) := Lit.fndL_out fold q s a (by omega)
      go_wp2_with fail
      go_ret
      exact ⟨ret_i64 (by rw [HI.out, HF.out]), by obtain ⟨n, rfl⟩ := HW.out; exact (Below.refl _ _).drewN' _⟩
set_option maxHeartbeats 1000000 in
theorem newPair_any (fold : Bool) (q : ByteArray) (G : Nat) (w : World) (hq : q.size = G + 1) (hGl : G ≤ 256) :
    Calls Tryd.prog 40 #[.agg #[.string q, .bool fold]] w fun e w' => ∃ g, e = .returned (.pointer (some ⟨g, 0, none⟩)) ∧ w.heap.size ≤ g ∧ Below w.heap.size w w' ∧
      w'.cell? ⟨g, 0, none⟩ = some (.string q) ∧ w'.cell? ⟨g, 1, none⟩ = some (.bool fold) ∧ w'.cell? ⟨g, 2, none⟩ = some (.int .u64 ((Swar.spreadL (Swar.bt q 0) : Nat) : Int)) ∧ w'.cell? ⟨g, 3, none⟩ = some (.int .u64 ((Swar.spreadL (Swar.bt q G) : Nat) : Int)) := by
  have hb := Swar.bt_lt q 0
  have hb2 := Swar.bt_lt q G
  have hidx : ∀ W, (Instr.index 9 (.string q) (.int .i64 0)).run Tryd.prog W = .ok (.int .u8 ((Swar.bt q 0 : Nat) : Int)) W := by
    intro W
    rw [run_index_string W 9 _ .i64 0 Tryd.underlying9, dif_pos ⟨by omega, by omega⟩]
    simp only [Int.toNat_zero]
    rw [Swar.bt_in]
  have hidx2 : ∀ W, (Instr.index 9 (.string q) (.int .i64 (G : Int))).run Tryd.prog W = .ok (.int .u8 ((Swar.bt q G : Nat) : Int)) W := by
    intro W
    rw [run_index_string W 9 _ .i64 (G : Int) Tryd.underlying9, dif_pos ⟨by omega, by omega⟩]
    simp only [Int.toNat_natCast]
    rw [Swar.bt_in]
  generalize Swar.bt q 0 = c at *
  generalize Swar.bt q G = d at *
  go_enter Tryd.func40, Tryd.ntmps40
  go_wp2_with fail
  have y0 : (w.alloc (.cells #[.string q, .bool fold] 56)).cell? ⟨w.heap.size, 0, none⟩ = some (.string q) := by simp [go_sem]
  have y1 : (w.alloc (.cells #[.string q, .bool fold] 56)).cell? ⟨w.heap.size, 1, none⟩ = some (.bool fold) := by simp [go_sem]
  have hB : Below w.heap.size w (w.alloc (.cells #[.string q, .bool fold] 56)) := (Below.refl _ _).alloc (Nat.le_refl _) _
  have HZ : Hid (w.heap.size < (w.alloc (.cells #[.string q, .bool fold] 56)).heap.size) := by show _ < _; simp
  have HB := Hid.mk' hB
  clear hB
  generalize (w.alloc (.cells #[.string q, .bool fold] 56)) = W at *
  generalize hN : w.heap.size = N at *
  have HNE := Hid.mk' hN
  clear hN
  go_region_held3 (fun w' => w'.cell? ⟨N, 0, none⟩ = some (.string q) ∧ w'.cell? ⟨N, 1, none⟩ = some (.bool fold)) (first | go_keep | exact ⟨y0, y1⟩)
    ((first | (go_at_call_of 53 c; refine (spread_any c _ hb).mono ?_; rintro e wz ⟨rfl, rfl⟩) | (go_at_call_of 53 d; refine (spread_any d _ hb2).mono ?_; rintro e wz ⟨rfl, rfl⟩)))
  all_goals
    go_wp2_with fail
    go_ret
    have hz := HZ.out
    rw [HNE.out]
    exact ⟨W.heap.size, rfl, by omega, HB.out.trans ((((Below.refl _ _).alloc (Nat.le_of_lt hz) _)).drewN' 1), by simp [go_sem], by simp [go_sem], by simp [go_sem], by simp [go_sem]⟩
end Go.Proofs.YtecoiifmeajicaaDoor
