/-
  What the document's XX32 does with a text of sixteen bytes or more. Conditions: the seed is of 32 bits, the text no longer than any text that is read can be.
-/
import Derived.Test.YtapphnkddjchkaaDoorRefXA
import Derived.Deep.RegionWith
namespace Go.Proofs.YtapphnkddjchkaaDoor
open Go.RowKit
set_option linter.unusedVariables false
theorem lane_at (F : Sums.Four) (l : List Nat) (p P j : Nat) (h : P = p + 4 * j) : IntKind.u32.wrap (((Sums.rot32 ((fget F j + Sums.w4 (l.drop P) * 2246822519) % 4294967296) 13 : Nat) : Int) * 2654435761) = ((laneJ F (l.drop p) j : Nat) : Int) := by
  rw [laneJ, List.drop_drop, ← h, Sums.lane, IntKind.wrap_u32]; omega
theorem four_fold (F : Sums.Four) (l : List Nat) : setTo (fourC F) 0 F l 4 = fourC (Sums.take32 F l) := by
  have := fold_take (fourC F) 0 F l (by simp [fourC])
  rw [putF_four, putF_four] at this
  exact this
theorem fourC_at (F : Sums.Four) (j : Nat) (hj : j < 4) : (fourC F)[0 + j]? = some (.int .u32 ((fget F j : Nat) : Int)) := by
  have := putF_at (fourC F) 0 F (by simp [fourC]) j hj
  rw [putF_four] at this
  exact this
set_option maxHeartbeats 4000000 in
theorem refXX32_more (seed : Nat) (s : ByteArray) (w : World) (hq : seed < 4294967296) (h : ¬ s.size < 16) (hm : s.size ≤ 140737488351232) :
    Calls Tryd.prog 20 #[.int .u32 (seed : Int), .string s] w fun e w' => e = .returned (.int .u32 (Sums.xx32 seed (Sums.bl s) : Nat)) ∧ Below w.heap.size w w' := by
  have g : (16 : Int) ≤ (s.size : Int) := by omega
  have hmx : s.size ≤ maxLen := by unfold maxLen; omega
  have hm2 : (s.size : Int) ≤ 140737488351232 := by omega
  have HX : Hid (Sums.xx32 seed (Sums.bl s) = Sums.last32 (Sums.merged32 (Sums.rows32 (Sums.begin32 seed) (Sums.bl s)).1) s.size (Sums.rows32 (Sums.begin32 seed) (Sums.bl s)).2) := by
    show _ = _
    rw [xx32_long _ _ (by rw [Sums.bl_length]; exact h), Sums.bl_length]
  have ha : Hid (((seed : Int) + 2654435761 + 2246822519) % 4294967296 = ((Sums.begin32 seed).a : Nat)) := by show _ = _; simp only [Sums.begin32]; omega
  have hb : Hid (((seed : Int) + 2246822519) % 4294967296 = ((Sums.begin32 seed).b : Nat)) := by show _ = _; simp only [Sums.begin32]; omega
  have hd : Hid (((seed : Int) - 2654435761) % 4294967296 = ((Sums.begin32 seed).d : Nat)) := by show _ = _; simp only [Sums.begin32]; omega
  go_enter Tryd.func20, Tryd.ntmps20
  go_wp2_with fail
  rw [ha.out, hb.out, hd.out]
  try simp only [Int.emod_add_emod]
  have H0 : Hid ((w.alloc (.cells (fourC (Sums.begin32 seed)).toArray 43 (0, 0))).heap[w.heap.size]? = some (.cells (fourC (Sums.begin32 seed)).toArray 43 (0, 0))) := heapNew _ _
  have HB0 : Hid (Below w.heap.size w (w.alloc (.cells (fourC (Sums.begin32 seed)).toArray 43 (0, 0)))) := (Below.refl _ _).alloc (Nat.le_refl _) _
  clear ha hb hd
  go_loopw [6] (fun y wr => ∃ (p : Nat) (F : Sums.Four), p ≤ s.size ∧ y = .int .i64 (p : Int) ∧ Hid (Sums.rows32 F ((Sums.bl s).drop p) = Sums.rows32 (Sums.begin32 seed) (Sums.bl s)) ∧ Hid (FourLt F) ∧ Hid (wr.heap[w.heap.size]? = some (.cells (fourC F).toArray 43 (0, 0))) ∧ Hid (Below w.heap.size w wr)) (fun y _ => s.size - (intOf y).toNat)
  case atStart => exact ⟨0, Sums.begin32 seed, by omega, rfl, by show _ = _; rw [List.drop_zero], begin_lt seed hq, H0, HB0⟩
  case round =>
    clear H0 HB0
    obtain ⟨p, F, hp, rfl, HI, HL, HM, HB⟩ := hrel
    by_cases h16 : p + 16 ≤ s.size
    · have g16 : (p : Int) + 16 ≤ (s.size : Int) := by omega
      have HI2 : Hid (Sums.rows32 (Sums.take32 F ((Sums.bl s).drop p)) ((Sums.bl s).drop (p + 16)) = Sums.rows32 (Sums.begin32 seed) (Sums.bl s)) := by
        show _ = _
        rw [← List.drop_drop, ← Sums.rows32_more _ _ (by rw [List.length_drop, Sums.bl_length]; omega)]
        exact HI.out
      have HP0 : Hid (Put w.heap.size 43 (fourC F) wr wr) := Put.refl HM.out
      clear HI HM
      obtain ⟨wo, rfl⟩ : ∃ wo, wo = wr := ⟨_, rfl⟩
      go_wp2_with fail
      go_loopw [6, 9] (fun y z wr => ∃ (j P : Nat), j ≤ 4 ∧ P ≤ s.size ∧ y = .int .i64 (P : Int) ∧ z = .int .i64 (j : Int) ∧ Hid (P = p + 4 * j) ∧ Hid (Put w.heap.size 43 (setTo (fourC F) 0 F ((Sums.bl s).drop p) j) wo wr)) (fun _ z _ => 4 - (intOf z).toNat)
      case atStart => exact ⟨0, p, by omega, hp, rfl, rfl, by show _ = _; omega, HP0⟩
      case round =>
        clear HP0
        obtain ⟨j, P, hj, hP, rfl, rfl, HPP, HP⟩ := hrel
        by_cases hlt : j < 4
        · have hj3 : (j : Int) < 4 := by omega
          have hP4 : P + 4 ≤ s.size := by have := HPP.out; omega
          have hP4i : (P : Int) + 4 ≤ (s.size : Int) := by omega
          have c1 : wr.cell? ⟨w.heap.size, j, none⟩ = some (.int .u32 ((fget F j : Nat) : Int)) := by
            have := HP.out.cell (o := 0 + j) _ (by rw [setTo_far _ _ _ _ _ _ (by omega)]; exact fourC_at F j hlt)
            rw [Nat.zero_add] at this
            exact this
          have f1 : wr.frozen? ⟨w.heap.size, j, none⟩ = false := HP.out.frozen
          have hx := HL.out.get j hlt
          have hy := Sums.w4_lt ((Sums.bl s).drop P) (fun z hz => Sums.bl_byt s z (List.mem_of_mem_drop hz))
          have HEV := Hid.mk' (lane_at F (Sums.bl s) p P j HPP.out)
          have HPS : Hid (∀ n, Put w.heap.size 43 (setTo (fourC F) 0 F ((Sums.bl s).drop p) (j + 1)) wo ((wr.drewN n).setCell ⟨w.heap.size, j, none⟩ (.int .u32 ((laneJ F ((Sums.bl s).drop p) j : Nat) : Int)))) := by
            intro n
            have := (HP.out.drewN n).setCell (o := 0 + j) (.int .u32 ((laneJ F ((Sums.bl s).drop p) j : Nat) : Int))
            rw [show setTo (fourC F) 0 F ((Sums.bl s).drop p) (j + 1) = (setTo (fourC F) 0 F ((Sums.bl s).drop p) j).set (0 + j) (.int .u32 ((laneJ F ((Sums.bl s).drop p) j : Nat) : Int)) by rw [setTo]]
            rw [Nat.zero_add] at this ⊢
            exact this
          go_wp2_with fail
          go_region_with (first | (go_at_call 29; refine (refWord_any s P _ hmx hP4).mono ?_; rintro e w1 ⟨rfl, n1, rfl⟩) | (go_at_call 28; refine (left_i _ ((fget F j + Sums.w4 ((Sums.bl s).drop P) * 2246822519) % 4294967296) 13 _ (by (try simp only [IntKind.wrap_u32]); omega) (by omega) (by omega) (by omega) 13 rfl).mono ?_; rintro e w1 ⟨rfl, n2, rfl⟩))
          all_goals
            rw [HEV.out]
            clear hP4i hy hx c1 f1 HEV HP
            go_wp2_with fail
            go_roundw
            case rel => exact ⟨j + 1, P + 4, by omega, hP4, by go_num, by go_num, by show _ = _; have := HPP.out; omega, HPS.out _⟩
            case measure => simp [intOf]; omega
        · obtain rfl : j = 4 := by omega
          have HP2 : Hid (wr.heap[w.heap.size]? = some (.cells (fourC (Sums.take32 F ((Sums.bl s).drop p))).toArray 43 (0, 0))) := by
            have := HP.out.row
            rw [four_fold] at this
            exact this
          have HB2 : Hid (Below w.heap.size w wr) := HB.out.trans (HP.out.below (Nat.le_refl _))
          obtain rfl : P = p + 16 := by have := HPP.out; omega
          clear HP HPP HB
          go_wp2_with fail
          go_roundw
          case rel => exact ⟨p + 16, _, h16, rfl, HI2, FourLt.take _ _, HP2, HB2⟩
          case measure => simp [intOf]; omega
    · have g16 : ¬ (p : Int) + 16 ≤ (s.size : Int) := by omega
      have HE : Hid (Sums.rows32 (Sums.begin32 seed) (Sums.bl s) = (F, (Sums.bl s).drop p)) := by
        show _ = _
        rw [← HI.out, Sums.rows32_end _ _ (by rw [List.length_drop, Sums.bl_length]; omega)]
      have HX2 : Hid (Sums.xx32 seed (Sums.bl s) = Sums.stir32 (Sums.tail32 ((Sums.merged32 F + s.size) % 4294967296) ((Sums.bl s).drop p))) := by
        show _ = _
        rw [HX.out, HE.out, Sums.last32]
      clear HI HX HE
      obtain ⟨A, B, C, D⟩ := F
      have cc : ∀ j, j < 4 → wr.cell? ⟨w.heap.size, 0 + j, none⟩ = some (.int .u32 ((fget ⟨A, B, C, D⟩ j : Nat) : Int)) := fun j hj => (Put.refl HM.out).cell _ (fourC_at _ j hj)
      have c0 : wr.cell? ⟨w.heap.size, 0, none⟩ = some (.int .u32 (A : Int)) := cc 0 (by omega)
      have c1 : wr.cell? ⟨w.heap.size, 1, none⟩ = some (.int .u32 (B : Int)) := cc 1 (by omega)
      have c2 : wr.cell? ⟨w.heap.size, 2, none⟩ = some (.int .u32 (C : Int)) := cc 2 (by omega)
      have c3 : wr.cell? ⟨w.heap.size, 3, none⟩ = some (.int .u32 (D : Int)) := cc 3 (by omega)
      obtain ⟨h0, h1, h2, h3⟩ : A < 4294967296 ∧ B < 4294967296 ∧ C < 4294967296 ∧ D < 4294967296 := HL.out
      clear cc HM HL
      have HMM : Hid (Sums.merged32 ⟨A, B, C, D⟩ = (Sums.rot32 A 1 + Sums.rot32 B 7 + Sums.rot32 C 12 + Sums.rot32 D 18) % 4294967296) := by show _ = _; rw [Sums.merged32]
      have R1 : ∀ w : World, Calls Tryd.prog 28 #[.int .u32 (A : Int), .int .i64 1] w fun e w' => e = .returned (.int .u32 (Sums.rot32 A 1 : Nat)) ∧ ∃ n, w' = w.drewN n := fun w => left_any A 1 w h0 (by decide) (by decide)
      have R2 : ∀ w : World, Calls Tryd.prog 28 #[.int .u32 (B : Int), .int .i64 7] w fun e w' => e = .returned (.int .u32 (Sums.rot32 B 7 : Nat)) ∧ ∃ n, w' = w.drewN n := fun w => left_any B 7 w h1 (by decide) (by decide)
      have R3 : ∀ w : World, Calls Tryd.prog 28 #[.int .u32 (C : Int), .int .i64 12] w fun e w' => e = .returned (.int .u32 (Sums.rot32 C 12 : Nat)) ∧ ∃ n, w' = w.drewN n := fun w => left_any C 12 w h2 (by decide) (by decide)
      have R4 : ∀ w : World, Calls Tryd.prog 28 #[.int .u32 (D : Int), .int .i64 18] w fun e w' => e = .returned (.int .u32 (Sums.rot32 D 18 : Nat)) ∧ ∃ n, w' = w.drewN n := fun w => left_any D 18 w h3 (by decide) (by decide)
      generalize Sums.rot32 A 1 = a at *
      generalize Sums.rot32 B 7 = b at *
      generalize Sums.rot32 C 12 = c at *
      generalize Sums.rot32 D 18 = d at *
      have HR1 := Hid.mk' R1
      have HR2 := Hid.mk' R2
      have HR3 := Hid.mk' R3
      have HR4 := Hid.mk' R4
      clear R1 R2 R3 R4 h0 h1 h2 h3
      go_wp2_with fail
      go_quiet ((go_at_call 28; first | (with_reducible exact Calls.quiet_of (HR1.out _)) | (with_reducible exact Calls.quiet_of (HR2.out _)) | (with_reducible exact Calls.quiet_of (HR3.out _)) | (with_reducible exact Calls.quiet_of (HR4.out _))))
      go_wp2_with fail
      obtain ⟨H0, HH0⟩ : ∃ H0, Hid (H0 = (Sums.merged32 ⟨A, B, C, D⟩ + s.size) % 4294967296) := ⟨_, Hid.mk' rfl⟩
      rw [← HH0.out] at HX2
      have e0 : ((((((a : Int) + (b : Int)) % 4294967296 + (c : Int)) % 4294967296 + (d : Int)) % 4294967296) + (s.size : Int) % 4294967296) % 4294967296 = (H0 : Int) := by have h1 := HH0.out; have h2 := HMM.out; omega
      have e1 : ((a : Int) + (b : Int) + (c : Int) + (d : Int) + (s.size : Int)) % 4294967296 = (H0 : Int) := by have h1 := HH0.out; have h2 := HMM.out; omega
      have e2 : (((a : Int) + (b : Int) + (c : Int) + (d : Int)) % 4294967296 + (s.size : Int)) % 4294967296 = (H0 : Int) := by have h1 := HH0.out; have h2 := HMM.out; omega
      have e3 : (((a : Int) + (b : Int) + (c : Int) + (d : Int)) % 4294967296 + (s.size : Int) % 4294967296) % 4294967296 = (H0 : Int) := by have h1 := HH0.out; have h2 := HMM.out; omega
      have hH0 : H0 < 4294967296 := by have := HH0.out; omega
      try simp only [Int.emod_add_emod, Int.add_emod_emod]
      first | rw [e1] | rw [e2] | rw [e3] | rw [e0] | (trace_state; fail)
      clear e0 e1 e2 e3 c0 c1 c2 c3 HR1 HR2 HR3 HR4
      have HB0 : Hid (Below w.heap.size w (wr.drewN nq)) := HB.out.drewN' nq
      clear HB
      generalize wr.drewN nq = wz at *
      go_loopw [5, 6] (fun x y wr => ∃ H pz : Nat, H < 4294967296 ∧ pz ≤ s.size ∧ x = .int .u32 (H : Int) ∧ y = .int .i64 (pz : Int) ∧ Hid (Sums.tail32 H ((Sums.bl s).drop pz) = Sums.tail32 H0 ((Sums.bl s).drop p)) ∧ Hid (Below w.heap.size w wr)) (fun _ y _ => s.size - (intOf y).toNat)
      case atStart => exact ⟨H0, p, hH0, hp, rfl, rfl, rfl, HB0⟩
      case round =>
        clear HB0
        obtain ⟨H, pz, hH, hpz, rfl, rfl, HI, HB⟩ := hrel
        by_cases h4 : pz + 4 ≤ s.size
        · have g4 : (pz : Int) + 4 ≤ (s.size : Int) := by omega
          have hw4 := Sums.w4_lt ((Sums.bl s).drop pz) (fun z hz => Sums.bl_byt s z (List.mem_of_mem_drop hz))
          have HI2 : Hid (Sums.tail32 (Sums.mix4 H (Sums.w4 ((Sums.bl s).drop pz))) ((Sums.bl s).drop (pz + 4)) = Sums.tail32 H0 ((Sums.bl s).drop p)) := by
            show _ = _
            rw [← List.drop_drop, ← Sums.tail32_more _ _ (by rw [List.length_drop, Sums.bl_length]; omega)]
            exact HI.out
          have hm4 := Sums.mix4_lt H (Sums.w4 ((Sums.bl s).drop pz))
          have HM : Hid (Sums.mix4 H (Sums.w4 ((Sums.bl s).drop pz)) = Sums.rot32 ((H + Sums.w4 ((Sums.bl s).drop pz) * 3266489917) % 4294967296) 17 * 668265263 % 4294967296) := by show _ = _; rw [Sums.mix4]
          clear HI
          go_wp2_with fail
          refine (refWord_any s pz _ hmx h4).mono ?_
          rintro e w1 ⟨rfl, n1, rfl⟩
          go_wp2_with fail
          refine (left_i _ ((H + Sums.w4 ((Sums.bl s).drop pz) * 3266489917) % 4294967296) 17 _ (by omega) (by omega) (by omega) (by omega) 17 rfl).mono ?_
          rintro e w1 ⟨rfl, n2, rfl⟩
          go_wp2_with fail
          go_roundw
          case rel => exact ⟨_, pz + 4, hm4, h4, int_u32 (by rw [HM.out]; omega), by go_num, HI2, HB.out.drewN' _⟩
          case measure => simp [intOf]; omega
        · have g4 : ¬ (pz : Int) + 4 ≤ (s.size : Int) := by omega
          have HI2 : Hid (Sums.bytes32 H ((Sums.bl s).drop pz) = Sums.tail32 H0 ((Sums.bl s).drop p)) := by
            show _ = _
            rw [← Sums.tail32_end _ _ (by rw [List.length_drop, Sums.bl_length]; omega)]
            exact HI.out
          clear HI
          go_wp2_with fail
          go_loopw [5, 6] (fun x y wr => ∃ G q : Nat, G < 4294967296 ∧ q ≤ s.size ∧ x = .int .u32 (G : Int) ∧ y = .int .i64 (q : Int) ∧ Hid (Sums.bytes32 G ((Sums.bl s).drop q) = Sums.tail32 H0 ((Sums.bl s).drop p)) ∧ Hid (Below w.heap.size w wr)) (fun _ y _ => s.size - (intOf y).toNat)
          case atStart => exact ⟨H, pz, hH, hpz, rfl, rfl, HI2, HB⟩
          case round =>
            clear HB HI2
            obtain ⟨G, q, hG, hq2, rfl, rfl, HG, HB⟩ := hrel
            by_cases hlt : q < s.size
            · have g5 : (q : Int) < (s.size : Int) := by omega
              have hby := UInt8.toNat_lt s[q]
              have HG2 : Hid (Sums.bytes32 (Sums.mix1 G s[q].toNat) ((Sums.bl s).drop (q + 1)) = Sums.tail32 H0 ((Sums.bl s).drop p)) := by
                show _ = _
                rw [← bytes32_cons, ← drop_at s q hlt]
                exact HG.out
              have hm1 := Sums.mix1_lt G s[q].toNat
              have HM : Hid (Sums.mix1 G s[q].toNat = Sums.rot32 ((G + s[q].toNat * 374761393) % 4294967296) 11 * 2654435761 % 4294967296) := by show _ = _; rw [Sums.mix1]
              clear HG
              go_wp2_with fail
              refine (left_i _ ((G + s[q].toNat * 374761393) % 4294967296) 11 _ (by omega) (by omega) (by omega) (by omega) 11 rfl).mono ?_
              rintro e w1 ⟨rfl, n1, rfl⟩
              go_wp2_with fail
              go_roundw
              case rel => exact ⟨_, q + 1, hm1, hlt, int_u32 (by rw [HM.out]; omega), by go_num, HG2, HB.out.drewN' _⟩
              case measure => simp [intOf]; omega
            · have g5 : ¬ (q : Int) < (s.size : Int) := by omega
              have A1 := stirA_bits G hG
              have A2 := stirB_bits _ (Sums.stirA_lt G)
              have A3 := stirC_bits _ (Sums.stirB_lt (Sums.stirA G))
              have HE : Hid (Sums.xx32 seed (Sums.bl s) = Sums.stirB (Sums.stirA G) ^^^ Sums.stirB (Sums.stirA G) / 65536) := by
                show _ = _
                have e1 : G = Sums.tail32 H0 ((Sums.bl s).drop p) := by
                  rw [← HG.out, List.drop_eq_nil_of_le (by rw [Sums.bl_length]; omega), Sums.bytes32, List.foldl_nil]
                rw [HX2.out, ← e1, Sums.stir32]
              have l1 := Sums.stirA_lt G
              have l2 := Sums.stirB_lt (Sums.stirA G)
              generalize Sums.stirB (Sums.stirA G) = Z at *
              generalize Sums.stirA G = Y at *
              clear HG
              go_wp2_with fail
              go_ret
              exact ⟨ret_u32 (by rw [HE.out]), HB.out⟩
theorem refXX32_any (seed : Nat) (s : ByteArray) (w : World) (hq : seed < 4294967296) (hm : s.size ≤ 140737488351232) :
    Calls Tryd.prog 20 #[.int .u32 (seed : Int), .string s] w fun e w' => e = .returned (.int .u32 (Sums.xx32 seed (Sums.bl s) : Nat)) ∧ Below w.heap.size w w' := by
  by_cases h : s.size < 16
  · exact refXX32_less seed s w hq h
  · exact refXX32_more seed s w hq h hm
end Go.Proofs.YtapphnkddjchkaaDoor
