/-
  strings.IndexRune of a rune from 128 on in the ten digits. Conditions: such a rune.
-/
import Derived.Test.YthmpokndffbkdaaDoorSpA
import Derived.Laws.RangeAny
import Derived.Laws.RangeString
import Derived.Laws.Runes
import Derived.WalkMore
import Derived.Shelf.Small.Strs
namespace Go.Proofs.YthmpokndffbkdaaDoor
open Go.RowKit
set_option linter.unusedVariables false
theorem enc_last (r : Int) (h1 : 128 ≤ r) : ∃ n : Nat, 1 ≤ n ∧ n ≤ 3 ∧ (Utf8.encode r).size = n + 1 ∧ ∃ x : Nat, 128 ≤ x ∧ x < 256 ∧ ∀ W, (Instr.index 9 (.string (Utf8.encode r)) (.int .i64 (n : Int))).run Tryd.prog W = .ok (.int .u8 (x : Int)) W := by
  have key : ∀ (b : ByteArray) (n : Nat) (h : n < b.size) (x : Nat), b[n].toNat = x → ∀ W, (Instr.index 9 (.string b) (.int .i64 (n : Int))).run Tryd.prog W = .ok (.int .u8 (x : Int)) W := by
    intro b n h x hx W
    rw [run_index_string W 9 _ .i64 n Tryd.underlying9, dif_pos ⟨by omega, by omega⟩, ← hx]
    rfl
  have hu : ∀ c : Nat, (UInt8.ofNat (0x80 + c % 64)).toNat = 128 + c % 64 := fun c => UInt8.toNat_ofNat_of_lt (by show 128 + c % 64 < 256; omega)
  unfold Utf8.encode
  dsimp only
  generalize hc : (if Utf8.valid r then r.toNat else Utf8.runeError) = c
  have hc128 : 128 ≤ c := by
    rw [← hc]
    split
    · omega
    · decide
  rw [if_neg (by omega)]
  split
  · exact ⟨1, by decide, by decide, rfl, 128 + c % 64, by omega, by omega, key _ 1 (by show 1 < 2; decide) _ (hu c)⟩
  · split
    · exact ⟨2, by decide, by decide, rfl, 128 + c % 64, by omega, by omega, key _ 2 (by show 2 < 3; decide) _ (hu c)⟩
    · exact ⟨3, by decide, by decide, rfl, 128 + c % 64, by omega, by omega, key _ 3 (by show 3 < 4; decide) _ (hu c)⟩
theorem valid_any (r : Int) (w : World) (h1 : 128 ≤ r) : Calls Tryd.prog 90 #[.int .i32 r] w fun e w' => e = .returned (.bool (decide (r < 55296) || (decide (57343 < r) && decide (r ≤ 1114111)))) ∧ w' = w := by
  have a1 : (0 : Int) ≤ r := by omega
  by_cases h2 : r < 55296
  · go_enter Tryd.func90, Tryd.ntmps90
    go_wp2_with fail
    go_ret
    exact ⟨ret_b (by simp [h2]), rfl⟩
  · by_cases h3 : 57343 < r
    · by_cases h4 : r ≤ 1114111
      · go_enter Tryd.func90, Tryd.ntmps90
        go_wp2_with fail
        go_ret
        exact ⟨ret_b (by simp), rfl⟩
      · go_enter Tryd.func90, Tryd.ntmps90
        go_wp2_with fail
        go_ret
        exact ⟨ret_b (by simp; omega), rfl⟩
    · go_enter Tryd.func90, Tryd.ntmps90
      go_wp2_with fail
      go_ret
      exact ⟨ret_b (by simp; omega), rfl⟩
theorem dec_hi (s : ByteArray) (i : Nat) (h : i < s.size) (hb : 128 ≤ (s.get! i).toNat) : 128 ≤ (Utf8.decode s i).1 ∧ 1 ≤ (Utf8.decode s i).2 ∧ i + (Utf8.decode s i).2 ≤ s.size ∧ ∀ k, k < (Utf8.decode s i).2 → 128 ≤ (s.get! (i + k)).toNat := by
  have hb0 : 128 ≤ (s.get! (i + 0)).toNat := hb
  have one : ∀ k, k < 1 → 128 ≤ (s.get! (i + k)).toNat := fun k hk => by
    obtain rfl : k = 0 := by omega
    exact hb0
  simp only [Utf8.decode]
  rw [if_neg (by omega)]
  split
  · rename_i hc
    simp only [Bool.and_eq_true, beq_iff_eq, decide_eq_true_eq] at hc
    split
    · refine ⟨by dsimp only; omega, by dsimp only; omega, by dsimp only; omega, fun k hk => ?_⟩
      rcases (show k = 0 ∨ k = 1 by dsimp only at hk; omega) with rfl | rfl
      · exact hb0
      · omega
    · exact ⟨by decide, by decide, by dsimp only; omega, one⟩
  · split
    · rename_i hc
      simp only [Bool.and_eq_true, beq_iff_eq, decide_eq_true_eq] at hc
      split
      · rename_i hd
        simp only [Bool.and_eq_true, decide_eq_true_eq] at hd
        refine ⟨by dsimp only; omega, by dsimp only; omega, by dsimp only; omega, fun k hk => ?_⟩
        rcases (show k = 0 ∨ k = 1 ∨ k = 2 by dsimp only at hk; omega) with rfl | rfl | rfl
        · exact hb0
        · omega
        · omega
      · exact ⟨by decide, by decide, by dsimp only; omega, one⟩
    · split
      · rename_i hc
        simp only [Bool.and_eq_true, beq_iff_eq, decide_eq_true_eq] at hc
        split
        · rename_i hd
          simp only [Bool.and_eq_true, decide_eq_true_eq] at hd
          refine ⟨by dsimp only; omega, by dsimp only; omega, by dsimp only; omega, fun k hk => ?_⟩
          rcases (show k = 0 ∨ k = 1 ∨ k = 2 ∨ k = 3 by dsimp only at hk; omega) with rfl | rfl | rfl | rfl
          · exact hb0
          · omega
          · omega
          · omega
        · exact ⟨by decide, by decide, by dsimp only; omega, one⟩
      · exact ⟨by decide, by decide, by dsimp only; omega, one⟩
theorem ib_none : ∀ (l : List UInt8) (c : UInt8), c ∉ l → Lib.indexByte l c = -1
  | [], c, _ => rfl
  | x :: l, c, h => by
    have h1 : ¬ x = c := fun e => h (by simp [e])
    have h2 := ib_none l c (fun e => h (by simp [e]))
    simp [Lib.indexByte, h1, h2]
theorem dig_at (i : Nat) (h : i < 10) : (digits10[i]'h).toNat = 48 + i := by
  rcases (show i = 0 ∨ i = 1 ∨ i = 2 ∨ i = 3 ∨ i = 4 ∨ i = 5 ∨ i = 6 ∨ i = 7 ∨ i = 8 ∨ i = 9 by omega) with rfl | rfl | rfl | rfl | rfl | rfl | rfl | rfl | rfl | rfl <;> rfl
theorem dgi1 (W : World) : (Instr.index 9 (.string ⟨#[48, 49, 50, 51, 52, 53, 54, 55, 56, 57]⟩) (.int .i64 1)).run Tryd.prog W = .ok (.int .u8 49) W := by kernel_rfl
theorem dgi2 (W : World) : (Instr.index 9 (.string ⟨#[48, 49, 50, 51, 52, 53, 54, 55, 56, 57]⟩) (.int .i64 2)).run Tryd.prog W = .ok (.int .u8 50) W := by kernel_rfl
theorem dgi3 (W : World) : (Instr.index 9 (.string ⟨#[48, 49, 50, 51, 52, 53, 54, 55, 56, 57]⟩) (.int .i64 3)).run Tryd.prog W = .ok (.int .u8 51) W := by kernel_rfl
theorem dgs1 (W : World) : (Instr.slice 9 (.string ⟨#[48, 49, 50, 51, 52, 53, 54, 55, 56, 57]⟩) (some (.int .i64 2)) none none).run Tryd.prog W = .ok (.string ⟨#[50, 51, 52, 53, 54, 55, 56, 57]⟩) W := by kernel_rfl
theorem dgs2 (W : World) : (Instr.slice 9 (.string ⟨#[48, 49, 50, 51, 52, 53, 54, 55, 56, 57]⟩) (some (.int .i64 3)) none none).run Tryd.prog W = .ok (.string ⟨#[51, 52, 53, 54, 55, 56, 57]⟩) W := by kernel_rfl
theorem dgs3 (W : World) : (Instr.slice 9 (.string ⟨#[48, 49, 50, 51, 52, 53, 54, 55, 56, 57]⟩) (some (.int .i64 4)) none none).run Tryd.prog W = .ok (.string ⟨#[52, 53, 54, 55, 56, 57]⟩) W := by kernel_rfl
set_option maxRecDepth 100000 in
set_option maxHeartbeats 4000000 in
theorem idxRune_hi (r : Int) (w : World) (h1 : 128 ≤ r) (h2 : r ≤ 2147483647) : Calls Tryd.prog 80 #[.string ⟨#[48, 49, 50, 51, 52, 53, 54, 55, 56, 57]⟩, .int .i32 r] w fun e w' => e = .returned (.int .i64 (-1)) ∧ Below w.heap.size w w' := by
  have a1 : (0 : Int) ≤ r := by omega
  have a2 : ¬ r < 128 := by omega
  have HV := Hid.mk' (fun w => valid_any r w h1)
  obtain ⟨z, hz⟩ : ∃ z, (decide (r < 55296) || (decide (57343 < r) && decide (r ≤ 1114111))) = z := ⟨_, rfl⟩
  rw [hz] at HV
  clear hz
  have HB := Hid.mk' (Below.refl w.heap.size w)
  obtain ⟨n, n1, n2, n3, x, x1, x2, hx⟩ := enc_last r h1
  by_cases hr : r = 65533
  · subst hr
    have HI : Hid (∀ i, Below w.heap.size w (w.iter digits10 i)) := fun i => (Below.refl w.heap.size w).alloc (Nat.le_refl _) _
    clear HV hx n1 n2 n3 x1 x2 a1 a2 h1 h2
    show Calls Tryd.prog 80 #[.string digits10, .int .i32 65533] w _
    go_enter Tryd.func80, Tryd.ntmps80
    go_wp2_with fail
    go_loopg [5, 6] 10 (fun g _ _ wx => ∃ i : Nat, i + g = 10 ∧ wx = w.iter digits10 i)
    case atStart => exact ⟨0, by omega, rfl⟩
    case round =>
      obtain ⟨i, hig, rfl⟩ := hrel
      cases gk with
      | zero =>
        obtain rfl : i = 10 := by omega
        have hnx := fun ty => run_next_end (P := Tryd.prog) w digits10 10 ty (by decide)
        go_wp2
        go_ret
        exact ⟨rfl, HI.out _⟩
      | succ g =>
        have hi : i < 10 := by omega
        have hx := dig_at i hi
        have hnx := fun ty => run_next_ascii (P := Tryd.prog) w digits10 i ty hi (by rw [hx]; omega)
        rw [hx] at hnx
        have hne : ¬ ((48 + i : Nat) : Int) = 65533 := by omega
        have hne2 : (((48 + i : Nat) : Int) == 65533) = false := by simp; omega
        obtain ⟨v, hv⟩ : ∃ v, 48 + i = v := ⟨_, rfl⟩
        rw [hv] at hnx hne hne2
        clear hx hv
        go_wp2
        go_roundg g
        case measure => omega
        case rel => exact ⟨i + 1, by omega, rfl⟩
  · go_enter Tryd.func80, Tryd.ntmps80
    go_wp2_with fail
    refine (HV.out _).mono ?_
    rintro e w1 ⟨rfl, hw⟩
    have hw2 := hw.symm
    subst hw2
    clear hw
    cases z
    · go_wp2_with fail
      go_ret
      exact ⟨rfl, HB.out⟩
    · have hcv : ∀ W, (convert 21 9 (.int .i32 r)).run Tryd.prog W = .ok (.string (Utf8.encode r)) W := fun W => run_convert_int_string W 21 9 .i32 r (by rw [Tryd.underlying21]; rfl) Tryd.underlying9
      obtain ⟨E, hE⟩ : ∃ E, Utf8.encode r = E := ⟨_, rfl⟩
      rw [hE] at hcv hx n3
      have n3I : (E.size : Int) - 1 = (n : Int) := by omega
      have hEb : (E.size : Int) ≤ 4 := by omega
      have nI : (n : Int) < 10 := by omega
      have hIB : Hid (∀ (s : ByteArray) (w : World), (∀ z ∈ Sums.bl s, z < 128) → Calls Tryd.prog 89 #[.string s, .int .u8 (x : Int)] w fun e w' => e = .returned (.int .i64 (-1)) ∧ w' = w) := Hid.mk' (by
        intro s w hs
        refine Calls.mono (Any.strings_IndexByte { YthmpokndffbkdaaDoor.lays153 with } s (x : Int) w) ?_
        rintro e w' ⟨rfl, hw⟩
        refine ⟨?_, hw⟩
        rw [ib_none]
        intro hm
        have h3 := hs _ (List.mem_map.2 ⟨_, hm, rfl⟩)
        have h4 : ((x : Int).toNat.toUInt8).toNat = x := by
          rw [Int.toNat_natCast]
          exact UInt8.toNat_ofNat_of_lt (by show x < 256; omega)
        omega)
      clear hE
      rcases (show n = 1 ∨ n = 2 ∨ n = 3 by omega) with rfl | rfl | rfl
      · have y1 : ¬ (49 : Int) = (x : Int) := by omega
        have y2 : ((49 : Int) != (x : Int)) = true := by simp; omega
        have y4 := dgi1
        have hx1 : ∀ W, (Instr.index 9 (.string E) (.int .i64 1)).run Tryd.prog W = .ok (.int .u8 (x : Int)) W := hx
        have n31 : (E.size : Int) - 1 = 1 := n3I
        have y5 : ∀ W, (Instr.slice 9 (.string ⟨#[48, 49, 50, 51, 52, 53, 54, 55, 56, 57]⟩) (some (.int .i64 2)) none none).run Tryd.prog W = .ok (.string ⟨#[50, 51, 52, 53, 54, 55, 56, 57]⟩) W := fun W => dgs1 W
        have IB := Hid.mk' (fun w => hIB.out ⟨#[50, 51, 52, 53, 54, 55, 56, 57]⟩ w (by decide))
        clear hx n3I nI n3 hIB
        go_wp2_with fail
        go_step3
        go_wp2_with fail
        refine wp_loop_rounds 1 ?_
        rw [rounds_succ]
        go_wp2_with fail
        go_step3
        go_wp2_with fail
        go_quiet (fail)
        have H2 := Hid.mk' (HB.out.drewN' nq)
        generalize w.drewN nq = w2 at H2 ⊢
        go_wp2_with fail
        go_quiet ((go_at_call 89; exact Calls.quiet_of_same (IB.out _)))
        have H3 := Hid.mk' (H2.out.drewN' nq)
        generalize w2.drewN nq = w3 at H3 ⊢
        go_wp2_with fail
        simp only [Exit.noGoto, Exit.inBlock, Exit.then]
        go_ret
        exact ⟨rfl, H3.out⟩
      · have y1 : ¬ (50 : Int) = (x : Int) := by omega
        have y2 : ((50 : Int) != (x : Int)) = true := by simp; omega
        have y4 := dgi2
        have hx1 : ∀ W, (Instr.index 9 (.string E) (.int .i64 2)).run Tryd.prog W = .ok (.int .u8 (x : Int)) W := hx
        have n31 : (E.size : Int) - 1 = 2 := n3I
        have y5 : ∀ W, (Instr.slice 9 (.string ⟨#[48, 49, 50, 51, 52, 53, 54, 55, 56, 57]⟩) (some (.int .i64 3)) none none).run Tryd.prog W = .ok (.string ⟨#[51, 52, 53, 54, 55, 56, 57]⟩) W := fun W => dgs2 W
        have IB := Hid.mk' (fun w => hIB.out ⟨#[51, 52, 53, 54, 55, 56, 57]⟩ w (by decide))
        clear hx n3I nI n3 hIB
        go_wp2_with fail
        go_step3
        go_wp2_with fail
        refine wp_loop_rounds 1 ?_
        rw [rounds_succ]
        go_wp2_with fail
        go_step3
        go_wp2_with fail
        go_quiet (fail)
        have H2 := Hid.mk' (HB.out.drewN' nq)
        generalize w.drewN nq = w2 at H2 ⊢
        go_wp2_with fail
        go_quiet ((go_at_call 89; exact Calls.quiet_of_same (IB.out _)))
        have H3 := Hid.mk' (H2.out.drewN' nq)
        generalize w2.drewN nq = w3 at H3 ⊢
        go_wp2_with fail
        simp only [Exit.noGoto, Exit.inBlock, Exit.then]
        go_ret
        exact ⟨rfl, H3.out⟩
      · have y1 : ¬ (51 : Int) = (x : Int) := by omega
        have y2 : ((51 : Int) != (x : Int)) = true := by simp; omega
        have y4 := dgi3
        have hx1 : ∀ W, (Instr.index 9 (.string E) (.int .i64 3)).run Tryd.prog W = .ok (.int .u8 (x : Int)) W := hx
        have n31 : (E.size : Int) - 1 = 3 := n3I
        have y5 : ∀ W, (Instr.slice 9 (.string ⟨#[48, 49, 50, 51, 52, 53, 54, 55, 56, 57]⟩) (some (.int .i64 4)) none none).run Tryd.prog W = .ok (.string ⟨#[52, 53, 54, 55, 56, 57]⟩) W := fun W => dgs3 W
        have IB := Hid.mk' (fun w => hIB.out ⟨#[52, 53, 54, 55, 56, 57]⟩ w (by decide))
        clear hx n3I nI n3 hIB
        go_wp2_with fail
        go_step3
        go_wp2_with fail
        refine wp_loop_rounds 1 ?_
        rw [rounds_succ]
        go_wp2_with fail
        go_step3
        go_wp2_with fail
        go_quiet (fail)
        have H2 := Hid.mk' (HB.out.drewN' nq)
        generalize w.drewN nq = w2 at H2 ⊢
        go_wp2_with fail
        go_quiet ((go_at_call 89; exact Calls.quiet_of_same (IB.out _)))
        have H3 := Hid.mk' (H2.out.drewN' nq)
        generalize w2.drewN nq = w3 at H3 ⊢
        go_wp2_with fail
        simp only [Exit.noGoto, Exit.inBlock, Exit.then]
        go_ret
        exact ⟨rfl, H3.out⟩
end Go.Proofs.YthmpokndffbkdaaDoor
