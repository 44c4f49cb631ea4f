/-
  What swar.Fold does. Conditions: as it says.
-/
import Derived.Test.YtlbfnchjbpioeaaFoldA
import Derived.Test.YtlbfnchjbpioeaaBldBS
import Derived.Lib.MinMax
namespace Go.Proofs.Ytlbfnchjbpioeaa
open Go.RowKit
set_option linter.unusedVariables false
theorem row_below {B n : Nat} {e : TypeId} {v : Value} {xs : List Value} {a b : World} (h : a.ownsRow B e 1 v n xs) (hb : Below a.heap.size a b) : b.ownsRow B e 1 v n xs :=
  ⟨h.1, h.2.imp id fun ⟨g, cap, cur, e1, e2, e3, r⟩ => ⟨g, cap, cur, e1, e2, (hb.block g (Array.getElem?_eq_some_iff.1 e3).1).trans e3, r⟩⟩
theorem Bld.keep {B b : Nat} {p : Value} {l : List Nat} {w w' : World} (h : Bld B b p l w) (hb : Below w.heap.size w w') : Bld B b p l w' := by
  obtain ⟨hB, v, hbk, hown, hne⟩ := h
  exact ⟨hB, v, (hb.block b (Array.getElem?_eq_some_iff.1 hbk).1).trans hbk, row_below hown hb, hne⟩
set_option maxRecDepth 100000 in
set_option maxHeartbeats 2000000 in
theorem fold_any (s : ByteArray) (w : World) (hs : s.size ≤ 140737488351232) :
    Calls Try.prog 34 #[.string s] w fun e w' => e = .returned (.string (Swar.foldL s)) ∧ Below w.heap.size w w' := by
  have HS := Hid.mk' hs
  have hs2 : (s.size : Int) ≤ 140737488351232 := by omega
  by_cases h0 : 0 < s.size
  · go_enter Try.func34, Try.ntmps34
    go_wp2_with fail
    refine (Grow_new w.heap.size w.heap.size s.size _ (Nat.le_refl _) (heap_alloc_new w _) (by simp) (by have := HS.out; omega) h0).mono ?_
    rintro e w1 ⟨rfl, hb1, hbl1⟩
    have HB1 : Hid (Below w.heap.size w w1) := ((Below.refl _ _).alloc (Nat.le_refl _) _).trans hbl1
    have HL1 := Hid.mk' hb1
    clear hb1 hbl1 hs
    go_wp2_with fail
    go_loopw [4] (fun i' wr => ∃ p : Nat, i' = .int .i64 (p : Int) ∧ p ≤ s.size + 8 ∧ Bld w.heap.size w.heap.size (own w.heap.size) ((Sums.bl (Swar.foldL s)).take p) wr ∧ Below w.heap.size w wr) (fun i' _ => s.size + 8 - (intOf i').toNat)
    case atStart => exact ⟨0, rfl, by omega, HL1.out, HB1.out⟩
    case round =>
      obtain ⟨p, rfl, hp, hbl, hb⟩ := hrel
      have HBL := Hid.mk' hbl
      have HB := Hid.mk' hb
      clear hbl hb HL1 HB1
      by_cases hlt : p < s.size
      · have l1 := Swar.ldL_lt s p
        have l3 := Swar.lowerL_lt (Swar.ldL s p)
        have HFT := Hid.mk' (bl_fold_take s p hlt)
        have i1 : (p : Int) < (s.size : Int) := by omega
        have i0 : (0 : Int) ≤ (p : Int) := by omega
        obtain ⟨m, hm⟩ : ∃ m : Nat, m = min 8 (s.size - p) := ⟨_, rfl⟩
        have hmi : min (8 : Int) ((s.size : Int) - (p : Int)) = (m : Int) := by omega
        have hm1 : 1 ≤ m := by omega
        have hm8 : m ≤ 8 := by omega
        have hsl : ∀ (W : World) (g : Nat), (Instr.sliceAt 94 (.pointer (some ⟨g, 0, none⟩)) none (some (.int .i64 (m : Int))) none).run Try.prog W = .ok (.slice (some ⟨g, 0, none⟩) m 8) W := by
          intro W g
          have h : m = 1 ∨ m = 2 ∨ m = 3 ∨ m = 4 ∨ m = 5 ∨ m = 6 ∨ m = 7 ∨ m = 8 := by omega
          rcases h with rfl | rfl | rfl | rfl | rfl | rfl | rfl | rfl <;> rfl
        rw [← hm] at HFT
        have HM := Hid.mk' hm
        have HM1 := Hid.mk' hm1
        have HM8 := Hid.mk' hm8
        clear hm hm1 hm8
        go_wp2_with fail
        refine (load_any s p _ (by have := HS.out; omega) (by omega) (by omega)).mono ?_
        rintro e w2 ⟨rfl, n2, rfl⟩
        go_wp2_with fail
        refine (lower_any _ _ l1).mono ?_
        rintro e w2 ⟨rfl, rfl⟩
        generalize Swar.lowerL (Swar.ldL s p) = v at *
        go_wp2_with fail
        refine (split_any v _ l3).mono ?_
        rintro e w3 ⟨rfl, hb3⟩
        have HB3 : Hid (Below wr.heap.size wr w3) := ⟨hb3.os, hb3.tape, hb3.output, hb3.size, hb3.block⟩
        clear hb3
        rw [show (byv (spl v)).toArray = #[Value.int .u8 ((Swar.byt v 0 : Nat) : Int), .int .u8 ((Swar.byt v 1 : Nat) : Int), .int .u8 ((Swar.byt v 2 : Nat) : Int), .int .u8 ((Swar.byt v 3 : Nat) : Int), .int .u8 ((Swar.byt v 4 : Nat) : Int), .int .u8 ((Swar.byt v 5 : Nat) : Int), .int .u8 ((Swar.byt v 6 : Nat) : Int), .int .u8 ((Swar.byt v 7 : Nat) : Int)] from rfl]
        go_wp2_with fail
        obtain ⟨w4, hw4⟩ : ∃ w4, w4 = w3.alloc (.cells #[Value.int .u8 ((Swar.byt v 0 : Nat) : Int), .int .u8 ((Swar.byt v 1 : Nat) : Int), .int .u8 ((Swar.byt v 2 : Nat) : Int), .int .u8 ((Swar.byt v 3 : Nat) : Int), .int .u8 ((Swar.byt v 4 : Nat) : Int), .int .u8 ((Swar.byt v 5 : Nat) : Int), .int .u8 ((Swar.byt v 6 : Nat) : Int), .int .u8 ((Swar.byt v 7 : Nat) : Int)] 94) := ⟨_, rfl⟩
        rw [← hw4]
        have hr4 : w4.heap[w3.heap.size]? = some (.cells (byv (spl v)).toArray 94 (0, 0)) := by rw [hw4]; exact heap_alloc_new w3 _
        have hb4 : Below wr.heap.size wr w4 := by rw [hw4]; exact HB3.out.alloc HB3.out.size _
        have HBL4 := Hid.mk' (Bld.keep HBL.out hb4)
        have HB4 : Hid (Below w.heap.size w w4) := HB.out.trans (hb4.mono HB.out.size)
        have hnl : ((spl v).take m).length = m := by rw [List.length_take]; have := HM8.out; have h8 : (spl v).length = 8 := rfl; omega
        have hcs : ∀ j u, (byv ((spl v).take m))[j]? = some u → w4.cell? ((⟨w3.heap.size, 0, none⟩ : Addr).add j) = some u := by
          intro j u hu
          have e2 : (⟨w3.heap.size, 0, none⟩ : Addr).add j = ⟨w3.heap.size, j, none⟩ := by unfold Addr.add; split <;> simp_all
          rw [e2, Lib.cell_of_heap hr4]
          unfold byv at hu ⊢
          rw [List.map_take, List.getElem?_take] at hu
          split at hu
          · simpa using hu
          · cases hu
        have hcall := wmany_any w.heap.size w.heap.size ((Sums.bl (Swar.foldL s)).take p) ((spl v).take m) w3.heap.size 8 w4 HBL4.out (by rw [hnl]; exact HM1.out) hcs (by rw [hnl, List.length_take, Sums.bl_length, Swar.fold_size]; have := HS.out; have := HM8.out; omega) HB4.out.size
        rw [hnl] at hcall
        clear hw4 hr4 hb4 hcs hsl hmi
        refine hcall.mono ?_
        rintro e w5 ⟨rfl, hbl5, hb5, _⟩
        rw [← HFT.out] at hbl5
        have HBL5 := Hid.mk' hbl5
        have HB5 : Hid (Below w.heap.size w w5) := HB4.out.trans hb5
        clear hbl5 hb5 hcall
        go_wp2_with fail
        go_roundw
        case rel => exact ⟨p + 8, by go_num, by omega, HBL5.out, HB5.out⟩
        case measure => simp [intOf]; omega
      · have hlt' : ¬ (p : Int) < (s.size : Int) := by omega
        have HBF : Hid (Bld w.heap.size w.heap.size (own w.heap.size) (Sums.bl (Swar.foldL s)) wr) := by
          have h := HBL.out
          rw [List.take_of_length_le (by rw [Sums.bl_length, Swar.fold_size]; omega)] at h
          exact h
        have HNE : Hid (Sums.bl (Swar.foldL s) ≠ []) := by
          intro h
          have h2 := Sums.bl_length (Swar.foldL s)
          rw [h, Swar.fold_size] at h2
          simp at h2
          omega
        go_wp2_with fail
        refine (str_some w.heap.size w.heap.size _ (Sums.bl (Swar.foldL s)) wr HBF.out HNE.out (Sums.bl_byt _)).mono ?_
        rintro e w2 ⟨rfl, hb2⟩
        rw [nums_bl]
        go_wp2_with fail
        go_ret
        exact ⟨rfl, HB.out.trans hb2⟩
  · obtain rfl : s = ⟨#[]⟩ := by
      apply Sums.bl_inj
      exact List.eq_nil_of_length_eq_zero (by rw [Sums.bl_length]; omega)
    clear h0 hs hs2 HS
    go_enter Try.func34, Try.ntmps34
    go_wp2_with fail
    refine (Grow_zero w.heap.size w.heap.size _ (Nat.le_refl _) (heap_alloc_new w _) (by simp)).mono ?_
    rintro e w1 ⟨rfl, hb1, hbl1⟩
    have HB1 : Hid (Below w.heap.size w w1) := ((Below.refl _ _).alloc (Nat.le_refl _) _).trans hbl1
    have HK1 := Hid.mk' hb1
    clear hb1 hbl1
    go_wp2_with fail
    refine wp_loop_rounds 1 ?_
    rw [rounds_succ]
    go_wp2_with fail
    refine (str_nil w.heap.size w.heap.size _ w1 HK1.out).mono ?_
    rintro e w2 ⟨rfl, hb2⟩
    go_wp2_with fail
    go_ret
    exact ⟨by rw [show Swar.foldL ⟨#[]⟩ = ⟨#[]⟩ by simp [Swar.foldL]]; rfl, HB1.out.trans hb2⟩
end Go.Proofs.Ytlbfnchjbpioeaa
