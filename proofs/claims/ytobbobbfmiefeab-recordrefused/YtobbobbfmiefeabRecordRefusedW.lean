/-
  The walk of the law RecordRefused: whatever lines, texts and numbers it is given it returns true, and of what was there nothing turns. Conditions: lines and texts no longer than they can be, numbers of their types.
-/
import Derived.Test.YtobbobbfmiefeabRcR
import Derived.Deep.CutBlock
import Derived.Deep.DeepCutAuto
namespace Rec
open Code Sums
theorem enc_stop (y : Ln) (l2 : List Ln) (hy : bad y ≠ 0) : ∀ (l1 A : List Ln), (∀ x ∈ l1, bad x = 0) → szF (A ++ l1) ≤ 131072 → encG A (l1 ++ y :: l2) = (bad y, (A ++ l1).length, A ++ l1)
  | [], A, _, _ => by
    have h1 : addE A y = bad y := if_pos hy
    rw [List.nil_append, encG, h1, if_neg hy, List.append_nil]
  | x :: l1, A, h, hs => by
    have e : A ++ x :: l1 = (A ++ [x]) ++ l1 := by simp
    have h1 : addE A x = 0 := by
      unfold addE
      rw [if_neg (by simp [h x (List.mem_cons_self ..)]), if_neg]
      have := sz_mono (A ++ [x]) l1
      rw [← e] at this
      omega
    rw [List.cons_append, encG, if_pos h1, enc_stop y l2 hy l1 (A ++ [x]) (fun z hz => h z (List.mem_cons_of_mem _ hz)) (by rw [← e]; exact hs), e]
end Rec
namespace Go.Proofs.Ytobbobbfmiefeab
open Go.RowKit
set_option linter.unusedVariables false
/-- how far a text is from being too long -/
def farM (bx : Nat) (w : World) : Nat := match w.cell? ⟨bx, 1, none⟩ with
  | some (.string t) => 8193 - t.size
  | _ => 0
theorem farM_of {bx : Nat} {w : World} {t : ByteArray} (h : w.cell? ⟨bx, 1, none⟩ = some (.string t)) : farM bx w = 8193 - t.size := by
  unfold farM
  rw [h]
theorem nl_feed (t : ByteArray) : 0 ≤ Rec.nl (t ++ ⟨#[10]⟩) := by
  have key : ∀ l : List UInt8, 0 ≤ Lib.indexByte (l ++ [10]) 10 := by
    intro l
    induction l with
    | nil => decide
    | cons b l ih =>
      rw [List.cons_append]
      unfold Lib.indexByte
      split
      · exact Int.le_refl _
      · split
        · rename_i h
          have : Lib.indexByte (l ++ [10]) 10 = -1 := by simpa using h
          omega
        · omega
  unfold Rec.nl
  rw [ByteArray.data_append, Array.toList_append]
  exact key _
theorem pick_int (c K : Int) (k : Nat) (w : World) (hK : K = (k : Int)) (h0 : -9223372036854775808 ≤ c) (h1 : c ≤ 9223372036854775807) (hk : 1 ≤ k) (hkb : k ≤ 9223372036854775807) :
    Calls Try.prog 14 #[.int .i64 c, .int .i64 K] w fun e w' => (∃ z : Nat, z < k ∧ e = .returned (.int .i64 (z : Int))) ∧ w' = w := by
  subst hK
  exact pick_any c k w h0 h1 hk hkb
theorem slice_nil (W : World) : (Instr.slice 22 (.slice none 0 0) none (some (.int .i64 ((0 : Nat) : Int))) none).run Try.prog W = .ok (.slice none 0 0) W := by
  obtain ⟨i0, hi0, _, hz1, _⟩ := info_parts infoLn
  have he5 : Try.prog.elem 22 = 36 := by kernel_rfl
  rw [run_slice_h W 22 none 0 0 (by rw [he5]; exact Try.underlying22) .i64 ((0 : Nat) : Int) (by omega) (by omega), he5]
  have hsz : (sizeOf 36).run Try.prog W = .ok 2 W := by simp [sizeOf, typeInfo, hi0, hz1]
  rw [hsz]
  simp [Result.andThen, sliced]
theorem slice_nil2 (W : World) : (Instr.slice 22 (.slice none 0 0) (some (.int .i64 ((0 : Nat) : Int))) none none).run Try.prog W = .ok (.slice none 0 0) W := by
  obtain ⟨i0, hi0, _, hz1, _⟩ := info_parts infoLn
  have he5 : Try.prog.elem 22 = 36 := by kernel_rfl
  rw [run_slice_l W 22 none 0 0 (by rw [he5]; exact Try.underlying22) .i64 ((0 : Nat) : Int) (by omega) (by omega), he5]
  have hsz : (sizeOf 36).run Try.prog W = .ok 2 W := by simp [sizeOf, typeInfo, hi0, hz1]
  rw [hsz]
  simp [Result.andThen, sliced]
theorem slice_head (q n c k : Nat) (W : World) (hk : k ≤ n) (hc : n ≤ c) : (Instr.slice 22 (.slice (some ⟨q, 0, none⟩) n c) none (some (.int .i64 (k : Int))) none).run Try.prog W = .ok (.slice (some ⟨q, 0, none⟩) k c) W := by
  obtain ⟨i0, hi0, _, hz1, _⟩ := info_parts infoLn
  have he5 : Try.prog.elem 22 = 36 := by kernel_rfl
  rw [run_slice_h W 22 (some ⟨q, 0, none⟩) n c (by rw [he5]; exact Try.underlying22) .i64 (k : Int) (by omega) (by omega), he5]
  have hsz : (sizeOf 36).run Try.prog W = .ok 2 W := by simp [sizeOf, typeInfo, hi0, hz1]
  rw [hsz]
  simp [Result.andThen, sliced, Addr.add]
theorem slice_tail (q n c k : Nat) (W : World) (hk : k ≤ n) (hc : n ≤ c) : (Instr.slice 22 (.slice (some ⟨q, 0, none⟩) n c) (some (.int .i64 (k : Int))) none none).run Try.prog W = .ok (.slice (some ⟨q, if c = k then 0 else k * 2, none⟩) (n - k) (c - k)) W := by
  obtain ⟨i0, hi0, _, hz1, _⟩ := info_parts infoLn
  have he5 : Try.prog.elem 22 = 36 := by kernel_rfl
  rw [run_slice_l W 22 (some ⟨q, 0, none⟩) n c (by rw [he5]; exact Try.underlying22) .i64 (k : Int) (by omega) (by omega), he5]
  have hsz : (sizeOf 36).run Try.prog W = .ok 2 W := by simp [sizeOf, typeInfo, hi0, hz1]
  rw [hsz]
  by_cases h : c = k
  · simp [Result.andThen, sliced, h]
  · by_cases h0 : k = 0
    · subst h0
      simp [Result.andThen, sliced, Addr.add, h]
    · have h2 : ¬ k * 2 = 0 := by omega
      simp [Result.andThen, sliced, Addr.add, h, h2]
theorem lnV_one : ∀ (l : List Rec.Ln), ∀ u ∈ lnV l, u.oneCell' = true
  | [], u, hu => by cases hu
  | x :: l, u, hu => by
    rcases List.mem_cons.1 hu with rfl | hu
    · rfl
    · rcases List.mem_cons.1 hu with rfl | hu
      · rfl
      · exact lnV_one l u hu
set_option maxHeartbeats 1000000 in
set_option maxRecDepth 100000 in
theorem recordRefused_any (v : Value) (l : List Rec.Ln) (at_ how : Int) (text : ByteArray) (stamp : Int) (w : World) (h : LsAt v l w) (hl : l.length ≤ 140737488351232) (ht : ∀ x ∈ l, x.2.size ≤ 140737488351232 ∧ -9223372036854775808 ≤ x.1 ∧ x.1 ≤ 9223372036854775807) (a0 : -9223372036854775808 ≤ at_) (a1 : at_ ≤ 9223372036854775807) (o0 : -9223372036854775808 ≤ how) (o1 : how ≤ 9223372036854775807) (hx : text.size ≤ 140737488351232) (s0 : -9223372036854775808 ≤ stamp) (s1 : stamp ≤ 9223372036854775807) :
    Calls Try.prog 5 #[v, .int .i64 at_, .int .i64 how, .string text, .int .i64 stamp] w fun e w' => e = .returned (.bool true) ∧ Below w.heap.size w w' := by
  obtain ⟨i0, hi, hz0, hz1, hz2⟩ := info_parts infoLn
  have HLS := Hid.mk' h
  have HT := Hid.mk' ht
  clear h ht
  go_enter Try.func5, Try.ntmps5
  go_wp2_with fail
  refine (examples_any w).mono ?_
  rintro e w1 ⟨rfl, hb1⟩
  have HB1 := Hid.mk' hb1
  clear hb1
  go_wp2_with fail
  refine (may_any v l w1 (HLS.out.below HB1.out) hl HT.out).mono ?_
  rintro e w2 ⟨v2, M, rfl, hown, hok, hM, hwt, hb2⟩
  have HB2 : Hid (Below w.heap.size w w2) := below_up HB1.out hb2 (Nat.le_refl _)
  have HOK := Hid.mk' hok
  have HSZ : Hid (Rec.szF M ≤ 131072) := Rec.sz_may M hok hM hwt
  have HOWN := Hid.mk' hown
  have hMb : M.length ≤ 2000 := hM
  obtain ⟨b2, c2, rfl⟩ := row_shape hown
  have HSH : Hid (b2 = none ∧ c2 = 0 ∧ M = [] ∨ ∃ q, b2 = some ⟨q, 0, none⟩ ∧ M.length ≤ c2 ∧ q < w2.heap.size ∧ ∀ j u, (lnV M)[j]? = some u → w2.cell? ⟨q, j, none⟩ = some u) := by
    rcases hown.2 with ⟨e, h0⟩ | ⟨q, cap, cur, e, h1, h2, h3, h4, h5, h6⟩
    · simp only [Value.slice.injEq] at e
      obtain ⟨rfl, _, rfl⟩ := e
      exact .inl ⟨rfl, rfl, List.length_eq_zero_iff.1 h0⟩
    · simp only [Value.slice.injEq, true_and] at e
      obtain ⟨rfl, rfl⟩ := e
      refine .inr ⟨q, rfl, h3, (Array.getElem?_eq_some_iff.1 h2).1, fun j u hj => ?_⟩
      have hlj := (List.getElem?_eq_some_iff.1 hj).1
      rw [lnV_len] at hlj
      rw [hown.cellAt j (by omega)]
      exact hj
  clear hown hok hM hwt hb2 HB1
  go_upto_if 29 with fail
  go_cut [12] (fun s12 wx => wx = w2 ∧ ∃ b c L, s12 = .slice b L.length c ∧ L.length ≤ 500 ∧ Hid ((∀ x ∈ L, Rec.bad x = 0) ∧ Rec.szF L ≤ 131072) ∧ Hid (b = none ∧ c = 0 ∧ L = [] ∨ ∃ q, b = some ⟨q, 0, none⟩ ∧ L.length ≤ c ∧ q < w2.heap.size ∧ ∀ j u, (lnV L)[j]? = some u → w2.cell? ⟨q, j, none⟩ = some u))
  case first =>
    by_cases h5 : 500 < M.length
    · have h5' : (500 : Int) < (M.length : Int) := by omega
      have hc5 : 500 ≤ c2 := by
        rcases HSH.out with ⟨_, _, e⟩ | ⟨q, _, h, _⟩
        · rw [e] at h5
          simp at h5
        · omega
      have hc5' : (500 : Int) ≤ (c2 : Int) := by omega
      have htk : (M.take 500).length = 500 := List.length_take_of_le (by omega)
      have HFIN : Hid (∃ b c L, Value.slice b2 500 c2 = .slice b L.length c ∧ L.length ≤ 500 ∧ Hid ((∀ x ∈ L, Rec.bad x = 0) ∧ Rec.szF L ≤ 131072) ∧ Hid (b = none ∧ c = 0 ∧ L = [] ∨ ∃ q, b = some ⟨q, 0, none⟩ ∧ L.length ≤ c ∧ q < w2.heap.size ∧ ∀ j u, (lnV L)[j]? = some u → w2.cell? ⟨q, j, none⟩ = some u)) := by
        refine ⟨b2, c2, M.take 500, by rw [htk], by rw [htk]; exact Nat.le_refl _, ⟨fun x hx => HOK.out x (List.mem_of_mem_take hx), ?_⟩, ?_⟩
        · have := Rec.sz_mono (M.take 500) (M.drop 500)
          rw [List.take_append_drop] at this
          have := HSZ.out
          omega
        · rcases HSH.out with ⟨_, e, _⟩ | ⟨q, e, h, hq, hc⟩
          · omega
          · refine .inr ⟨q, e, by rw [htk]; exact hc5, hq, fun j u hj => hc j u ?_⟩
            have hs := lnV_append (M.take 500) (M.drop 500)
            rw [List.take_append_drop] at hs
            rw [hs, List.getElem?_append_left (List.getElem?_eq_some_iff.1 hj).1]
            exact hj
      clear htk
      go_wp2_with fail
      go_meet
      exact ⟨rfl, HFIN.out⟩
    · have h5' : ¬ (500 : Int) < (M.length : Int) := by omega
      go_wp2_with fail
      go_meet
      exact ⟨rfl, b2, c2, M, rfl, by omega, ⟨HOK.out, HSZ.out⟩, HSH.out⟩
  case rest =>
    obtain ⟨hwc, b, c, L, rfl, hL5, HOL, HSL⟩ := hcut
    have hwc2 := hwc.symm
    clear hwc
    subst hwc2
    go_wp2_with fail
    refine (pick_int at_ _ (L.length + 1) _ (by first | omega | (rw [IntKind.wrap_i64]; omega)) a0 a1 (by omega) (by omega)).mono ?_
    rintro e w' ⟨⟨k, hk, rfl⟩, hw'⟩
    have hq' := hw'.symm
    subst hq'
    go_wp2_with fail
    refine (pick_any stamp 253402300800000 _ s0 s1 (by decide) (by decide)).mono ?_
    rintro e w' ⟨⟨z, hz, rfl⟩, hw'⟩
    have hq' := hw'.symm
    subst hq'
    have HZ := Hid.mk' hz
    have HK := Hid.mk' hk
    clear hz hk
    go_wp2_with fail
    refine (pick_any how 4 _ o0 o1 (by decide) (by decide)).mono ?_
    rintro e w3 ⟨⟨y, hy, rfl⟩, hw3⟩
    have HK0 : Hid ((w2.alloc (.cells #[.int .i64 (z : Int), .string text] 36)).heap[w2.heap.size]? = some (.cells #[.int .i64 (z : Int), .string text] 36 (0, 0)) ∧ Below w2.heap.size w2 (w2.alloc (.cells #[.int .i64 (z : Int), .string text] 36))) := ⟨heap_alloc_new w2 _, (Below.refl _ _).alloc (Nat.le_refl _) _⟩
    have hq' := hw3.symm
    subst hq'
    go_upto_block 0 with fail
    go_cut [15] (fun s15 wx => ∃ (x : Int) (t : ByteArray) (W : Nat), s15 = .int .i64 (W : Int) ∧ W ≠ 0 ∧ t.size ≤ 1125899906842624 ∧ Hid (Rec.bad (x, t) = W ∧ wx.heap[w2.heap.size]? = some (.cells #[.int .i64 x, .string t] 36 (0, 0)) ∧ Below w2.heap.size w2 wx))
    case first =>
      have hy4 : y = 0 ∨ y = 1 ∨ y = 2 ∨ y = 3 := by omega
      clear hy
      rcases hy4 with rfl | rfl | rfl | rfl
      · go_wp2_with fail
        go_loopw [50] (fun s50 wx => ∃ t : ByteArray, t.size ≤ 140737488351232 ∧ Hid (wx.heap[w2.heap.size]? = some (.cells #[.int .i64 (z : Int), .string t] 36 (0, 0)) ∧ Below w2.heap.size w2 wx)) (fun s50 wx => farM w2.heap.size wx)
        case atStart => exact ⟨text, hx, HK0.out.1, HK0.out.2⟩
        case round =>
          obtain ⟨t, htb, HX⟩ := hrel
          rename World => wx
          have c1 : wx.cell? ⟨w2.heap.size, 1, none⟩ = some (.string t) := by rw [Lib.cell_of_heap HX.out.1]; rfl
          have f1 : wx.frozen? ⟨w2.heap.size, 1, none⟩ = false := Lib.frozen_of_heap HX.out.1 1
          have HC1 := Hid.mk' c1
          by_cases h8 : t.size ≤ 8192
          · have h8' : (t.size : Int) ≤ 8192 := by omega
            have H8 := Hid.mk' h8
            clear h8 htb
            go_wp2_with fail
            go_roundw
            case rel =>
              refine ⟨t ++ t ++ ⟨#[120]⟩, ?_, setc_at HX.out.1 1 _, HX.out.2.setCell (p := ⟨w2.heap.size, 1, none⟩) (Nat.le_refl _) _⟩
              have := H8.out
              rw [ByteArray.size_append, ByteArray.size_append]
              show t.size + t.size + 1 ≤ _
              omega
            case measure =>
              have h9 := H8.out
              rw [farM_of HC1.out, farM_of (t := t ++ t ++ ⟨#[120]⟩) (by rw [Lib.cell_of_heap (setc_at HX.out.1 1 _)]; rfl), ByteArray.size_append, ByteArray.size_append]
              show 8193 - (t.size + t.size + 1) < 8193 - t.size
              omega
          · have h8' : ¬ (t.size : Int) ≤ 8192 := by omega
            have hb : Rec.bad ((z : Int), t) = 170 := if_pos (.inl (by show 8192 < t.size; omega))
            have HBD := Hid.mk' hb
            have HTB := Hid.mk' htb
            clear h8 hb htb
            go_wp2_with fail
            go_meet
            exact ⟨(z : Int), t, 170, rfl, by decide, by have := HTB.out; omega, HBD.out, HX.out.1, HX.out.2⟩
      · have hb : Rec.bad ((z : Int), text ++ ⟨#[10]⟩) = 170 := if_pos (.inr (nl_feed text))
        have HBD := Hid.mk' hb
        have HXX := Hid.mk' hx
        clear hb
        go_wp2_with fail
        go_meet
        refine ⟨(z : Int), text ++ ⟨#[10]⟩, 170, rfl, by decide, ?_, HBD.out, ?_, ?_⟩
        · have := HXX.out
          rw [ByteArray.size_append]
          show text.size + 1 ≤ _
          omega
        · first | exact heap_alloc_new w2 _ | exact setc_at HK0.out.1 1 _
        · first | exact (Below.refl _ _).alloc (Nat.le_refl _) _ | exact HK0.out.2.setCell (p := ⟨w2.heap.size, 1, none⟩) (Nat.le_refl _) _
      · go_wp2_with fail
        refine (pick_any stamp 1125899906842624 _ s0 s1 (by decide) (by decide)).mono ?_
        rintro e w4 ⟨⟨z5, hz5, rfl⟩, hw4⟩
        have hq' := hw4.symm
        subst hq'
        have hb : Rec.bad (-1 - (z5 : Int), ⟨#[]⟩) = 171 := by
          unfold Rec.bad
          rw [if_neg (by show ¬ (8192 < 0 ∨ 0 ≤ Rec.nl ⟨#[]⟩); have := Rec.nl_nil; omega), if_pos (.inl (by show (-1 - (z5 : Int)) < 0; omega))]
        have HBD := Hid.mk' hb
        have hw5 : IntKind.i64.wrap (-1 - (z5 : Int)) = -1 - (z5 : Int) := by rw [IntKind.wrap_i64]; omega
        clear hb
        go_wp2_with fail
        go_meet
        refine ⟨-1 - (z5 : Int), ⟨#[]⟩, 171, rfl, by decide, by decide, HBD.out, ?_, ?_⟩
        · exact heap_alloc_new w2 _
        · exact (Below.refl _ _).alloc (Nat.le_refl _) _
      · go_wp2_with fail
        refine (pick_any stamp 1125899906842624 _ s0 s1 (by decide) (by decide)).mono ?_
        rintro e w4 ⟨⟨z5, hz5, rfl⟩, hw4⟩
        have hq' := hw4.symm
        subst hq'
        have hb : Rec.bad (253402300800000 + (z5 : Int), ⟨#[]⟩) = 171 := by
          unfold Rec.bad
          rw [if_neg (by show ¬ (8192 < 0 ∨ 0 ≤ Rec.nl ⟨#[]⟩); have := Rec.nl_nil; omega), if_pos (.inr (by show (253402300799999 : Int) < (253402300800000 + (z5 : Int)); omega))]
        have HBD := Hid.mk' hb
        have hw5 : IntKind.i64.wrap (253402300800000 + (z5 : Int)) = 253402300800000 + (z5 : Int) := by rw [IntKind.wrap_i64]; omega
        clear hb
        go_wp2_with fail
        go_meet
        refine ⟨253402300800000 + (z5 : Int), ⟨#[]⟩, 171, rfl, by decide, by decide, HBD.out, ?_, ?_⟩
        · exact heap_alloc_new w2 _
        · exact (Below.refl _ _).alloc (Nat.le_refl _) _
    case rest =>
      obtain ⟨x, t, W, rfl, hW0, htb, HX⟩ := hcut
      rename World => w5
      have HKL : Hid (k ≤ L.length) := Nat.le_of_lt_succ HK.out
      have hkl : k ≤ L.length := HKL.out
      clear hy HK0 hx
      go_upto_region 20 with fail
      go_cut [16] (fun s16 wx => ∃ bb cc, s16 = .slice bb k cc ∧ Hid (wx.ownsRow w5.heap.size 36 2 (.slice bb k cc) k (lnV (L.take k)) ∧ Below w5.heap.size w5 wx))
      case first =>
        rcases HSL.out with ⟨rfl, rfl, rfl⟩ | ⟨q, rfl, hLc, hq, hcell⟩
        · obtain rfl : k = 0 := by simpa using hkl
          have hsl : ∀ W, (Instr.slice 22 (.slice none ([] : List Rec.Ln).length 0) none (some (.int .i64 ((0 : Nat) : Int))) none).run Try.prog W = .ok (.slice none 0 0) W := slice_nil
          go_wp2_with (at_builtin; refine wpList_append_own_none rfl _ _ 22 rfl w5.heap.size 36 i0 2 Try.underlying22 hi _ _ _ rfl (World.ownsRow_nil w5 _ _ _) rfl ?_)
          go_wp2_with fail
          go_meet
          exact ⟨none, 0, rfl, World.ownsRow_nil _ _ _ _, Below.refl _ _⟩
        · have hsl := fun W => slice_head q L.length c k W hkl hLc
          have hlen : (lnV (L.take k)).length = k * 2 := by rw [lnV_len, List.length_take_of_le hkl]
          have hnews : ∀ j u, (lnV (L.take k))[j]? = some u → w5.cell? ((⟨q, 0, none⟩ : Addr).add j) = some u := fun j u hj => by
            have hs := lnV_append (L.take k) (L.drop k)
            rw [List.take_append_drop] at hs
            have h1 := hcell j u (by rw [hs, List.getElem?_append_left (List.getElem?_eq_some_iff.1 hj).1]; exact hj)
            have ha : (⟨q, 0, none⟩ : Addr).add j = ⟨q, j, none⟩ := by
              by_cases h0 : j = 0
              · subst h0; rfl
              · simp [Addr.add, h0]
            rw [ha]
            exact (HX.out.2.2.cell (p := ⟨q, j, none⟩) hq).trans h1
          go_wp2_with (at_builtin; refine wpList_append_own _ rfl _ _ 22 rfl w5.heap.size 36 i0 _ 2 24 Try.underlying22 hi hz0 hz1 hz2 rfl (by decide) _ 0 [] rfl (World.ownsRow_nil w5 _ _ _) ⟨q, 0, none⟩ k c (lnV (L.take k)) rfl hlen hnews (lnV_one _) (by unfold maxLen; omega) (by omega) (Nat.le_refl _) ?_; intro v' w6 hown' hgrow _; rw [Nat.zero_add, List.nil_append] at hown'; obtain ⟨bb, cc, rfl⟩ := row_shape hown'; have HOW := Hid.mk' hown'; have HB6 : Hid (Below w5.heap.size w5 w6) := (Below.refl _ _).grown hgrow (Nat.le_refl _) (fun k hk => by cases hk); clear hown' hgrow)
          go_wp2_with fail
          go_meet
          exact ⟨bb, cc, by first | rfl | simp, HOW.out, HB6.out⟩
      case rest =>
        obtain ⟨bb, cc, rfl, HR6⟩ := hcut
        rename World => w6
        have hrow6 : w6.ownsRow w5.heap.size 36 2 (.slice bb k cc) k (lnV (L.take k)) := HR6.out.1
        have hb6 := HR6.out.2
        have hs6 : w5.heap.size ≤ w6.heap.size := hb6.size
        have hbx : w2.heap.size < w5.heap.size := (Array.getElem?_eq_some_iff.1 HX.out.2.1).1
        have HH6 : Hid (w6.heap[w2.heap.size]? = some (.cells #[.int .i64 x, .string t] 36 (0, 0))) := (hb6.block _ hbx).trans HX.out.2.1
        have c0 : w6.cell? ⟨w2.heap.size, 0, none⟩ = some (.int .i64 x) := by rw [Lib.cell_of_heap HH6.out]; rfl
        have c1 : w6.cell? ⟨w2.heap.size, 1, none⟩ = some (.string t) := by rw [Lib.cell_of_heap HH6.out]; rfl
        have HBX := Hid.mk' hbx
        have HB6 := Hid.mk' hb6
        clear hb6 hbx
        go_upto_region 21 with fail
        go_cut [16] (fun s16 wx => ∃ bb cc, s16 = .slice bb (k + 1) cc ∧ Hid (wx.ownsRow w5.heap.size 36 2 (.slice bb (k + 1) cc) (k + 1) (lnV (L.take k) ++ [.int .i64 x, .string t]) ∧ Below w5.heap.size w5 wx))
        case first =>
          go_wp2_with (first | (at_builtin; refine wpList_append_own _ rfl _ _ 22 rfl w5.heap.size 36 i0 _ 2 24 Try.underlying22 hi hz0 hz1 hz2 rfl (by decide) _ _ _ rfl (hrow6.alloc _) ⟨_, 0, none⟩ 1 1 [.int .i64 x, .string t] rfl rfl (World.news_of_block (cs := #[.int .i64 x, .string t]) (t := 36) (fr := (0, 0)) (heap_alloc_new _ _)) (ln_one x t) (by unfold maxLen; omega) (by omega) (by simp; omega) ?_; intro v' w7 hown' hgrow _; have hg' : (w6.alloc (.cells #[.int .i64 x, .string t] 36)).grownBy w7 (Value.slice bb k cc).ownBlock := hgrow; obtain ⟨b7, c7, rfl⟩ := row_shape hown'; have HOW := Hid.mk' hown'; have HB7 : Hid (Below w5.heap.size w5 w7) := (HB6.out.alloc hs6 _).grown hg' (by simp; omega) (fun k hk => (hrow6.lt k hk).1); clear hown' hgrow hg') | fail)
          go_wp2_with fail
          go_meet
          exact ⟨b7, c7, rfl, HOW.out, HB7.out⟩
        case rest =>
          obtain ⟨b7, c7, rfl, HR7⟩ := hcut
          rename World => w7
          have hrow7 := HR7.out.1
          have HB7 := Hid.mk' HR7.out.2
          have hs7 : w5.heap.size ≤ w7.heap.size := HR7.out.2.size
          clear HR6 HB6 HH6 c0 c1 hrow6 hs6
          go_upto_region 22 with fail
          go_cut [16] (fun s16 wx => Hid (LsAt s16 (L.take k ++ (x, t) :: L.drop k) wx ∧ Below w5.heap.size w5 wx))
          case first =>
            have hfin : ∀ (wx : World) (v' : Value), wx.ownsRow w5.heap.size 36 2 v' (k + 1 + (L.length - k)) (lnV (L.take k) ++ [.int .i64 x, .string t] ++ lnV (L.drop k)) → LsAt v' (L.take k ++ (x, t) :: L.drop k) wx := fun wx v' hh => by
              refine own_ls (B := w5.heap.size) ?_
              have e1 : (L.take k ++ (x, t) :: L.drop k).length = k + 1 + (L.length - k) := by
                rw [List.length_append, List.length_take_of_le hkl, List.length_cons, List.length_drop]
                omega
              rw [e1, lnV_append, lnV]
              simpa using hh
            rcases HSL.out with ⟨rfl, rfl, rfl⟩ | ⟨q, rfl, hLc, hq, hcell⟩
            · obtain rfl : k = 0 := by simpa using hkl
              have hsl : ∀ W, (Instr.slice 22 (.slice none ([] : List Rec.Ln).length 0) (some (.int .i64 ((0 : Nat) : Int))) none none).run Try.prog W = .ok (.slice none 0 0) W := slice_nil2
              go_wp2_with (at_builtin; refine wpList_append_own_none rfl _ _ 22 rfl w5.heap.size 36 i0 2 Try.underlying22 hi _ _ _ rfl hrow7 rfl ?_)
              go_wp2_with fail
              go_meet
              exact ⟨hfin _ _ (by simpa [lnV] using hrow7), HB7.out⟩
            · have hsl := fun W => slice_tail q L.length c k W hkl hLc
              have hlen : (lnV (L.drop k)).length = (L.length - k) * 2 := by rw [lnV_len, List.length_drop]
              obtain ⟨o, ho⟩ : ∃ o, o = if c = k then 0 else k * 2 := ⟨_, rfl⟩
              rw [← ho] at hsl
              have hnews : ∀ j u, (lnV (L.drop k))[j]? = some u → w7.cell? ((⟨q, o, none⟩ : Addr).add j) = some u := fun j u hj => by
                have hj2 := (List.getElem?_eq_some_iff.1 hj).1
                have hck : c ≠ k := fun e => by
                  rw [hlen] at hj2
                  omega
                rw [if_neg hck] at ho
                have hs := lnV_append (L.take k) (L.drop k)
                rw [List.take_append_drop] at hs
                have hl1 : (lnV (L.take k)).length = k * 2 := by rw [lnV_len, List.length_take_of_le hkl]
                have h1 := hcell (k * 2 + j) u (by rw [hs, List.getElem?_append_right (by omega), hl1, Nat.add_sub_cancel_left]; exact hj)
                have ha : (⟨q, o, none⟩ : Addr).add j = ⟨q, k * 2 + j, none⟩ := by
                  rw [ho]
                  by_cases h0 : j = 0
                  · subst h0; rfl
                  · simp [Addr.add, h0]
                have hq5 : q < w5.heap.size := Nat.lt_of_lt_of_le hq HX.out.2.2.size
                rw [ha]
                exact (HB7.out.cell (p := ⟨q, k * 2 + j, none⟩) hq5).trans ((HX.out.2.2.cell (p := ⟨q, k * 2 + j, none⟩) hq).trans h1)
              clear ho
              go_wp2_with (at_builtin; refine wpList_append_own _ rfl _ _ 22 rfl w5.heap.size 36 i0 _ 2 24 Try.underlying22 hi hz0 hz1 hz2 rfl (by decide) _ (k + 1) _ rfl hrow7 ⟨q, o, none⟩ (L.length - k) (c - k) (lnV (L.drop k)) rfl hlen hnews (lnV_one _) (by unfold maxLen; omega) (by omega) hs7 ?_; intro v' w8 hown' hgrow _; have hg' : w7.grownBy w8 (Value.slice b7 (k + 1) c7).ownBlock := hgrow; obtain ⟨b8, c8, rfl⟩ := row_shape hown'; have HOW := Hid.mk' (hfin _ _ hown'); have HB8 : Hid (Below w5.heap.size w5 w8) := HB7.out.grown hg' hs7 (fun k hk => (hrow7.lt k hk).1); clear hown' hgrow hg')
              go_wp2_with fail
              go_meet
              exact ⟨HOW.out, HB8.out⟩
          case rest =>
            rename World => w8
            obtain ⟨A, hA⟩ : ∃ A, A = L.take k := ⟨_, rfl⟩
            obtain ⟨ALL, hALL⟩ : ∃ ALL, ALL = A ++ (x, t) :: L.drop k := ⟨_, rfl⟩
            have hAl : A.length = k := by rw [hA]; exact List.length_take_of_le hkl
            have HLA : Hid (LsAt u16 ALL w8) := by
              have := hcut.out.1
              rw [← hA, ← hALL] at this
              exact this
            have HB8 := Hid.mk' hcut.out.2
            have hbx : w2.heap.size < w5.heap.size := (Array.getElem?_eq_some_iff.1 HX.out.2.1).1
            have HH8 : Hid (w8.heap[w2.heap.size]? = some (.cells #[.int .i64 x, .string t] 36 (0, 0))) := (hcut.out.2.block _ hbx).trans HX.out.2.1
            have HBX := Hid.mk' hbx
            have HAL := Hid.mk' hAl
            have hokA : ∀ y ∈ A, Rec.bad y = 0 := fun y hy => HOL.out.1 y (by rw [hA] at hy; exact List.mem_of_mem_take hy)
            have hszA : Rec.szF A ≤ 131072 := by
              have := Rec.sz_mono (L.take k) (L.drop k)
              rw [List.take_append_drop, ← hA] at this
              have := HOL.out.2
              omega
            have HEN : Hid (Rec.encG [] ALL = (W, k, A)) := by
              have hb : Rec.bad (x, t) ≠ 0 := by rw [HX.out.1]; exact hW0
              have := Rec.enc_stop (x, t) (L.drop k) hb A [] hokA (by rw [List.nil_append]; exact hszA)
              rw [List.nil_append, hAl, ← hALL, HX.out.1] at this
              exact this
            have HSZA : Hid (∀ i, i ≤ k → Rec.szF (L.take i) ≤ 131072) := fun i _ => by
              have := Rec.sz_mono (L.take i) (L.drop i)
              rw [List.take_append_drop] at this
              have := HOL.out.2
              omega
            have HTS : Hid (∀ y ∈ ALL, y.2.size ≤ 1125899906842624) := fun y hy => by
              rw [hALL] at hy
              rcases List.mem_append.1 hy with hy | hy
              · have := (Rec.bad_le (hokA y hy)).1
                omega
              · rcases List.mem_cons.1 hy with rfl | hy
                · exact htb
                · have := (Rec.bad_le (HOL.out.1 y (List.mem_of_mem_drop hy))).1
                  omega
            have hAle : ALL.length ≤ 501 := by
              rw [hALL, List.length_append, hAl, List.length_cons, List.length_drop]
              omega
            have hAlt : k < ALL.length := by
              rw [hALL, List.length_append, hAl, List.length_cons]
              omega
            have HGET : Hid (∀ i, i < k → ALL.getD i (0, ⟨#[]⟩) = L.getD i (0, ⟨#[]⟩) ∧ i < ALL.length) := fun i hlt => by
              constructor
              · rw [hALL, List.getD_eq_getElem?_getD, List.getElem?_append_left (by omega), hA, List.getElem?_take, if_pos hlt, List.getD_eq_getElem?_getD]
              · rw [hALL, List.length_append]
                omega
            have HOKA := Hid.mk' hokA
            have HSA := Hid.mk' hszA
            have HAA := Hid.mk' hA
            have HW0 := Hid.mk' hW0
            have hWb : (W : Int) = (W : Int) := rfl
            clear hcut hbx hAl hokA hszA hA hALL hrow7 HR7 HB7 hs7 hWb
            go_wp2_with fail
            refine (encode_any u16 ALL w8 HLA.out (by omega) HTS.out W k A HEN.out ⟨#[]⟩ (by rw [if_neg HW0.out])).mono ?_
            rintro e w9 ⟨rfl, hb9⟩
            have HLA9 := Hid.mk' (HLA.out.below hb9)
            have HB9 : Hid (Below w5.heap.size w5 w9) := below_up HB8.out hb9 (Nat.le_refl _)
            have HH9 : Hid (w9.heap[w2.heap.size]? = some (.cells #[.int .i64 x, .string t] 36 (0, 0))) := (hb9.block _ (Nat.lt_of_lt_of_le HBX.out HB8.out.size)).trans HH8.out
            clear hb9 HLA HB8 HH8
            go_wp2_with fail
            refine (new_any w9).mono ?_
            rintro e w10 ⟨rfl, hd10, hb10⟩
            have HD10 := Hid.mk' hd10
            have HB10 : Hid (Below w9.heap.size w9 w10) := hb10
            obtain ⟨aa, ca, rfl, hcl⟩ : ∃ aa ca, u16 = .slice aa ALL.length ca ∧ ∀ Y, Below w9.heap.size w9 Y → ∀ i, i < k → ∃ q off, aa = some ⟨q, off, none⟩ ∧ Y.cell? ⟨q, off + i * 2, none⟩ = some (.int .i64 (L.getD i (0, ⟨#[]⟩)).1) ∧ Y.cell? ⟨q, off + i * 2 + 1, none⟩ = some (.string (L.getD i (0, ⟨#[]⟩)).2) := by
              obtain ⟨aa, ca, e, hc⟩ := HLA9.out
              refine ⟨aa, ca, e, fun Y hY i hlt => ?_⟩
              obtain ⟨g1, g2⟩ := HGET.out i hlt
              obtain ⟨q, off, e2, hq, hc2⟩ := hc (by omega)
              have := hc2 i g2
              rw [g1] at this
              exact ⟨q, off, e2, (hY.cell (p := ⟨q, off + i * 2, none⟩) hq).trans this.1, (hY.cell (p := ⟨q, off + i * 2 + 1, none⟩) hq).trans this.2⟩
            have HCL := Hid.mk' hcl
            obtain ⟨nA, hnA⟩ : ∃ nA, nA = ALL.length := ⟨_, rfl⟩
            rw [← hnA] at hAle hAlt
            rw [← hnA]
            clear hd10 hb10 hcl
            have HALT := Hid.mk' hAlt
            have hAle2 := hAle
            clear hAle hAlt hnA
            go_wp2_with fail
            go_loopw [21] (fun s21 wr => ∃ i : Nat, s21 = .int .i64 (i : Int) ∧ i ≤ k ∧ Hid (Bdr w9.heap.size w9.heap.size (L.take i) wr ∧ Below w9.heap.size w9 wr)) (fun s21 _ => k - (intOf s21).toNat)
            case atStart => exact ⟨0, rfl, Nat.zero_le _, HD10.out, HB10.out⟩
            case round =>
              obtain ⟨i, rfl, hik, HI⟩ := hrel
              rename World => wr
              by_cases hlt : i < k
              · obtain ⟨q, off, rfl, e0, e1⟩ := HCL.out wr HI.out.2 i hlt
                have hil : i < L.length := by omega
                have hmem : L.getD i (0, ⟨#[]⟩) ∈ L := by
                  rw [List.getD_eq_getElem?_getD, List.getElem?_eq_getElem hil]
                  exact List.getElem_mem _
                have hbd := HOL.out.1 _ hmem
                have htk : L.take (i + 1) = L.take i ++ [L.getD i (0, ⟨#[]⟩)] := by
                  rw [List.take_succ_eq_append_getElem hil, List.getD_eq_getElem?_getD, List.getElem?_eq_getElem hil]
                  rfl
                obtain ⟨x', t', hxt⟩ : ∃ x' t', L.getD i (0, ⟨#[]⟩) = (x', t') := ⟨_, _, rfl⟩
                rw [hxt] at e0 e1 hbd htk
                have ht8 := (Rec.bad_le hbd).1
                have hadd : Rec.addE (L.take i) (x', t') = 0 := by
                  refine Rec.add_ok_ hbd ?_
                  rw [← htk]
                  have := HSZA.out (i + 1) hlt
                  omega
                have HADD := Hid.mk' hadd
                have HTK := Hid.mk' htk
                have HLT := Hid.mk' hlt
                have ht9 : t'.size ≤ 8192 := ht8
                have j0 : (0 : Int) ≤ (i : Int) := by omega
                have j1 : (i : Int) < (k : Int) := by omega
                have j2 : (i : Int) < (nA : Int) := by have := HALT.out; omega
                clear hil hmem hbd htk hxt ht8 hadd hlt hik
                go_wp2_with fail
                refine (add_any HI.out.1 x' t' (by omega) HI.out.2.size).mono ?_
                rintro e w11 ⟨rfl, _, hd11, hb11⟩
                have HD11 := Hid.mk' (hd11 HADD.out)
                have HB11 := Hid.mk' (HI.out.2.trans hb11)
                clear hd11 hb11 e0 e1
                go_wp2_with fail
                go_roundw
                case rel => exact ⟨i + 1, by go_num, HLT.out, by rw [HTK.out]; exact HD11.out, HB11.out⟩
                case measure => have := HLT.out; simp [intOf]; omega
              · obtain rfl : i = k := by omega
                have HD : Hid (Bdr w9.heap.size w9.heap.size A wr) := by rw [HAA.out]; exact HI.out.1
                have hpb : Rec.szF A = (nums (Rec.payF A)).size := by rw [nums_size, Rec.pay_len]
                have HPB := Hid.mk' hpb
                obtain ⟨P, hP⟩ : ∃ P, P = nums (Rec.payF A) := ⟨_, rfl⟩
                have HP := Hid.mk' hP
                have j1 : ¬ (i : Int) < (i : Int) := by omega
                clear hpb hP hlt hik
                go_wp2_with fail
                refine (bytes_any HD.out).mono ?_
                rintro e w11 ⟨rfl, hb11⟩
                rw [← HP.out]
                have HD11 := Hid.mk' (HD.out.below hb11)
                have HB11 : Hid (Below w9.heap.size w9 w11) := below_up HI.out.2 hb11 (Nat.le_refl _)
                have c0 : w11.cell? ⟨w2.heap.size, 0, none⟩ = some (.int .i64 x) := by rw [Lib.cell_of_heap ((HB11.out.block _ (Nat.lt_of_lt_of_le HBX.out HB9.out.size)).trans HH9.out)]; rfl
                have c1 : w11.cell? ⟨w2.heap.size, 1, none⟩ = some (.string t) := by rw [Lib.cell_of_heap ((HB11.out.block _ (Nat.lt_of_lt_of_le HBX.out HB9.out.size)).trans HH9.out)]; rfl
                have HADD : Hid (Rec.addE A (x, t) = W) := by
                  have hb : Rec.bad (x, t) ≠ 0 := by rw [HX.out.1]; exact HW0.out
                  rw [Rec.add_bad_ hb]
                  exact HX.out.1
                clear hb11 HD
                go_wp2_with fail
                refine (add_any HD11.out x t htb HB11.out.size).mono ?_
                rintro e w12 ⟨rfl, hd12, _, hb12⟩
                rw [HADD.out]
                have HD12 := Hid.mk' (hd12 (by rw [HADD.out]; exact HW0.out))
                have HB12 := Hid.mk' (HB11.out.trans hb12)
                clear hd12 hb12 HD11 HB11 c0 c1
                go_wp2_with fail
                refine (bytes_any HD12.out).mono ?_
                rintro e w13 ⟨rfl, hb13⟩
                rw [← HP.out]
                have HD13 := Hid.mk' (HD12.out.below hb13)
                have HB13 : Hid (Below w9.heap.size w9 w13) := below_up HB12.out hb13 (Nat.le_refl _)
                clear hb13 HD12 HB12
                go_wp2_with fail
                refine (blen_any HD13.out).mono ?_
                rintro e w' ⟨rfl, rfl⟩
                rw [HAL.out]
                go_wp2_with fail
                refine (bsize_any HD13.out).mono ?_
                rintro e w14 ⟨rfl, hb14⟩
                have HB14 : Hid (Below w9.heap.size w9 w14) := below_up HB13.out hb14 (Nat.le_refl _)
                rw [HPB.out, ← HP.out]
                clear hb14 HB13
                go_wp2_with fail
                go_ret
                have f1 : Below w.heap.size w w5 := below_up HB2.out HX.out.2.2 (Nat.le_refl _)
                have f2 : Below w.heap.size w w9 := below_up f1 HB9.out (Nat.le_refl _)
                exact ⟨by first | rfl | simp, below_up f2 HB14.out (Nat.le_refl _)⟩
end Go.Proofs.Ytobbobbfmiefeab
