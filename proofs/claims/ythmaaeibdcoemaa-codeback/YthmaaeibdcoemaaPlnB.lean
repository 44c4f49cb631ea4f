/-
  What code.Plain does. Conditions: the text has at most 2^40 bytes.
-/
import Derived.Test.YthmaaeibdcoemaaPln
namespace Go.Proofs.Ythmaaeibdcoemaa
open Go.RowKit
set_option linter.unusedVariables false
def badC (c : Nat) : Bool := decide (64 ≤ Code.num c)
theorem fi_bad (l : List Nat) (i : Nat) (hi : i < l.length) (h : i ≤ l.findIdx badC) (hb : badC (l.getD i 0) = true) : l.findIdx badC = i := by
  by_cases hlt : i < l.findIdx badC
  · have h1 := List.not_of_lt_findIdx hlt
    rw [List.getD_eq_getElem?_getD, List.getElem?_eq_getElem hi, Option.getD_some] at hb
    rw [hb] at h1
    cases h1
  · omega
theorem fi_good (l : List Nat) (i : Nat) (hi : i < l.length) (h : i ≤ l.findIdx badC) (hb : badC (l.getD i 0) = false) : i + 1 ≤ l.findIdx badC := by
  by_cases he : l.findIdx badC = i
  · have h1 := List.findIdx_getElem (p := badC) (xs := l) (w := by rw [he]; exact hi)
    rw [List.getD_eq_getElem?_getD, List.getElem?_eq_getElem hi, Option.getD_some] at hb
    simp only [he] at h1
    rw [hb] at h1
    cases h1
  · omega
def bitsP : Nat → Nat
  | 0 => 0
  | 1 => 6
  | 2 => 4
  | _ => 2
def plnPost (s : ByteArray) (w : World) (e : Ending) (w' : World) : Prop :=
  e = .returned (.tuple #[.string (nums (Code.plain (Sums.bl s)).1), .int .i64 ((Code.plain (Sums.bl s)).2.1 : Int), .int .i64 ((Code.plain (Sums.bl s)).2.2 : Int)]) ∧ Below w.heap.size w w'
theorem plain_bad (l : List Nat) (i : Nat) (hi : i < l.length) (h : l.findIdx badC = i) : Code.plain l = ([], 33, i) := by
  unfold Code.plain
  have e : (l.findIdx fun c => decide (64 ≤ Code.num c)) = i := h
  rw [e, if_pos hi]
theorem plain_short (l : List Nat) (h : l.length ≤ l.findIdx badC) (h1 : l.length % 4 = 1) : Code.plain l = ([], 30, l.length) := by
  unfold Code.plain
  have e : ¬ (l.findIdx fun c => decide (64 ≤ Code.num c)) < l.length := Nat.not_lt.2 h
  rw [if_neg e, if_pos h1]
theorem plain_form (l : List Nat) (h : l.length ≤ l.findIdx badC) (h1 : ¬ l.length % 4 = 1) (h2 : 0 < (Code.pln 0 0 (l.map Code.num)).2) : Code.plain l = ([], 31, l.length - 1) := by
  unfold Code.plain
  have e : ¬ (l.findIdx fun c => decide (64 ≤ Code.num c)) < l.length := Nat.not_lt.2 h
  rw [if_neg e, if_neg h1, if_pos h2]
theorem plain_ok (l : List Nat) (h : l.length ≤ l.findIdx badC) (h1 : ¬ l.length % 4 = 1) (h2 : ¬ 0 < (Code.pln 0 0 (l.map Code.num)).2) : Code.plain l = ((Code.pln 0 0 (l.map Code.num)).1, 0, 0) := by
  unfold Code.plain
  have e : ¬ (l.findIdx fun c => decide (64 ≤ Code.num c)) < l.length := Nat.not_lt.2 h
  rw [if_neg e, if_neg h1, if_neg h2]
theorem map_drop (s : ByteArray) (i c : Nat) (h : (Sums.bl s).drop i = c :: (Sums.bl s).drop (i + 1)) : ((Sums.bl s).map Code.num).drop i = Code.num c :: ((Sums.bl s).map Code.num).drop (i + 1) := by
  rw [← List.map_drop, h, List.map_cons, List.map_drop]
theorem ret_tup3 {a b c d e f : Value} (h : a = b) (h2 : c = d) (h3 : e = f) : Ending.returned (.tuple #[a, c, e]) = .returned (.tuple #[b, d, f]) := by rw [h, h2, h3]
set_option maxRecDepth 100000 in
set_option maxHeartbeats 4000000 in
theorem plain_any (s : ByteArray) (w : World) (hs : s.size ≤ 1099511627776) :
    Calls Try.prog 19 #[.string s] w (plnPost s w) := by
  obtain ⟨i0, hi, hz0, hz1, hz2⟩ := info_parts infoB
  have hs2 : (s.size : Int) ≤ 1099511627776 := by omega
  have HS := Hid.mk' hs
  obtain ⟨q, HQ⟩ : ∃ q, Hid (q = s.size * 6 / 8) := ⟨_, Hid.mk' rfl⟩
  go_enter Try.func19, Try.ntmps19
  go_wp2_with (first | (at_make; refine wpList_make_own _ rfl _ _ 64 rfl w.heap.size 5 i0 (.int .u8 0) 1 Try.underlying64 hi hz0 hz1 .i64 .i64 _ q rfl rfl (by have := HQ.out; omega) (by rw [hz2]; have := HQ.out; omega) (by unfold maxLen; have := HQ.out; omega) (Nat.le_refl _) ?_; intro w1 hownA hgrow) | fail)
  have HB1 : Hid (Below w.heap.size w w1) := (Below.refl _ _).grown hgrow (Nat.le_refl _) (fun k hk => by cases hk)
  have hlt : Hid (w.heap.size < w1.heap.size) := by
    rcases hownA.2 with ⟨h', _⟩ | ⟨g', cap', cur, h', _, hg', _⟩
    · simp at h'
    · simp only [Value.slice.injEq, Option.some.injEq, Addr.mk.injEq, and_true, true_and] at h'
      rw [h'.1]
      exact (Array.getElem?_eq_some_iff.1 hg').1
  obtain ⟨w2, hw2⟩ : ∃ w2, w2 = w1.alloc (.cells #[.int .u32 0, .int .i64 0] 73) := ⟨_, rfl⟩
  obtain ⟨g, HG⟩ : ∃ g, Hid (g = w1.heap.size) := ⟨_, Hid.mk' rfl⟩
  have HB2 : Hid (Below w.heap.size w w2) := by rw [hw2]; exact HB1.out.alloc HB1.out.size _
  have HO2 : Hid (w2.ownsRow w.heap.size 5 1 (.slice (some ⟨w.heap.size, 0, none⟩) 0 q) 0 (byv [])) := by rw [hw2]; exact hownA.alloc _
  have HT2 : Hid (Wt g 0 0 w2) := ⟨0, by decide, by decide, by rw [hw2, HG.out]; exact heap_alloc_new w1 _⟩
  have hgb : Hid (w.heap.size ≤ g) := by unfold Hid; have := HG.out; have := hlt.out; omega
  have HW2 := Hid.mk' hw2
  clear hownA hgrow hw2 hs
  rw [← HW2.out, ← HG.out]
  clear HW2 HG HB1 hlt
  go_loopw [5, 16] (fun o' i' wr => ∃ (i r v : Nat) (out : List Nat), i' = .int .i64 (i : Int) ∧ i ≤ s.size ∧ (r = 0 ∨ r = 1 ∨ r = 2 ∨ r = 3) ∧ r = i % 4 ∧ v < Code.widp r ∧ i ≤ (Sums.bl s).findIdx badC ∧ out ++ (Code.pln r v (((Sums.bl s).map Code.num).drop i)).1 = (Code.pln 0 0 ((Sums.bl s).map Code.num)).1 ∧ (Code.pln r v (((Sums.bl s).map Code.num).drop i)).2 = (Code.pln 0 0 ((Sums.bl s).map Code.num)).2 ∧ out.length ≤ i ∧ wr.ownsRow w.heap.size 5 1 o' out.length (byv out) ∧ Wt g v (bitsP r) wr ∧ Below w.heap.size w wr) (fun _ i' _ => s.size - (intOf i').toNat)
  case atStart => exact ⟨0, 0, 0, [], rfl, by omega, .inl rfl, rfl, by decide, by omega, rfl, rfl, by simp, HO2.out, HT2.out, HB2.out⟩
  case round =>
    obtain ⟨i, r, v, out, rfl, hi', hr, hri, hv, hfi, hout, hrest, hol, hown, hwt, hb⟩ := hrel
    have HI := Hid.mk' hi'
    have HRI := Hid.mk' hri
    have HV := Hid.mk' hv
    have HFI := Hid.mk' hfi
    have HOUT := Hid.mk' hout
    have HREST := Hid.mk' hrest
    have HOL := Hid.mk' hol
    have HOWN := Hid.mk' hown
    have HWT := Hid.mk' hwt
    have HB := Hid.mk' hb
    have HLN : Hid ((Sums.bl s).length = s.size) := Sums.bl_length s
    clear hi' hri hv hfi hout hrest hol hown hwt hb HO2 HT2 HB2
    by_cases hlt : i < s.size
    · have n0 : (0 : Int) ≤ (i : Int) := by omega
      have n1 : (i : Int) < (s.size : Int) := by omega
      obtain ⟨c, HC⟩ : ∃ c, Hid (c = (Sums.bl s).getD i 0) := ⟨_, Hid.mk' rfl⟩
      have HC2 := Hid.mk' (Sums.bl_get s i hlt)
      have HC256 : Hid (c < 256) := by rw [HC.out]; exact bl_lt _ _
      have HL := Hid.mk' hlt
      have HD : Hid (((Sums.bl s).map Code.num).drop i = Code.num c :: ((Sums.bl s).map Code.num).drop (i + 1)) := map_drop s i c (by rw [HC.out]; exact drop_cons s i hlt)
      go_wp2_with fail
      rw [← HC2.out, ← HC.out]
      clear HC2
      refine (index_any c wr HC256.out).mono ?_
      rintro e w3 ⟨rfl, rfl⟩
      by_cases hbad : 64 ≤ Code.num c
      · have hni : numI c = -1 := by unfold numI; rw [if_neg (by omega)]
        have HP : Hid (Code.plain (Sums.bl s) = ([], 33, i)) := plain_bad _ _ (by rw [HLN.out]; exact HL.out) (fi_bad _ _ (by rw [HLN.out]; exact HL.out) HFI.out (by rw [← HC.out]; exact decide_eq_true hbad))
        rw [hni]
        clear hbad hni hlt
        go_wp2_with fail
        go_ret3
        unfold plnPost
        rw [HP.out]
        exact ⟨rfl, HB.out⟩
      · obtain ⟨x, HX⟩ : ∃ x, Hid (x = Code.num c) := ⟨_, Hid.mk' rfl⟩
        have hni : numI c = (x : Int) := by unfold numI; rw [if_pos (by omega), HX.out]
        have HX64 : Hid (x < 64) := by rw [HX.out]; exact Nat.lt_of_not_le hbad
        have HFI2 : Hid (i + 1 ≤ (Sums.bl s).findIdx badC) := fi_good _ _ (by rw [HLN.out]; exact HL.out) HFI.out (by rw [← HC.out]; exact decide_eq_false hbad)
        rw [← HX.out] at HD
        have x0 : (0 : Int) ≤ (x : Int) := by omega
        have x1 : (x : Int) < 64 := by have := HX64.out; omega
        rw [hni]
        clear hbad hni hlt
        go_wp2_with fail
        refine (put6 g v (bitsP r) x w3 HWT.out (by rcases hr with rfl | rfl | rfl | rfl <;> decide) HX64.out).mono ?_
        rintro e w4 ⟨rfl, hwt4, ho4⟩
        have HOWN4 : Hid (w4.ownsRow w.heap.size 5 1 u5 out.length (byv out)) := row_only HOWN.out ho4 HWT.out
        have HB4 : Hid (Below w.heap.size w w4) := HB.out.trans (ho4.below hgb.out HB.out.size)
        have c4 := hwt4.c1
        have HWT4 := Hid.mk' hwt4
        clear hwt4 ho4 HOWN HWT HB HC HX
        rcases hr with rfl | rfl | rfl | rfl
        · have v0 : v = 0 := by have : v < 1 := HV.out; omega
          subst v0
          simp only [bitsP, Nat.zero_add, Int.cast_ofNat_Int] at c4
          go_wp2_with fail
          go_roundw
          case rel =>
            refine ⟨i + 1, 1, x, out, by go_num, HL.out, by omega, by have := HRI.out; omega, HX64.out, HFI2.out, ?_, ?_, by have := HOL.out; omega, HOWN4.out, ?_, HB4.out⟩
            · have ho := HOUT.out
              rw [HD.out] at ho
              exact ho
            · have ho := HREST.out
              rw [HD.out] at ho
              exact ho
            · have h := HWT4.out
              rw [Nat.zero_mul, Nat.zero_add] at h
              exact h
          case measure => have := HL.out; simp [intOf]; omega
        · have HV2 : Hid (v < 64) := HV.out
          simp only [bitsP, Nat.reduceAdd, Int.cast_ofNat_Int] at c4
          go_wp2_with fail
          refine (take8 g (v * 64 + x) _ 4 w4 HWT4.out (by omega) (by decide)).mono ?_
          rintro e w5 ⟨rfl, hwt5, ho5⟩
          obtain ⟨y, HY⟩ : ∃ y : Nat, Hid (y = (v * 64 + x) / 2 ^ 4) := ⟨_, Hid.mk' rfl⟩
          have HY256 : Hid (y < 256) := by unfold Hid; rw [HY.out]; refine Nat.div_lt_of_lt_mul ?_; have := HX64.out; have := HV2.out; simp only [Nat.reducePow, Nat.reduceMul]; omega
          rw [← HY.out]
          have y1 : (y : Int) < 256 := by have := HY256.out; omega
          have hown5 : w5.ownsRow w.heap.size 5 1 u5 out.length (byv out) := row_only HOWN4.out ho5 HWT4.out
          have HB5 : Hid (Below w.heap.size w w5) := HB4.out.trans (ho5.below hgb.out HB4.out.size)
          have HWT5 := Hid.mk' hwt5
          have hol : out.length + 1 ≤ 1099511627777 := by have := HOL.out; have := HI.out; have := HS.out; omega
          clear hwt5 ho5
          go_wp2_with (first | (at_builtin; refine wpList_append_own _ rfl _ _ 64 rfl w.heap.size 5 i0 (.int .u8 0) 1 1 Try.underlying64 hi hz0 hz1 hz2 rfl (by decide) _ _ _ rfl (hown5.alloc _) ⟨w5.heap.size, 0, none⟩ 1 1 [.int .u8 (y : Int)] rfl rfl (cell_one_new _ _ _) (by simp [Value.oneCell']) (by unfold maxLen; omega) (by omega) (by have := HB5.out.size; simp; omega) ?_; intro v' w6 hown' hgrow _; have R2 := Hid.mk' (own_rel HB5.out.size hown5 HB5.out hgrow); have R3 := Hid.mk' (HWT5.out.grown hown5 hgrow); have R1 := Hid.mk' hown'; clear hown' hgrow hown5 hol) | fail)
          go_roundw
          case rel =>
            refine ⟨i + 1, 2, (v * 64 + x) % 16, out ++ [y], by go_num, HL.out, by omega, by have := HRI.out; omega, ?_, HFI2.out, ?_, ?_, by have := HOL.out; simp; omega, ?_, ?_, R2.out⟩
            · show _ < 16
              omega
            · have ho := HOUT.out
              rw [HD.out] at ho
              rw [← ho, List.append_assoc, HY.out]
              rfl
            · have ho := HREST.out
              rw [HD.out] at ho
              exact ho
            · rw [byv_append, List.length_append]
              exact R1.out
            · have h := R3.out
              skip
              exact h
          case measure => have := HL.out; simp [intOf]; omega
        · have HV2 : Hid (v < 16) := HV.out
          simp only [bitsP, Nat.reduceAdd, Int.cast_ofNat_Int] at c4
          go_wp2_with fail
          refine (take8 g (v * 64 + x) _ 2 w4 HWT4.out (by omega) (by decide)).mono ?_
          rintro e w5 ⟨rfl, hwt5, ho5⟩
          obtain ⟨y, HY⟩ : ∃ y : Nat, Hid (y = (v * 64 + x) / 2 ^ 2) := ⟨_, Hid.mk' rfl⟩
          have HY256 : Hid (y < 256) := by unfold Hid; rw [HY.out]; refine Nat.div_lt_of_lt_mul ?_; have := HX64.out; have := HV2.out; simp only [Nat.reducePow, Nat.reduceMul]; omega
          rw [← HY.out]
          have y1 : (y : Int) < 256 := by have := HY256.out; omega
          have hown5 : w5.ownsRow w.heap.size 5 1 u5 out.length (byv out) := row_only HOWN4.out ho5 HWT4.out
          have HB5 : Hid (Below w.heap.size w w5) := HB4.out.trans (ho5.below hgb.out HB4.out.size)
          have HWT5 := Hid.mk' hwt5
          have hol : out.length + 1 ≤ 1099511627777 := by have := HOL.out; have := HI.out; have := HS.out; omega
          clear hwt5 ho5
          go_wp2_with (first | (at_builtin; refine wpList_append_own _ rfl _ _ 64 rfl w.heap.size 5 i0 (.int .u8 0) 1 1 Try.underlying64 hi hz0 hz1 hz2 rfl (by decide) _ _ _ rfl (hown5.alloc _) ⟨w5.heap.size, 0, none⟩ 1 1 [.int .u8 (y : Int)] rfl rfl (cell_one_new _ _ _) (by simp [Value.oneCell']) (by unfold maxLen; omega) (by omega) (by have := HB5.out.size; simp; omega) ?_; intro v' w6 hown' hgrow _; have R2 := Hid.mk' (own_rel HB5.out.size hown5 HB5.out hgrow); have R3 := Hid.mk' (HWT5.out.grown hown5 hgrow); have R1 := Hid.mk' hown'; clear hown' hgrow hown5 hol) | fail)
          go_roundw
          case rel =>
            refine ⟨i + 1, 3, (v * 64 + x) % 4, out ++ [y], by go_num, HL.out, by omega, by have := HRI.out; omega, ?_, HFI2.out, ?_, ?_, by have := HOL.out; simp; omega, ?_, ?_, R2.out⟩
            · show _ < 4
              omega
            · have ho := HOUT.out
              rw [HD.out] at ho
              rw [← ho, List.append_assoc, HY.out]
              rfl
            · have ho := HREST.out
              rw [HD.out] at ho
              exact ho
            · rw [byv_append, List.length_append]
              exact R1.out
            · have h := R3.out
              skip
              exact h
          case measure => have := HL.out; simp [intOf]; omega
        · have HV2 : Hid (v < 4) := HV.out
          simp only [bitsP, Nat.reduceAdd, Int.cast_ofNat_Int] at c4
          go_wp2_with fail
          refine (take8 g (v * 64 + x) _ 0 w4 HWT4.out (by omega) (by decide)).mono ?_
          rintro e w5 ⟨rfl, hwt5, ho5⟩
          obtain ⟨y, HY⟩ : ∃ y : Nat, Hid (y = (v * 64 + x) / 2 ^ 0) := ⟨_, Hid.mk' rfl⟩
          have HY256 : Hid (y < 256) := by unfold Hid; rw [HY.out]; refine Nat.div_lt_of_lt_mul ?_; have := HX64.out; have := HV2.out; simp only [Nat.reducePow, Nat.reduceMul]; omega
          rw [← HY.out]
          have y1 : (y : Int) < 256 := by have := HY256.out; omega
          have hown5 : w5.ownsRow w.heap.size 5 1 u5 out.length (byv out) := row_only HOWN4.out ho5 HWT4.out
          have HB5 : Hid (Below w.heap.size w w5) := HB4.out.trans (ho5.below hgb.out HB4.out.size)
          have HWT5 := Hid.mk' hwt5
          have hol : out.length + 1 ≤ 1099511627777 := by have := HOL.out; have := HI.out; have := HS.out; omega
          clear hwt5 ho5
          go_wp2_with (first | (at_builtin; refine wpList_append_own _ rfl _ _ 64 rfl w.heap.size 5 i0 (.int .u8 0) 1 1 Try.underlying64 hi hz0 hz1 hz2 rfl (by decide) _ _ _ rfl (hown5.alloc _) ⟨w5.heap.size, 0, none⟩ 1 1 [.int .u8 (y : Int)] rfl rfl (cell_one_new _ _ _) (by simp [Value.oneCell']) (by unfold maxLen; omega) (by omega) (by have := HB5.out.size; simp; omega) ?_; intro v' w6 hown' hgrow _; have R2 := Hid.mk' (own_rel HB5.out.size hown5 HB5.out hgrow); have R3 := Hid.mk' (HWT5.out.grown hown5 hgrow); have R1 := Hid.mk' hown'; clear hown' hgrow hown5 hol) | fail)
          go_roundw
          case rel =>
            refine ⟨i + 1, 0, 0, out ++ [y], by go_num, HL.out, by omega, by have := HRI.out; omega, ?_, HFI2.out, ?_, ?_, by have := HOL.out; simp; omega, ?_, ?_, R2.out⟩
            · show _ < 1
              omega
            · have ho := HOUT.out
              rw [HD.out] at ho
              rw [← ho, List.append_assoc, HY.out]
              rw [Nat.pow_zero, Nat.div_one]
              rfl
            · have ho := HREST.out
              rw [HD.out] at ho
              exact ho
            · rw [byv_append, List.length_append]
              exact R1.out
            · have h := R3.out
              rw [Nat.pow_zero, Nat.mod_one] at h
              exact h
          case measure => have := HL.out; simp [intOf]; omega
    · have hge : ¬ (i : Int) < (s.size : Int) := by omega
      have he : i = s.size := by have := HI.out; omega
      have HFE : Hid ((Sums.bl s).length ≤ (Sums.bl s).findIdx badC) := by unfold Hid; rw [HLN.out, ← he]; exact HFI.out
      have hd : ((Sums.bl s).map Code.num).drop i = [] := List.drop_eq_nil_of_le (by rw [List.length_map, HLN.out]; omega)
      rw [hd] at HOUT HREST
      have HOUT2 : Hid (out = (Code.pln 0 0 ((Sums.bl s).map Code.num)).1) := by
        unfold Hid
        rw [← HOUT.out]
        rcases hr with rfl | rfl | rfl | rfl <;> simp [Code.pln]
      have HREST2 : Hid (v = (Code.pln 0 0 ((Sums.bl s).map Code.num)).2) := by
        unfold Hid
        rw [← HREST.out]
        rcases hr with rfl | rfl | rfl | rfl <;> simp [Code.pln]
      subst he
      clear hlt hd HOUT HREST
      rcases hr with rfl | rfl | rfl | rfl
      · have HV2 : Hid (v < 1) := HV.out
        have c1 := HWT.out.c1
        simp only [bitsP, Int.cast_ofNat_Int] at c1
        have h4 : (((s.size : Int) % 4) == 1) = false := beq_eq_false_iff_ne.2 (by have := HRI.out; omega)
        have HN1 : Hid (¬ (Sums.bl s).length % 4 = 1) := by unfold Hid; rw [HLN.out]; have := HRI.out; omega
        go_wp2_with fail
        refine (take_zero g v wr HWT.out).mono ?_
        rintro e w4 ⟨rfl, ho4⟩
        have hown4 : w4.ownsRow w.heap.size 5 1 u5 out.length (byv out) := row_only HOWN.out ho4 HWT.out
        have HB4 : Hid (Below w.heap.size w w4) := HB.out.trans (ho4.below hgb.out HB.out.size)
        have hcv := conv_own w.heap.size _ out w4 _ rfl hown4
        clear ho4 hown4
        have HP : Hid (Code.plain (Sums.bl s) = (out, 0, 0)) := by
          unfold Hid
          rw [plain_ok _ HFE.out HN1.out (by rw [← HREST2.out]; have := HV2.out; omega), HOUT2.out]
        go_wp2_with fail
        go_ret3
        unfold plnPost
        rw [HP.out]
        exact ⟨rfl, HB4.out⟩
      · have HP : Hid (Code.plain (Sums.bl s) = ([], 30, s.size)) := by
          unfold Hid
          rw [plain_short _ HFE.out (by rw [HLN.out]; have := HRI.out; omega), HLN.out]
        have h4 : (((s.size : Int) % 4) == 1) = true := beq_iff_eq.2 (by have := HRI.out; omega)
        go_wp2_with fail
        go_ret3
        unfold plnPost
        rw [HP.out]
        exact ⟨rfl, HB.out⟩
      · have HV2 : Hid (v < 16) := HV.out
        have c1 := HWT.out.c1
        simp only [bitsP, Int.cast_ofNat_Int] at c1
        have h4 : (((s.size : Int) % 4) == 1) = false := beq_eq_false_iff_ne.2 (by have := HRI.out; omega)
        have HN1 : Hid (¬ (Sums.bl s).length % 4 = 1) := by unfold Hid; rw [HLN.out]; have := HRI.out; omega
        go_wp2_with fail
        refine (take4 g v wr HWT.out).mono ?_
        rintro e w4 ⟨rfl, ho4⟩
        have hown4 : w4.ownsRow w.heap.size 5 1 u5 out.length (byv out) := row_only HOWN.out ho4 HWT.out
        have HB4 : Hid (Below w.heap.size w w4) := HB.out.trans (ho4.below hgb.out HB.out.size)
        have hcv := conv_own w.heap.size _ out w4 _ rfl hown4
        clear ho4 hown4
        by_cases hv0 : v = 0
        · have HP : Hid (Code.plain (Sums.bl s) = (out, 0, 0)) := by
            unfold Hid
            rw [plain_ok _ HFE.out HN1.out (by rw [← HREST2.out]; omega), HOUT2.out]
          have e0 : (v : Int) = 0 := by omega
          rw [e0]
          clear hv0 e0
          go_wp2_with fail
          go_ret3
          unfold plnPost
          rw [HP.out]
          exact ⟨rfl, HB4.out⟩
        · have HP : Hid (Code.plain (Sums.bl s) = ([], 31, s.size - 1)) := by
            unfold Hid
            rw [plain_form _ HFE.out HN1.out (by rw [← HREST2.out]; omega), HLN.out]
          have p0 : decide ((0 : Int) < (v : Int)) = true := decide_eq_true (by omega)
          have p1 : 0 < v := by omega
          have HS1 : Hid (1 ≤ s.size) := by unfold Hid; have := HRI.out; omega
          clear hv0 hcv
          go_wp2_with fail
          go_ret3
          unfold plnPost
          rw [HP.out]
          refine ⟨ret_tup3 rfl rfl (val_int ?_), HB4.out⟩
          have := HS1.out
          show (s.size : Int) - 1 = ((s.size - 1 : Nat) : Int)
          omega
      · have HV2 : Hid (v < 4) := HV.out
        have c1 := HWT.out.c1
        simp only [bitsP, Int.cast_ofNat_Int] at c1
        have h4 : (((s.size : Int) % 4) == 1) = false := beq_eq_false_iff_ne.2 (by have := HRI.out; omega)
        have HN1 : Hid (¬ (Sums.bl s).length % 4 = 1) := by unfold Hid; rw [HLN.out]; have := HRI.out; omega
        go_wp2_with fail
        refine (take2 g v wr HWT.out).mono ?_
        rintro e w4 ⟨rfl, ho4⟩
        have hown4 : w4.ownsRow w.heap.size 5 1 u5 out.length (byv out) := row_only HOWN.out ho4 HWT.out
        have HB4 : Hid (Below w.heap.size w w4) := HB.out.trans (ho4.below hgb.out HB.out.size)
        have hcv := conv_own w.heap.size _ out w4 _ rfl hown4
        clear ho4 hown4
        by_cases hv0 : v = 0
        · have HP : Hid (Code.plain (Sums.bl s) = (out, 0, 0)) := by
            unfold Hid
            rw [plain_ok _ HFE.out HN1.out (by rw [← HREST2.out]; omega), HOUT2.out]
          have e0 : (v : Int) = 0 := by omega
          rw [e0]
          clear hv0 e0
          go_wp2_with fail
          go_ret3
          unfold plnPost
          rw [HP.out]
          exact ⟨rfl, HB4.out⟩
        · have HP : Hid (Code.plain (Sums.bl s) = ([], 31, s.size - 1)) := by
            unfold Hid
            rw [plain_form _ HFE.out HN1.out (by rw [← HREST2.out]; omega), HLN.out]
          have p0 : decide ((0 : Int) < (v : Int)) = true := decide_eq_true (by omega)
          have p1 : 0 < v := by omega
          have HS1 : Hid (1 ≤ s.size) := by unfold Hid; have := HRI.out; omega
          clear hv0 hcv
          go_wp2_with fail
          go_ret3
          unfold plnPost
          rw [HP.out]
          refine ⟨ret_tup3 rfl rfl (val_int ?_), HB4.out⟩
          have := HS1.out
          show (s.size : Int) - 1 = ((s.size - 1 : Nat) : Int)
          omega
end Go.Proofs.Ythmaaeibdcoemaa
