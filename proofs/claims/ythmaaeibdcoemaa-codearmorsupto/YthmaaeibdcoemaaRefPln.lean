/-
  What the document's value and Plain do. Conditions: the text has at most 2^40 bytes.
-/
import Derived.Test.YthmaaeibdcoemaaRefArm
namespace Go.Proofs.Ythmaaeibdcoemaa
open Go.RowKit
set_option linter.unusedVariables false
theorem fi_hit (p : Nat → Bool) (l : List Nat) (i : Nat) (hi : i < l.length) (h : i ≤ l.findIdx p) (hb : p (l.getD i 0) = true) : l.findIdx p = i := by
  by_cases hlt : i < l.findIdx p
  · have h1 := List.not_of_lt_findIdx hlt
    rw [List.getD_eq_getElem?_getD, List.getElem?_eq_getElem hi, Option.getD_some] at hb
    rw [hb] at h1
    cases h1
  · omega
theorem fi_miss (p : Nat → Bool) (l : List Nat) (i : Nat) (hi : i < l.length) (h : i ≤ l.findIdx p) (hb : p (l.getD i 0) = false) : i + 1 ≤ l.findIdx p := by
  by_cases he : l.findIdx p = i
  · have h1 := List.findIdx_getElem (p := p) (xs := l) (w := by rw [he]; exact hi)
    rw [List.getD_eq_getElem?_getD, List.getElem?_eq_getElem hi, Option.getD_some] at hb
    simp only [he] at h1
    rw [hb] at h1
    cases h1
  · omega
theorem num_hit (i c : Nat) (hi : i < 64) (h : i ≤ Code.num c) (hc : Code.ch i = c) : Code.num c = i :=
  fi_hit (fun x => x == c) Code.tab i hi h (by show (Code.ch i == c) = true; rw [hc]; exact beq_self_eq_true c)
theorem num_miss (i c : Nat) (hi : i < 64) (h : i ≤ Code.num c) (hc : Code.ch i ≠ c) : i + 1 ≤ Code.num c :=
  fi_miss (fun x => x == c) Code.tab i hi h (beq_eq_false_iff_ne.2 hc)
set_option maxRecDepth 100000 in
set_option maxHeartbeats 1000000 in
theorem value_any (c : Nat) (w : World) (hc : c < 256) :
    Calls Try.prog 44 #[.int .u8 (c : Int)] w fun e w' => e = .returned (.int .i64 (numI c)) ∧ w' = w := by
  have c1 : (c : Int) < 256 := by omega
  go_enter Try.func44, Try.ntmps44
  go_wp2_with fail
  go_loop [3] (fun i' => ∃ i : Nat, i' = .int .i64 (i : Int) ∧ i ≤ 64 ∧ i ≤ Code.num c) (fun i' => 64 - (intOf i').toNat)
  case atStart => exact ⟨0, rfl, by omega, by omega⟩
  case round =>
    obtain ⟨i, rfl, hi, hn⟩ := hrel
    by_cases hlt : i < 64
    · have hi2 : (i : Int) < 64 := by omega
      have hidx := idx_tab2 i hlt
      obtain ⟨x, HX⟩ : ∃ x, Hid (x = Code.ch i) := ⟨_, Hid.mk' rfl⟩
      rw [← HX.out] at hidx
      have HL := Hid.mk' hlt
      have HN := Hid.mk' hn
      clear hlt hi hn hc
      by_cases he : x = c
      · have HNI : Hid (numI c = (i : Int)) := by
          unfold Hid numI
          rw [num_hit i c HL.out HN.out (by rw [← HX.out]; exact he), if_pos HL.out]
        have he2 : ((x : Int) == (c : Int)) = true := beq_iff_eq.2 (by omega)
        clear he
        go_wp2_with fail
        go_ret
        exact ⟨ret_int HNI.out.symm, rfl⟩
      · have HN2 : Hid (i + 1 ≤ Code.num c) := num_miss i c HL.out HN.out (by rw [← HX.out]; exact he)
        have he2 : ((x : Int) == (c : Int)) = false := beq_eq_false_iff_ne.2 (by omega)
        clear he
        go_wp2_with fail
        go_round
        case rel => exact ⟨i + 1, by go_num, HL.out, HN2.out⟩
        case measure => have := HL.out; simp [intOf]; omega
    · obtain rfl : i = 64 := by omega
      have HNI : Hid (numI c = -1) := by unfold Hid numI; rw [if_neg (by omega)]
      clear hn hlt hi
      go_wp2_with fail
      go_ret
      exact ⟨ret_int HNI.out.symm, rfl⟩
set_option maxRecDepth 100000 in
set_option maxHeartbeats 4000000 in
theorem refPlain_any (s : ByteArray) (w : World) (hs : s.size ≤ 1099511627776) :
    Calls Try.prog 20 #[.string s] w (plnPost s w) := by
  obtain ⟨i0, hi, hz0, hz1, hz2⟩ := info_parts infoB
  have hs2 : (s.size : Int) ≤ 1099511627776 := by omega
  have HS := Hid.mk' hs
  clear hs
  go_enter Try.func20, Try.ntmps20
  go_wp2_with fail
  go_loopw [5, 6, 7, 8] (fun o' n' h' i' wr => ∃ (i r v : Nat) (out : List Nat), i' = .int .i64 (i : Int) ∧ n' = .int .i64 (v : Int) ∧ h' = .int .i64 ((bitsP r : Nat) : Int) ∧ i ≤ s.size ∧ (r = 0 ∨ r = 1 ∨ r = 2 ∨ r = 3) ∧ r = i % 4 ∧ v < Code.widp r ∧ i ≤ (Sums.bl s).findIdx badC ∧ out ++ (Code.pln r v (((Sums.bl s).map Code.num).drop i)).1 = (Code.pln 0 0 ((Sums.bl s).map Code.num)).1 ∧ (Code.pln r v (((Sums.bl s).map Code.num).drop i)).2 = (Code.pln 0 0 ((Sums.bl s).map Code.num)).2 ∧ out.length ≤ i ∧ wr.ownsRow w.heap.size 5 1 o' out.length (byv out) ∧ Below w.heap.size w wr) (fun _ _ _ i' _ => s.size - (intOf i').toNat)
  case atStart => exact ⟨0, 0, 0, [], rfl, rfl, rfl, by omega, .inl rfl, rfl, by decide, by omega, rfl, rfl, by simp, World.ownsRow_nil _ _ _ _, Below.refl _ _⟩
  case round =>
    obtain ⟨i, r, v, out, rfl, rfl, rfl, hi', hr, hri, hv, hfi, hout, hrest, hol, hown, hb⟩ := hrel
    have HI := Hid.mk' hi'
    have HRI := Hid.mk' hri
    have HV := Hid.mk' hv
    have HFI := Hid.mk' hfi
    have HOUT := Hid.mk' hout
    have HREST := Hid.mk' hrest
    have HOL := Hid.mk' hol
    have HOWN := Hid.mk' hown
    have HB := Hid.mk' hb
    have HLN : Hid ((Sums.bl s).length = s.size) := Sums.bl_length s
    clear hi' hri hv hfi hout hrest hol hown hb
    by_cases hlt : i < s.size
    · have n1 : (i : Int) < (s.size : Int) := by omega
      obtain ⟨c, HC⟩ : ∃ c, Hid (c = (Sums.bl s).getD i 0) := ⟨_, Hid.mk' rfl⟩
      have HC256 : Hid (c < 256) := by rw [HC.out]; exact bl_lt _ _
      have HL := Hid.mk' hlt
      have HD : Hid (((Sums.bl s).map Code.num).drop i = Code.num c :: ((Sums.bl s).map Code.num).drop (i + 1)) := map_drop s i c (by rw [HC.out]; exact drop_cons s i hlt)
      have hidx := idx_any s i c hlt HC.out
      clear hlt
      go_wp2_with fail
      refine (value_any c wr HC256.out).mono ?_
      rintro e w3 ⟨rfl, rfl⟩
      by_cases hbad : 64 ≤ Code.num c
      · have hni : numI c = -1 := by unfold numI; rw [if_neg (by omega)]
        have HP : Hid (Code.plain (Sums.bl s) = ([], 33, i)) := plain_bad _ _ (by rw [HLN.out]; exact HL.out) (fi_bad _ _ (by rw [HLN.out]; exact HL.out) HFI.out (by rw [← HC.out]; exact decide_eq_true hbad))
        rw [hni]
        clear hbad hni
        go_wp2_with fail
        go_ret3
        unfold plnPost
        rw [HP.out]
        exact ⟨rfl, HB.out⟩
      · obtain ⟨d, HX⟩ : ∃ x, Hid (x = Code.num c) := ⟨_, Hid.mk' rfl⟩
        have hni : numI c = (d : Int) := by unfold numI; rw [if_pos (by omega), HX.out]
        have HX64 : Hid (d < 64) := by rw [HX.out]; exact Nat.lt_of_not_le hbad
        have HFI2 : Hid (i + 1 ≤ (Sums.bl s).findIdx badC) := fi_good _ _ (by rw [HLN.out]; exact HL.out) HFI.out (by rw [← HC.out]; exact decide_eq_false hbad)
        rw [← HX.out] at HD
        rw [hni]
        clear hbad hni HC256 HC hidx HX
        have c0 : (0 : Int) ≤ (d : Int) := by omega
        have c1 : (d : Int) < 64 := by have := HX64.out; omega
        rcases hr with rfl | rfl | rfl | rfl
        · have v0 : v = 0 := by have : v < 1 := HV.out; omega
          subst v0
          simp only [bitsP, Int.cast_ofNat_Int]
          go_wp2_with fail
          refine wp_loop_rounds 7 ?_
          rw [rounds_succ]
          go_wp2_with fail
          obtain ⟨m1, Hm1⟩ : ∃ x : Nat, Hid (x = d / 32 % 2) := ⟨_, Hid.mk' rfl⟩
          have bm1 : (m1 : Int) < 2 := by have := Hm1.out; omega
          rw [show (d : Int) / 32 % 2 = (m1 : Int) by have := Hm1.out; omega]
          rw [rounds_succ]
          go_wp2_with fail
          obtain ⟨m2, Hm2⟩ : ∃ x : Nat, Hid (x = 2 * m1 + d / 16 % 2) := ⟨_, Hid.mk' rfl⟩
          have bm2 : (m2 : Int) < 4 := by have := Hm2.out; omega
          rw [show 2 * (m1 : Int) + (d : Int) / 16 % 2 = (m2 : Int) by have := Hm2.out; omega]
          rw [rounds_succ]
          go_wp2_with fail
          obtain ⟨m3, Hm3⟩ : ∃ x : Nat, Hid (x = 2 * m2 + d / 8 % 2) := ⟨_, Hid.mk' rfl⟩
          have bm3 : (m3 : Int) < 8 := by have := Hm3.out; omega
          rw [show 2 * (m2 : Int) + (d : Int) / 8 % 2 = (m3 : Int) by have := Hm3.out; omega]
          rw [rounds_succ]
          go_wp2_with fail
          obtain ⟨m4, Hm4⟩ : ∃ x : Nat, Hid (x = 2 * m3 + d / 4 % 2) := ⟨_, Hid.mk' rfl⟩
          have bm4 : (m4 : Int) < 16 := by have := Hm4.out; omega
          rw [show 2 * (m3 : Int) + (d : Int) / 4 % 2 = (m4 : Int) by have := Hm4.out; omega]
          rw [rounds_succ]
          go_wp2_with fail
          obtain ⟨m5, Hm5⟩ : ∃ x : Nat, Hid (x = 2 * m4 + d / 2 % 2) := ⟨_, Hid.mk' rfl⟩
          have bm5 : (m5 : Int) < 32 := by have := Hm5.out; omega
          rw [show 2 * (m4 : Int) + (d : Int) / 2 % 2 = (m5 : Int) by have := Hm5.out; omega]
          rw [rounds_succ]
          go_wp2_with fail
          obtain ⟨m6, Hm6⟩ : ∃ x : Nat, Hid (x = 2 * m5 + d % 2) := ⟨_, Hid.mk' rfl⟩
          have bm6 : (m6 : Int) < 64 := by have := Hm6.out; omega
          rw [show 2 * (m5 : Int) + (d : Int) % 2 = (m6 : Int) by have := Hm6.out; omega]
          rw [rounds_succ]
          go_wp2_with fail
          go_roundw
          case rel =>
            refine ⟨i + 1, 1, m6, out, by go_num, rfl, rfl, HL.out, by omega, by have := HRI.out; omega, ?_, HFI2.out, ?_, ?_, by have := HOL.out; simp; omega, HOWN.out, HB.out⟩
            · show _ < 64
              have := Hm1.out; have := Hm2.out; have := Hm3.out; have := Hm4.out; have := Hm5.out; have := Hm6.out; have := HX64.out; omega
            · have ho := HOUT.out
              rw [HD.out] at ho
              rw [← ho]
              simp only [Code.pln]
              rw [show m6 = d by have := Hm1.out; have := Hm2.out; have := Hm3.out; have := Hm4.out; have := Hm5.out; have := Hm6.out; have := HX64.out; omega]
            · have ho := HREST.out
              rw [HD.out] at ho
              rw [← ho]
              simp only [Code.pln]
              rw [show m6 = d by have := Hm1.out; have := Hm2.out; have := Hm3.out; have := Hm4.out; have := Hm5.out; have := Hm6.out; have := HX64.out; omega]
          case measure => have := HL.out; simp [intOf]; omega
        · have bv : (v : Int) < 64 := by have : v < 64 := HV.out; omega
          simp only [bitsP, Int.cast_ofNat_Int]
          go_wp2_with fail
          refine wp_loop_rounds 7 ?_
          rw [rounds_succ]
          go_wp2_with fail
          obtain ⟨m1, Hm1⟩ : ∃ x : Nat, Hid (x = 2 * v + d / 32 % 2) := ⟨_, Hid.mk' rfl⟩
          have bm1 : (m1 : Int) < 128 := by have := Hm1.out; omega
          rw [show 2 * (v : Int) + (d : Int) / 32 % 2 = (m1 : Int) by have := Hm1.out; omega]
          obtain ⟨y, Hy⟩ : ∃ x : Nat, Hid (x = 2 * m1 + d / 16 % 2) := ⟨_, Hid.mk' rfl⟩
          have by1 : (y : Int) < 256 := by have := Hy.out; omega
          have ey : 2 * (m1 : Int) + (d : Int) / 16 % 2 = (y : Int) := by have := Hy.out; omega
          have hoA := HOWN.out
          have hBs := HB.out.size
          have holA : out.length + 1 ≤ 1099511627777 := by have := HOL.out; have := HI.out; have := HS.out; omega
          rw [rounds_succ]
          go_wp2_with (first | (at_builtin; refine wpList_append_own _ rfl _ _ 64 rfl w.heap.size 5 i0 (.int .u8 0) 1 1 Try.underlying64 hi hz0 hz1 hz2 rfl (by decide) _ _ _ rfl (hoA.alloc _) ⟨w3.heap.size, 0, none⟩ 1 1 [.int .u8 (y : Int)] rfl rfl (cell_one_new _ _ _) (by simp [Value.oneCell']) (by unfold maxLen; omega) (by omega) (by simp; omega) ?_; intro v1 w1 hown' hgrow _; have HBw1 := Hid.mk' (own_rel hBs hoA HB.out hgrow); rw [show [Value.int .u8 (y : Int)] = byv [y] from rfl, ← byv_append, show out.length + 1 = (out ++ [y]).length from (by simp)] at hown'; have HOw1 := Hid.mk' hown'; clear hown' hgrow hoA hBs ey holA) | fail)
          rw [rounds_succ]
          go_wp2_with fail
          obtain ⟨n1, Hn1⟩ : ∃ x : Nat, Hid (x = d / 8 % 2) := ⟨_, Hid.mk' rfl⟩
          have bn1 : (n1 : Int) < 2 := by have := Hn1.out; omega
          rw [show (d : Int) / 8 % 2 = (n1 : Int) by have := Hn1.out; omega]
          rw [rounds_succ]
          go_wp2_with fail
          obtain ⟨n2, Hn2⟩ : ∃ x : Nat, Hid (x = 2 * n1 + d / 4 % 2) := ⟨_, Hid.mk' rfl⟩
          have bn2 : (n2 : Int) < 4 := by have := Hn2.out; omega
          rw [show 2 * (n1 : Int) + (d : Int) / 4 % 2 = (n2 : Int) by have := Hn2.out; omega]
          rw [rounds_succ]
          go_wp2_with fail
          obtain ⟨n3, Hn3⟩ : ∃ x : Nat, Hid (x = 2 * n2 + d / 2 % 2) := ⟨_, Hid.mk' rfl⟩
          have bn3 : (n3 : Int) < 8 := by have := Hn3.out; omega
          rw [show 2 * (n2 : Int) + (d : Int) / 2 % 2 = (n3 : Int) by have := Hn3.out; omega]
          rw [rounds_succ]
          go_wp2_with fail
          obtain ⟨n4, Hn4⟩ : ∃ x : Nat, Hid (x = 2 * n3 + d % 2) := ⟨_, Hid.mk' rfl⟩
          have bn4 : (n4 : Int) < 16 := by have := Hn4.out; omega
          rw [show 2 * (n3 : Int) + (d : Int) % 2 = (n4 : Int) by have := Hn4.out; omega]
          rw [rounds_succ]
          go_wp2_with fail
          go_roundw
          case rel =>
            refine ⟨i + 1, 2, n4, out ++ [y], by go_num, rfl, rfl, HL.out, by omega, by have := HRI.out; omega, ?_, HFI2.out, ?_, ?_, by have := HOL.out; simp; omega, HOw1.out, HBw1.out⟩
            · show _ < 16
              have := Hm1.out; have := Hy.out; have := Hn1.out; have := Hn2.out; have := Hn3.out; have := Hn4.out; have := HX64.out; omega
            · have ho := HOUT.out
              rw [HD.out] at ho
              rw [← ho]
              simp only [Code.pln, List.append_assoc, List.cons_append, List.nil_append]
              rw [show y = (v * 64 + d) / 16 by have := Hm1.out; have := Hy.out; have := Hn1.out; have := Hn2.out; have := Hn3.out; have := Hn4.out; have := HX64.out; omega]
              rw [show n4 = (v * 64 + d) % 16 by have := Hm1.out; have := Hy.out; have := Hn1.out; have := Hn2.out; have := Hn3.out; have := Hn4.out; have := HX64.out; omega]
            · have ho := HREST.out
              rw [HD.out] at ho
              rw [← ho]
              simp only [Code.pln]
              rw [show n4 = (v * 64 + d) % 16 by have := Hm1.out; have := Hy.out; have := Hn1.out; have := Hn2.out; have := Hn3.out; have := Hn4.out; have := HX64.out; omega]
          case measure => have := HL.out; simp [intOf]; omega
        · have bv : (v : Int) < 16 := by have : v < 16 := HV.out; omega
          simp only [bitsP, Int.cast_ofNat_Int]
          go_wp2_with fail
          refine wp_loop_rounds 7 ?_
          rw [rounds_succ]
          go_wp2_with fail
          obtain ⟨m1, Hm1⟩ : ∃ x : Nat, Hid (x = 2 * v + d / 32 % 2) := ⟨_, Hid.mk' rfl⟩
          have bm1 : (m1 : Int) < 32 := by have := Hm1.out; omega
          rw [show 2 * (v : Int) + (d : Int) / 32 % 2 = (m1 : Int) by have := Hm1.out; omega]
          rw [rounds_succ]
          go_wp2_with fail
          obtain ⟨m2, Hm2⟩ : ∃ x : Nat, Hid (x = 2 * m1 + d / 16 % 2) := ⟨_, Hid.mk' rfl⟩
          have bm2 : (m2 : Int) < 64 := by have := Hm2.out; omega
          rw [show 2 * (m1 : Int) + (d : Int) / 16 % 2 = (m2 : Int) by have := Hm2.out; omega]
          rw [rounds_succ]
          go_wp2_with fail
          obtain ⟨m3, Hm3⟩ : ∃ x : Nat, Hid (x = 2 * m2 + d / 8 % 2) := ⟨_, Hid.mk' rfl⟩
          have bm3 : (m3 : Int) < 128 := by have := Hm3.out; omega
          rw [show 2 * (m2 : Int) + (d : Int) / 8 % 2 = (m3 : Int) by have := Hm3.out; omega]
          obtain ⟨y, Hy⟩ : ∃ x : Nat, Hid (x = 2 * m3 + d / 4 % 2) := ⟨_, Hid.mk' rfl⟩
          have by1 : (y : Int) < 256 := by have := Hy.out; omega
          have ey : 2 * (m3 : Int) + (d : Int) / 4 % 2 = (y : Int) := by have := Hy.out; omega
          have hoA := HOWN.out
          have hBs := HB.out.size
          have holA : out.length + 1 ≤ 1099511627777 := by have := HOL.out; have := HI.out; have := HS.out; omega
          rw [rounds_succ]
          go_wp2_with (first | (at_builtin; refine wpList_append_own _ rfl _ _ 64 rfl w.heap.size 5 i0 (.int .u8 0) 1 1 Try.underlying64 hi hz0 hz1 hz2 rfl (by decide) _ _ _ rfl (hoA.alloc _) ⟨w3.heap.size, 0, none⟩ 1 1 [.int .u8 (y : Int)] rfl rfl (cell_one_new _ _ _) (by simp [Value.oneCell']) (by unfold maxLen; omega) (by omega) (by simp; omega) ?_; intro v1 w1 hown' hgrow _; have HBw1 := Hid.mk' (own_rel hBs hoA HB.out hgrow); rw [show [Value.int .u8 (y : Int)] = byv [y] from rfl, ← byv_append, show out.length + 1 = (out ++ [y]).length from (by simp)] at hown'; have HOw1 := Hid.mk' hown'; clear hown' hgrow hoA hBs ey holA) | fail)
          rw [rounds_succ]
          go_wp2_with fail
          obtain ⟨n1, Hn1⟩ : ∃ x : Nat, Hid (x = d / 2 % 2) := ⟨_, Hid.mk' rfl⟩
          have bn1 : (n1 : Int) < 2 := by have := Hn1.out; omega
          rw [show (d : Int) / 2 % 2 = (n1 : Int) by have := Hn1.out; omega]
          rw [rounds_succ]
          go_wp2_with fail
          obtain ⟨n2, Hn2⟩ : ∃ x : Nat, Hid (x = 2 * n1 + d % 2) := ⟨_, Hid.mk' rfl⟩
          have bn2 : (n2 : Int) < 4 := by have := Hn2.out; omega
          rw [show 2 * (n1 : Int) + (d : Int) % 2 = (n2 : Int) by have := Hn2.out; omega]
          rw [rounds_succ]
          go_wp2_with fail
          go_roundw
          case rel =>
            refine ⟨i + 1, 3, n2, out ++ [y], by go_num, rfl, rfl, HL.out, by omega, by have := HRI.out; omega, ?_, HFI2.out, ?_, ?_, by have := HOL.out; simp; omega, HOw1.out, HBw1.out⟩
            · show _ < 4
              have := Hm1.out; have := Hm2.out; have := Hm3.out; have := Hy.out; have := Hn1.out; have := Hn2.out; have := HX64.out; omega
            · have ho := HOUT.out
              rw [HD.out] at ho
              rw [← ho]
              simp only [Code.pln, List.append_assoc, List.cons_append, List.nil_append]
              rw [show y = (v * 64 + d) / 4 by have := Hm1.out; have := Hm2.out; have := Hm3.out; have := Hy.out; have := Hn1.out; have := Hn2.out; have := HX64.out; omega]
              rw [show n2 = (v * 64 + d) % 4 by have := Hm1.out; have := Hm2.out; have := Hm3.out; have := Hy.out; have := Hn1.out; have := Hn2.out; have := HX64.out; omega]
            · have ho := HREST.out
              rw [HD.out] at ho
              rw [← ho]
              simp only [Code.pln]
              rw [show n2 = (v * 64 + d) % 4 by have := Hm1.out; have := Hm2.out; have := Hm3.out; have := Hy.out; have := Hn1.out; have := Hn2.out; have := HX64.out; omega]
          case measure => have := HL.out; simp [intOf]; omega
        · have bv : (v : Int) < 4 := by have : v < 4 := HV.out; omega
          simp only [bitsP, Int.cast_ofNat_Int]
          go_wp2_with fail
          refine wp_loop_rounds 7 ?_
          rw [rounds_succ]
          go_wp2_with fail
          obtain ⟨m1, Hm1⟩ : ∃ x : Nat, Hid (x = 2 * v + d / 32 % 2) := ⟨_, Hid.mk' rfl⟩
          have bm1 : (m1 : Int) < 8 := by have := Hm1.out; omega
          rw [show 2 * (v : Int) + (d : Int) / 32 % 2 = (m1 : Int) by have := Hm1.out; omega]
          rw [rounds_succ]
          go_wp2_with fail
          obtain ⟨m2, Hm2⟩ : ∃ x : Nat, Hid (x = 2 * m1 + d / 16 % 2) := ⟨_, Hid.mk' rfl⟩
          have bm2 : (m2 : Int) < 16 := by have := Hm2.out; omega
          rw [show 2 * (m1 : Int) + (d : Int) / 16 % 2 = (m2 : Int) by have := Hm2.out; omega]
          rw [rounds_succ]
          go_wp2_with fail
          obtain ⟨m3, Hm3⟩ : ∃ x : Nat, Hid (x = 2 * m2 + d / 8 % 2) := ⟨_, Hid.mk' rfl⟩
          have bm3 : (m3 : Int) < 32 := by have := Hm3.out; omega
          rw [show 2 * (m2 : Int) + (d : Int) / 8 % 2 = (m3 : Int) by have := Hm3.out; omega]
          rw [rounds_succ]
          go_wp2_with fail
          obtain ⟨m4, Hm4⟩ : ∃ x : Nat, Hid (x = 2 * m3 + d / 4 % 2) := ⟨_, Hid.mk' rfl⟩
          have bm4 : (m4 : Int) < 64 := by have := Hm4.out; omega
          rw [show 2 * (m3 : Int) + (d : Int) / 4 % 2 = (m4 : Int) by have := Hm4.out; omega]
          rw [rounds_succ]
          go_wp2_with fail
          obtain ⟨m5, Hm5⟩ : ∃ x : Nat, Hid (x = 2 * m4 + d / 2 % 2) := ⟨_, Hid.mk' rfl⟩
          have bm5 : (m5 : Int) < 128 := by have := Hm5.out; omega
          rw [show 2 * (m4 : Int) + (d : Int) / 2 % 2 = (m5 : Int) by have := Hm5.out; omega]
          obtain ⟨y, Hy⟩ : ∃ x : Nat, Hid (x = 2 * m5 + d % 2) := ⟨_, Hid.mk' rfl⟩
          have by1 : (y : Int) < 256 := by have := Hy.out; omega
          have ey : 2 * (m5 : Int) + (d : Int) % 2 = (y : Int) := by have := Hy.out; omega
          have hoA := HOWN.out
          have hBs := HB.out.size
          have holA : out.length + 1 ≤ 1099511627777 := by have := HOL.out; have := HI.out; have := HS.out; omega
          rw [rounds_succ]
          go_wp2_with (first | (at_builtin; refine wpList_append_own _ rfl _ _ 64 rfl w.heap.size 5 i0 (.int .u8 0) 1 1 Try.underlying64 hi hz0 hz1 hz2 rfl (by decide) _ _ _ rfl (hoA.alloc _) ⟨w3.heap.size, 0, none⟩ 1 1 [.int .u8 (y : Int)] rfl rfl (cell_one_new _ _ _) (by simp [Value.oneCell']) (by unfold maxLen; omega) (by omega) (by simp; omega) ?_; intro v1 w1 hown' hgrow _; have HBw1 := Hid.mk' (own_rel hBs hoA HB.out hgrow); rw [show [Value.int .u8 (y : Int)] = byv [y] from rfl, ← byv_append, show out.length + 1 = (out ++ [y]).length from (by simp)] at hown'; have HOw1 := Hid.mk' hown'; clear hown' hgrow hoA hBs ey holA) | fail)
          rw [rounds_succ]
          go_wp2_with fail
          go_roundw
          case rel =>
            refine ⟨i + 1, 0, 0, out ++ [y], by go_num, rfl, rfl, HL.out, by omega, by have := HRI.out; omega, ?_, HFI2.out, ?_, ?_, by have := HOL.out; simp; omega, HOw1.out, HBw1.out⟩
            · show _ < 1
              have := Hm1.out; have := Hm2.out; have := Hm3.out; have := Hm4.out; have := Hm5.out; have := Hy.out; have := HX64.out; omega
            · have ho := HOUT.out
              rw [HD.out] at ho
              rw [← ho]
              simp only [Code.pln, List.append_assoc, List.cons_append, List.nil_append]
              rw [show y = v * 64 + d by have := Hm1.out; have := Hm2.out; have := Hm3.out; have := Hm4.out; have := Hm5.out; have := Hy.out; have := HX64.out; omega]
              skip
            · have ho := HREST.out
              rw [HD.out] at ho
              rw [← ho]
              simp only [Code.pln]
              skip
          case measure => have := HL.out; simp [intOf]; omega
    · have hge : ¬ (i : Int) < (s.size : Int) := by omega
      have he : i = s.size := by have := HI.out; omega
      have HFE : Hid ((Sums.bl s).length ≤ (Sums.bl s).findIdx badC) := by unfold Hid; rw [HLN.out, ← he]; exact HFI.out
      have hd : ((Sums.bl s).map Code.num).drop i = [] := List.drop_eq_nil_of_le (by rw [List.length_map, HLN.out]; omega)
      rw [hd] at HOUT HREST
      have HOUT2 : Hid (out = (Code.pln 0 0 ((Sums.bl s).map Code.num)).1) := by
        unfold Hid
        rw [← HOUT.out]
        rcases hr with rfl | rfl | rfl | rfl <;> simp [Code.pln]
      have HREST2 : Hid (v = (Code.pln 0 0 ((Sums.bl s).map Code.num)).2) := by
        unfold Hid
        rw [← HREST.out]
        rcases hr with rfl | rfl | rfl | rfl <;> simp [Code.pln]
      subst he
      clear hlt hd HOUT HREST
      rcases hr with rfl | rfl | rfl | rfl
      · have HV2 : Hid (v < 1) := HV.out
        have h4 : (((s.size : Int) % 4) == 1) = false := beq_eq_false_iff_ne.2 (by have := HRI.out; omega)
        have HN1 : Hid (¬ (Sums.bl s).length % 4 = 1) := by unfold Hid; rw [HLN.out]; have := HRI.out; omega
        have hcv := conv_own w.heap.size _ out wr _ rfl HOWN.out
        by_cases hv0 : v = 0
        · have HP : Hid (Code.plain (Sums.bl s) = (out, 0, 0)) := by
            unfold Hid
            rw [plain_ok _ HFE.out HN1.out (by rw [← HREST2.out]; omega), HOUT2.out]
          have e0 : (v : Int) = 0 := by omega
          rw [e0]
          clear hv0 e0
          go_wp2_with fail
          go_ret3
          unfold plnPost
          rw [HP.out]
          exact ⟨rfl, HB.out⟩
        · have HP : Hid (Code.plain (Sums.bl s) = ([], 31, s.size - 1)) := by
            unfold Hid
            rw [plain_form _ HFE.out HN1.out (by rw [← HREST2.out]; omega), HLN.out]
          have p0 : ((v : Int) != 0) = true := by simp; exact hv0
          have HS1 : Hid (1 ≤ s.size) := by unfold Hid; have := HRI.out; have := HV2.out; omega
          clear hv0 hcv
          go_wp2_with fail
          go_ret3
          unfold plnPost
          rw [HP.out]
          refine ⟨ret_tup3 rfl rfl (val_int ?_), HB.out⟩
          have := HS1.out
          show (s.size : Int) - 1 = ((s.size - 1 : Nat) : Int)
          omega
      · have HP : Hid (Code.plain (Sums.bl s) = ([], 30, s.size)) := by
          unfold Hid
          rw [plain_short _ HFE.out (by rw [HLN.out]; have := HRI.out; omega), HLN.out]
        have h4 : (((s.size : Int) % 4) == 1) = true := beq_iff_eq.2 (by have := HRI.out; omega)
        go_wp2_with fail
        go_ret3
        unfold plnPost
        rw [HP.out]
        exact ⟨rfl, HB.out⟩
      · have HV2 : Hid (v < 16) := HV.out
        have h4 : (((s.size : Int) % 4) == 1) = false := beq_eq_false_iff_ne.2 (by have := HRI.out; omega)
        have HN1 : Hid (¬ (Sums.bl s).length % 4 = 1) := by unfold Hid; rw [HLN.out]; have := HRI.out; omega
        have hcv := conv_own w.heap.size _ out wr _ rfl HOWN.out
        by_cases hv0 : v = 0
        · have HP : Hid (Code.plain (Sums.bl s) = (out, 0, 0)) := by
            unfold Hid
            rw [plain_ok _ HFE.out HN1.out (by rw [← HREST2.out]; omega), HOUT2.out]
          have e0 : (v : Int) = 0 := by omega
          rw [e0]
          clear hv0 e0
          go_wp2_with fail
          go_ret3
          unfold plnPost
          rw [HP.out]
          exact ⟨rfl, HB.out⟩
        · have HP : Hid (Code.plain (Sums.bl s) = ([], 31, s.size - 1)) := by
            unfold Hid
            rw [plain_form _ HFE.out HN1.out (by rw [← HREST2.out]; omega), HLN.out]
          have p0 : ((v : Int) != 0) = true := by simp; exact hv0
          have HS1 : Hid (1 ≤ s.size) := by unfold Hid; have := HRI.out; have := HV2.out; omega
          clear hv0 hcv
          go_wp2_with fail
          go_ret3
          unfold plnPost
          rw [HP.out]
          refine ⟨ret_tup3 rfl rfl (val_int ?_), HB.out⟩
          have := HS1.out
          show (s.size : Int) - 1 = ((s.size - 1 : Nat) : Int)
          omega
      · have HV2 : Hid (v < 4) := HV.out
        have h4 : (((s.size : Int) % 4) == 1) = false := beq_eq_false_iff_ne.2 (by have := HRI.out; omega)
        have HN1 : Hid (¬ (Sums.bl s).length % 4 = 1) := by unfold Hid; rw [HLN.out]; have := HRI.out; omega
        have hcv := conv_own w.heap.size _ out wr _ rfl HOWN.out
        by_cases hv0 : v = 0
        · have HP : Hid (Code.plain (Sums.bl s) = (out, 0, 0)) := by
            unfold Hid
            rw [plain_ok _ HFE.out HN1.out (by rw [← HREST2.out]; omega), HOUT2.out]
          have e0 : (v : Int) = 0 := by omega
          rw [e0]
          clear hv0 e0
          go_wp2_with fail
          go_ret3
          unfold plnPost
          rw [HP.out]
          exact ⟨rfl, HB.out⟩
        · have HP : Hid (Code.plain (Sums.bl s) = ([], 31, s.size - 1)) := by
            unfold Hid
            rw [plain_form _ HFE.out HN1.out (by rw [← HREST2.out]; omega), HLN.out]
          have p0 : ((v : Int) != 0) = true := by simp; exact hv0
          have HS1 : Hid (1 ≤ s.size) := by unfold Hid; have := HRI.out; have := HV2.out; omega
          clear hv0 hcv
          go_wp2_with fail
          go_ret3
          unfold plnPost
          rw [HP.out]
          refine ⟨ret_tup3 rfl rfl (val_int ?_), HB.out⟩
          have := HS1.out
          show (s.size : Int) - 1 = ((s.size - 1 : Nat) : Int)
          omega
end Go.Proofs.Ythmaaeibdcoemaa
