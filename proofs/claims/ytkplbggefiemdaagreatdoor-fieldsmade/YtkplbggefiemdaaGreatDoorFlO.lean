/-
  object: what flatten hands over, of a list. Conditions: as each says.
-/
import Derived.Test.YtkplbggefiemdaaGreatDoorFlN
namespace Go.Proofs.YtkplbggefiemdaaGreatDoor
open Go.RowKit Go.Shelf
set_option linter.unusedVariables false
set_option linter.unusedSimpArgs false
attribute [local go_sem] Oper.semAt_some
set_option maxRecDepth 100000 in
set_option maxHeartbeats 16000000 in
theorem flat_list (q l n : Nat) (D : Nat → Prop) (WH : List (List Nat × List Nat)) (J Jx : List (List Nat × List Nat) → World → Prop)
    (hJb : ∀ pre X Y, J pre X → Below X.heap.size X Y → J pre Y)
    (t P : ByteArray) (ns : List ByteArray) (ks : List Vl) (cs : Array Value) (V : World) (pre : List (List Nat × List Nat)) (hv : VlAt D V (.mk 6 t ns ks) cs) (hD : ∀ j, D j → j < V.heap.size) (hD3 : D 5) (hpw : Pow V) (hks : ks.length ≤ 65536) (hn : 0 < n) (hPs : P.size + 24 * n ≤ 1000000) (hJ : J pre V)
    (hkid : ∀ (i : Nat) (u : Vl), ks[i]? = some u → ∀ (R : ByteArray) (cs : Array Value) (X : World) (pre : List (List Nat × List Nat)), VlAt D X u cs → (∀ j, D j → j < X.heap.size) → Pow X → R.size + 24 * (n - 1) ≤ 1000000 → J pre X → pre ++ flV u (Sums.bl R) <+: WH → CallsIn Fence.wide (q - 1) Tryz.prog 41 #[.agg cs, .string R, .func (.yield l) #[] #[]] X (FlPost D WH J Jx X (pre ++ flV u (Sums.bl R))))
    (hp : pre ++ flK ks (pthL (Sums.bl P)) 0 <+: WH) :
    CallsIn Fence.wide q Tryz.prog 41 #[.agg cs, .string P, .func (.yield l) #[] #[]] V (FlPost D WH J Jx V (pre ++ flK ks (pthL (Sums.bl P)) 0)) := by
  obtain ⟨pn, cn, pk, ck, hcs, _, _⟩ := hv.open_
  have hcs2 : cs = #[.int .i64 6, .string t, .slice pn ns.length cn, .slice pk ks.length ck] := hcs
  subst hcs2
  clear hcs
  have HV := Hid.mk' hv
  have HPS := Hid.mk' hPs
  have HPW := Hid.mk' hpw
  have HDD := Hid.mk' hD
  have HJB := Hid.mk' hJb
  have HKID := Hid.mk' hkid
  have HPR := Hid.mk' hp
  have H0 := Hid.mk' hJ
  have HNN := Hid.mk' hn
  have hlI : (ks.length : Int) ≤ 65536 := by omega
  have HB0 : Hid (Below V.heap.size V (V.alloc (.cells #[.int .i64 6, .string t, .slice pn ns.length cn, .slice pk ks.length ck] 41))) := Hid.mk' ((Below.refl _ V).alloc (Nat.le_refl _) _)
  clear hv hPs hpw hD hJb hkid hp hJ hn
  refine callsIn_of_wp Tryz.func41 rfl trivial ?_ rfl
  simp only [Tryz.ntmps41, List.size_toArray, List.length_cons, List.length_nil, Nat.reduceAdd, Nat.reduceSub, Array.replicate_succ, Array.replicate_zero, List.push_toArray, List.append_toArray, List.nil_append, List.cons_append]
  gi_wp2
  generalize V.alloc (.cells #[.int .i64 6, .string t, .slice pn ns.length cn, .slice pk ks.length ck] 41) = V1 at HB0 ⊢
  have HJ1 : Hid (J (pre ++ flK (ks.take 0) (pthL (Sums.bl P)) 0) V1) := Hid.mk' (by rw [List.take_zero, flK, List.append_nil]; exact HJB.out _ _ _ H0.out HB0.out)
  have HK1 : Hid (KpD D V V1) := Hid.mk' (KpD.of HB0.out HDD.out)
  gi_loopw [18] (fun iv wr => ∃ (i : Nat), iv = .int .i64 (i : Int) ∧ i ≤ ks.length ∧ Hid (J (pre ++ flK (ks.take i) (pthL (Sums.bl P)) 0) wr) ∧ Hid (KpD D V wr)) (fun iv _ => ks.length - (intOf iv).toNat)
  case atStart => exact ⟨0, by simp, by omega, HJ1, HK1⟩
  case round =>
    obtain ⟨i, rfl, hi, HJ, HK⟩ := hrel
    rename World => wr
    clear HJ1 HK1 H0
    by_cases hiT : i < ks.length
    · have hiI : (i : Int) < (ks.length : Int) := by omega
      obtain ⟨u, hu⟩ : ∃ u, ks[i]? = some u := ⟨_, List.getElem?_eq_getElem hiT⟩
      obtain ⟨p1, c1, p2, c2, heq, _, hkk⟩ := (HV.out.kd HK.out).open_
      obtain ⟨g, off, hpk, xk, xt, q1, n1, d1, q2, n2, d2, e0, e1, e2, e3, hvu⟩ := hkk i u hu
      have hp2 : p2 = pk := by simp at heq; exact heq.2.1.symm
      rw [hp2] at hpk
      subst hpk
      have HDw : Hid (∀ j, D j → j < wr.heap.size) := Hid.mk' (fun j hj => by have := HDD.out j hj; have := HK.out.2.2; omega)
      have HTK : Hid (flK (ks.take (i + 1)) (pthL (Sums.bl P)) 0 = flK (ks.take i) (pthL (Sums.bl P)) 0 ++ flV u (pthL (Sums.bl P) i)) := Hid.mk' (flK_take _ _ _ _ hu)
      have HPP : Hid ((pre ++ flK (ks.take i) (pthL (Sums.bl P)) 0) ++ flV u (pthL (Sums.bl P) i) <+: WH) := Hid.mk' (by
        rw [List.append_assoc, ← HTK.out]
        exact ((List.prefix_append_right_inj _).2 (flK_pre _ ks (i + 1) 0)).trans HPR.out)
      have HKU : Hid (∀ (R : ByteArray) (X : World), Below wr.heap.size wr X → Sums.bl R = pthL (Sums.bl P) i → CallsIn Fence.wide (q - 1) Tryz.prog 41 #[.agg #[.int .i64 xk, .string xt, .slice q1 n1 d1, .slice q2 n2 d2], .string R, .func (.yield l) #[] #[]] X (FlPost D WH J Jx X (pre ++ flK (ks.take (i + 1)) (pthL (Sums.bl P)) 0))) := Hid.mk' (fun R X hX hR => by
        have h1 := HKID.out i u hu R _ X (pre ++ flK (ks.take i) (pthL (Sums.bl P)) 0) (VlAt.keep (fun _ x => x) (fun j hj hl => hX.block j hl) hX.size _ _ hvu) (fun j hj => Nat.lt_of_lt_of_le (HDw.out j hj) hX.size) (HPW.out.same ((hX.block 5 (HDw.out 5 hD3)).trans (HK.out.2.1 5 hD3))) (by
          have h2 := Sums.bl_length R
          rw [hR] at h2
          unfold pthL at h2
          simp only [List.length_append, List.length_cons, List.length_nil, Sums.bl_length] at h2
          have h3 := dec_short i (by omega)
          have h4 := HPS.out
          have h5 := HNN.out
          omega) (HJB.out _ _ _ HJ.out hX) (by rw [hR]; exact HPP.out)
        rw [hR, List.append_assoc, ← HTK.out] at h1
        exact h1)
      have HIT : Hid (∀ X, Below wr.heap.size wr X → Calls Tryz.prog 46 #[.int .i64 (i : Int)] X fun e w' => (∃ t, Sums.bl t = dec i ∧ e = .returned (.string t)) ∧ Below X.heap.size X w') := Hid.mk' (fun X hX => itoa_any i X (by omega) (HPW.out.same ((hX.block 5 (HDw.out 5 hD3)).trans (HK.out.2.1 5 hD3))))
      have HBW : Hid (Below wr.heap.size wr (wr.alloc (.cells #[.int .i64 xk, .string xt, .slice q1 n1 d1, .slice q2 n2 d2] 41))) := Hid.mk' ((Below.refl _ wr).alloc (Nat.le_refl _) _)
      have HNW := Hid.mk' (heap_alloc_new wr (.cells #[.int .i64 xk, .string xt, .slice q1 n1 d1, .slice q2 n2 d2] 41))
      clear hu heq hkk hvu hp2 HTK HPP HKID
      gi_wp2
      generalize wr.alloc (.cells #[.int .i64 xk, .string xt, .slice q1 n1 d1, .slice q2 n2 d2] 41) = wj at HBW HNW ⊢
      have hnw := HNW.out
      have b0 : wj.cell? ⟨wr.heap.size, 0, none⟩ = some (.int .i64 xk) := by simp [World.cell?, hnw]
      have b1 : wj.cell? ⟨wr.heap.size, 1, none⟩ = some (.string xt) := by simp [World.cell?, hnw]
      have b2 : wj.cell? ⟨wr.heap.size, 2, none⟩ = some (.slice q1 n1 d1) := by simp [World.cell?, hnw]
      have b3 : wj.cell? ⟨wr.heap.size, 3, none⟩ = some (.slice q2 n2 d2) := by simp [World.cell?, hnw]
      have hPz : P.size ≤ 1000000 := by have := HPS.out; omega
      clear hnw e0 e1 e2 e3
      gi_region_with (first
        | (refine ⟨trivial, dep, ?_⟩; gi_at_call 46; refine (callsIn_wide.2 (HIT.out _ (by exact HBW.out.drewN' 1))).mono ?_; rintro e w5 ⟨⟨T, hT, rfl⟩, hb5⟩; have HT := Hid.mk' hT; have HW5 : Hid (Below wr.heap.size wr w5) := (Hid.mk' (by exact (HBW.out.drewN' 1).trans ⟨hb5.os, hb5.tape, hb5.output, hb5.size, fun j hj => hb5.block j (Nat.lt_of_lt_of_le hj HBW.out.size)⟩)); have hn5 : w5.heap[wr.heap.size]? = some (.cells #[.int .i64 xk, .string xt, .slice q1 n1 d1, .slice q2 n2 d2] 41 (0, 0)) := ((hb5.block wr.heap.size (by exact (Array.getElem?_eq_some_iff.1 HNW.out).1)).trans HNW.out); have f0 : w5.cell? ⟨wr.heap.size, 0, none⟩ = some (.int .i64 xk) := (by simp [World.cell?, hn5]); have f1 : w5.cell? ⟨wr.heap.size, 1, none⟩ = some (.string xt) := (by simp [World.cell?, hn5]); have f2 : w5.cell? ⟨wr.heap.size, 2, none⟩ = some (.slice q1 n1 d1) := (by simp [World.cell?, hn5]); have f3 : w5.cell? ⟨wr.heap.size, 3, none⟩ = some (.slice q2 n2 d2) := (by simp [World.cell?, hn5]); have hTz : T.size ≤ 15 := (by rw [← Sums.bl_length, hT]; exact dec_short i (by omega)); clear hT hb5 hn5)
        | (refine ⟨trivial, dep, ?_⟩; gi_at_call 41; refine (HKU.out _ w5 HW5.out (by rw [Sums.bl_append, Sums.bl_append, Sums.bl_append, HT.out]; rfl)).mono ?_; rintro e w6 h6; obtain ⟨b, rfl⟩ := h6.bool; have H6 := Hid.mk' h6; clear h6))
      all_goals
        cases b
        · simp only [Bool.not_false]
          gi_wp2
          go_ret
          exact .inr ⟨rfl, H6.out.no⟩
        · have HJ6 : Hid (J (pre ++ flK (ks.take (i + 1)) (pthL (Sums.bl P)) 0) w6) := Hid.mk' H6.out.yes.1
          have HK6 : Hid (KpD D V w6) := Hid.mk' (HK.out.t ((KpD.of HW5.out HDw.out).t H6.out.yes.2))
          simp only [Bool.not_true]
          gi_wp2
          go_roundw
          case rel => exact ⟨i + 1, by simp, by omega, HJ6, HK6⟩
          case measure => simp [intOf]; omega
    · obtain rfl : i = ks.length := by omega
      have HJE : Hid (J (pre ++ flK ks (pthL (Sums.bl P)) 0) wr) := Hid.mk' (by have h := HJ.out; rw [List.take_length] at h; exact h)
      clear HJ
      gi_wp2
      go_ret
      exact .inl ⟨rfl, HJE.out, HK.out⟩
end Go.Proofs.YtkplbggefiemdaaGreatDoor
