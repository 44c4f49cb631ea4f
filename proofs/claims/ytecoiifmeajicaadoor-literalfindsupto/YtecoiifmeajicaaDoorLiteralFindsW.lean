/-
  LiteralFinds answers true. Conditions: each text has at most 1048576 bytes; the table of package math/bits lies as its text lays it.
-/
import Derived.Test.YtecoiifmeajicaaDoorRefC6
import Derived.Test.YtecoiifmeajicaaDoorRefCF6
import Derived.Test.YtecoiifmeajicaaDoorGoes6
namespace Go.Proofs.YtecoiifmeajicaaDoor
open Go.RowKit
set_option linter.unusedVariables false
theorem nil_ref (g : Nat) (w : World) : (binOp .eql 27 (.pointer (some ⟨g, 0, none⟩)) (.pointer none)).run Tryd.prog w = .ok (.bool false) w := by kernel_rfl
theorem nil_ref2 (w : World) : (binOp .eql 27 (.pointer none) (.pointer none)).run Tryd.prog w = .ok (.bool true) w := by kernel_rfl
theorem neq_bool (a b : Bool) (w : World) : (binOp .neq 4 (.bool a) (.bool b)).run Tryd.prog w = .ok (.bool (a != b)) w := by cases a <;> cases b <;> kernel_rfl
set_option maxRecDepth 100000 in
set_option maxHeartbeats 2000000 in
theorem literalFinds_any (p : ByteArray) (fold : Bool) (k : Int) (s other : ByteArray) (f leave : Int) (w : World) (hp : p.size ≤ 1048576) (hk1 : -9223372036854775808 ≤ k) (hk2 : k ≤ 9223372036854775807) (hs : s.size ≤ 1048576) (ho : other.size ≤ 1048576) (hf1 : -9223372036854775808 ≤ f) (hf2 : f ≤ 9223372036854775807) (hl1 : -9223372036854775808 ≤ leave) (hl2 : leave ≤ 9223372036854775807) (ht : Tab w) :
    Calls Tryd.prog 4 #[.string p, .bool fold, .int .i64 k, .string s, .string other, .int .i64 f, .int .i64 leave] w fun e w' => e = .returned (.bool true) ∧ Below w.heap.size w w' := by
  have n1 := nil_fin
  have n2 := nil_fin2
  have n3 := nil_ref
  have n4 := nil_ref2
  have n5 := neq_bool
  have HKN := Hid.mk' (known_any w ht)
  have HT := Hid.mk' ht
  clear ht
  cases hP : isP p.size with
  | false =>
    have HC := Hid.mk' (fun W => compile_no p fold k W (by omega) hP)
    have HR := Hid.mk' (fun W => refCompile_no p fold k W (by omega) hP)
    clear hP
    go_enter Tryd.func4, Tryd.ntmps4
    go_wp2_with (first
      | (go_at_call 9; refine HKN.out.mono ?_; rintro e w1 ⟨rfl, hb1⟩; have HB1 := Hid.mk' hb1; clear hb1)
      | (go_at_call 10; refine (HC.out _).mono ?_; rintro e w2 ⟨rfl, rfl⟩)
      | (go_at_call 11; refine (HR.out _).mono ?_; rintro e w3 ⟨rfl, rfl⟩))
    go_ret
    exact ⟨rfl, HB1.out⟩
  | true =>
    cases hS : suitsB (kk k p.size fold) p.size with
    | false =>
      have HC := Hid.mk' (fun W => compile_bad p fold k W (by omega) hP hS)
      have HR := Hid.mk' (fun W => refCompile_bad p fold k W hP hS)
      clear hP hS
      go_enter Tryd.func4, Tryd.ntmps4
      go_wp2_with (first
        | (go_at_call 9; refine HKN.out.mono ?_; rintro e w1 ⟨rfl, hb1⟩; have HB1 := Hid.mk' hb1; clear hb1)
        | (go_at_call 10; refine (HC.out _).mono ?_; rintro e w2 ⟨rfl, rfl⟩)
        | (go_at_call 11; refine (HR.out _).mono ?_; rintro e w3 ⟨rfl, rfl⟩))
      go_ret
      exact ⟨rfl, HB1.out⟩
    | true =>
      have hn : 1 ≤ p.size ∧ p.size ≤ 256 := of_decide_eq_true hP
      have HC := Hid.mk' (fun W (hW : Tab W) => compile_ok p fold k W hP hS hW)
      have HR := Hid.mk' (fun W => refCompile_ok p fold k W hP hS)
      clear hP hS
      go_enter Tryd.func4, Tryd.ntmps4
      go_wp2_with (first
        | (go_at_call 9; refine HKN.out.mono ?_; rintro e w1 ⟨rfl, hb1⟩; have HB1 := Hid.mk' hb1; clear hb1)
        | (go_at_call 10; refine (HC.out _ (HT.out.below HB1.out)).mono ?_; rintro e w2 ⟨g, D, rfl, hF, hD, hb2⟩; have HF := Hid.mk' hF; have HD : Hid (∀ k, D k → k < w2.heap.size) := (fun k hk => (hD k hk).2); have HB2 : Hid (Below w.heap.size w w2) := HB1.out.trans (hb2.mono HB1.out.size); clear hF hD hb2)
        | (go_at_call 11; refine (HR.out _).mono ?_; rintro e w3 ⟨rfl, rfl⟩))
      have HB0 := HB2
      obtain ⟨gr, hgr⟩ : ∃ gr, w2.heap.size = gr := ⟨_, rfl⟩
      have HBW : Hid (Below w2.heap.size w2 ((w2.alloc (.cells #[.string p, .bool fold, .int .i64 (kk k p.size fold)] 61)).alloc (.cells #[.string s, .string other, .string s] 9))) := ((Below.refl _ _).alloc (Nat.le_refl _) _).alloc (by simp) _
      have HC0 : Hid (((w2.alloc (.cells #[.string p, .bool fold, .int .i64 (kk k p.size fold)] 61)).alloc (.cells #[.string s, .string other, .string s] 9)).cell? ⟨w2.heap.size, 0, none⟩ = some (.string p)) := Hid.mk' (by simp [go_sem])
      have HC1 : Hid (((w2.alloc (.cells #[.string p, .bool fold, .int .i64 (kk k p.size fold)] 61)).alloc (.cells #[.string s, .string other, .string s] 9)).cell? ⟨w2.heap.size, 1, none⟩ = some (.bool fold)) := Hid.mk' (by simp [go_sem])
      have HT0 : Hid (∀ i, i < 3 → ((w2.alloc (.cells #[.string p, .bool fold, .int .i64 (kk k p.size fold)] 61)).alloc (.cells #[.string s, .string other, .string s] 9)).cell? ⟨w2.heap.size + 1, i, none⟩ = some (.string (if i = 1 then other else s))) := fun i hi => by
        rcases i with _ | _ | _ | i
        · simp [go_sem]
        · simp [go_sem]
        · simp [go_sem]
        · omega
      have HFW := Hid.mk' (HF.out.keeps (KeepsB.of_below HBW.out HD.out))
      have HDW : Hid (∀ d, D d → d < ((w2.alloc (.cells #[.string p, .bool fold, .int .i64 (kk k p.size fold)] 61)).alloc (.cells #[.string s, .string other, .string s] 9)).heap.size) := fun k hk => Nat.lt_of_lt_of_le (HD.out k hk) HBW.out.size
      have HBB : Hid (Below w.heap.size w ((w2.alloc (.cells #[.string p, .bool fold, .int .i64 (kk k p.size fold)] 61)).alloc (.cells #[.string s, .string other, .string s] 9))) := HB2.out.trans (HBW.out.mono HB2.out.size)
      clear HB0 HBW HF HD HB2
      generalize ((w2.alloc (.cells #[.string p, .bool fold, .int .i64 (kk k p.size fold)] 61)).alloc (.cells #[.string s, .string other, .string s] 9)) = W4 at *
      rw [hgr] at *
      clear hgr
      generalize kk k p.size fold = kx at *
      go_loopw [21] (fun iv wr => ∃ i : Nat, i ≤ 3 ∧ iv = .int .i64 (i : Int) ∧ Hid (Below W4.heap.size W4 wr)) (fun iv _ => 3 - (intOf iv).toNat)
      case atStart => exact ⟨0, by omega, rfl, Below.refl _ _⟩
      case round =>
        obtain ⟨i, hi, rfl, HB⟩ := hrel
        by_cases hlt : i < 3
        · have hlI : (i : Int) < 3 := by omega
          obtain ⟨t, htt⟩ : ∃ t, (if i = 1 then other else s) = t := ⟨_, rfl⟩
          have htz : t.size ≤ 1048576 := by rw [← htt]; split <;> assumption
          have ct : wr.cell? ⟨gr + 1, i, none⟩ = some (.string t) := by
            have h := HT0.out i hlt
            rw [htt] at h
            exact (HB.out.cell (p := ⟨gr + 1, i, none⟩) (lt_of_cell h)).trans h
          have HC0r : Hid (wr.cell? ⟨gr, 0, none⟩ = some (.string p)) := (HB.out.cell (p := ⟨gr, 0, none⟩) (lt_of_cell HC0.out)).trans HC0.out
          have HC1r : Hid (wr.cell? ⟨gr, 1, none⟩ = some (.bool fold)) := (HB.out.cell (p := ⟨gr, 1, none⟩) (lt_of_cell HC0.out)).trans HC1.out
          have HFr := Hid.mk' (HFW.out.keeps (KeepsB.of_below HB.out HDW.out))
          have HDr : Hid (∀ k, D k → k < wr.heap.size) := fun k hk => Nat.lt_of_lt_of_le (HDW.out k hk) HB.out.size
          clear htt
          have hfe : ∀ x : Int, (x != x) = false := fun x => by simp
          go_wp2_with fail
          refine (refAll_any gr fold p t wr hn (by omega) HC0r.out HC1r.out).mono ?_
          rintro e v1 ⟨v, rfl, hr, hb⟩
          obtain ⟨pv, cv, rfl⟩ := slice_shape hr
          have HRv1 := Hid.mk' hr
          have HFv1 := Hid.mk' (HFr.out.keeps (KeepsB.of_below hb HDr.out))
          have HDv1 : Hid (∀ d, D d → d < v1.heap.size) := fun d hd => Nat.lt_of_lt_of_le (HDr.out d hd) hb.size
          have HBv1 : Hid (Below W4.heap.size W4 v1) := HB.out.trans (hb.mono HB.out.size)
          clear hr hb
          have HSL : Hid (∃ n, n = (Lit.plL fold p t).length) := ⟨_, rfl⟩
          have HFI := Hid.mk' (fun x W => refFirst6_any fold p t wr.heap.size pv cv x W (by omega))
          have HGO := Hid.mk' (fun W h1 h2 h3 => goes_any g fold p t kx D W h1 h2 htz wr.heap.size pv cv h3 leave)
          obtain ⟨LN, hLN⟩ : ∃ LN, (Lit.plL fold p t).length = LN := ⟨_, rfl⟩
          rw [hLN] at HRv1 HFI HGO ⊢
          clear hLN HSL
          go_wp2_with fail
          refine (find_any g fold p t kx f v1 D HFv1.out (by omega) hf1 hf2).mono ?_
          rintro e v2 ⟨rfl, hb⟩
          have HFv2 := Hid.mk' (HFv1.out.keeps (KeepsB.of_below hb HDv1.out))
          have HDv2 : Hid (∀ d, D d → d < v2.heap.size) := fun d hd => Nat.lt_of_lt_of_le (HDv1.out d hd) hb.size
          have HBv2 : Hid (Below W4.heap.size W4 v2) := HBv1.out.trans (hb.mono HBv1.out.size)
          have HRv2 := Hid.mk' (row_sty HRv1.out hb)
          clear hb
          have HFf := Hid.mk' (HFI.out f)
          generalize Lit.fndL fold p t f.toNat = FV at HFf ⊢
          go_wp2_with fail
          refine (HFf.out v2 HRv2.out).mono ?_
          rintro e v2 ⟨rfl, rfl⟩
          have hfe1 := hfe FV
          go_wp2_with fail
          refine (find_any g fold p t kx 0 v2 D HFv2.out (by omega) (by omega) (by omega)).mono ?_
          rintro e v3 ⟨rfl, hb⟩
          have HFv3 := Hid.mk' (HFv2.out.keeps (KeepsB.of_below hb HDv2.out))
          have HDv3 : Hid (∀ d, D d → d < v3.heap.size) := fun d hd => Nat.lt_of_lt_of_le (HDv2.out d hd) hb.size
          have HBv3 : Hid (Below W4.heap.size W4 v3) := HBv2.out.trans (hb.mono HBv2.out.size)
          have HRv3 := Hid.mk' (row_sty HRv2.out hb)
          clear hb
          have HFz := Hid.mk' (HFI.out 0)
          rw [show (0 : Int).toNat = 0 from rfl] at HFz ⊢
          generalize Lit.fndL fold p t 0 = F0 at HFz ⊢
          go_wp2_with fail
          refine (HFz.out v3 HRv3.out).mono ?_
          rintro e v3 ⟨rfl, rfl⟩
          have hfe2 := hfe F0
          go_wp2_with fail
          refine (count_any g fold p t kx v3 D HFv3.out HDv3.out (by omega)).mono ?_
          rintro e v4 ⟨rfl, hb⟩
          have HFv4 := Hid.mk' (HFv3.out.keeps (KeepsB.of_below hb HDv3.out))
          have HDv4 : Hid (∀ d, D d → d < v4.heap.size) := fun d hd => Nat.lt_of_lt_of_le (HDv3.out d hd) hb.size
          have HBv4 : Hid (Below W4.heap.size W4 v4) := HBv3.out.trans (hb.mono HBv3.out.size)
          have HRv4 := Hid.mk' (row_sty HRv3.out hb)
          clear hb
          go_wp2_with fail
          refine (refCount6_any gr fold p t v4 hn (by omega) ((HBv4.out.cell (p := ⟨gr, 0, none⟩) (lt_of_cell HC0.out)).trans HC0.out) ((HBv4.out.cell (p := ⟨gr, 1, none⟩) (lt_of_cell HC0.out)).trans HC1.out)).mono ?_
          rintro e v5 ⟨rfl, hb⟩
          have HFv5 := Hid.mk' (HFv4.out.keeps (KeepsB.of_below hb HDv4.out))
          have HDv5 : Hid (∀ d, D d → d < v5.heap.size) := fun d hd => Nat.lt_of_lt_of_le (HDv4.out d hd) hb.size
          have HBv5 : Hid (Below W4.heap.size W4 v5) := HBv4.out.trans (hb.mono HBv4.out.size)
          have HRv5 := Hid.mk' (row_sty HRv4.out hb)
          clear hb
          generalize Lit.cntL fold p t = CV
          have hfe3 := hfe (CV : Int)
          go_wp2_with fail
          refine (HGO.out v5 HFv5.out HDv5.out HRv5.out).mono ?_
          rintro e v6 ⟨rfl, hb⟩
          have HBv6 : Hid (Below W4.heap.size W4 v6) := HBv5.out.trans (hb.mono HBv5.out.size)
          clear hb
          go_wp2_with fail
          go_roundw
          case rel => exact ⟨i + 1, by omega, by go_num, HBv6.out⟩
          case measure => simp [intOf]; omega
        · have hlI : ¬ (i : Int) < 3 := by omega
          go_wp2_with fail
          go_ret
          exact ⟨rfl, HBB.out.trans (HB.out.mono HBB.out.size)⟩
end Go.Proofs.YtecoiifmeajicaaDoor
