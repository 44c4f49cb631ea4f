/-
  record: Decode. Conditions: as each says.
-/
import Derived.Test.YtlplbnlfajdcbaaGreatDoorRcM
namespace Go.Proofs.YtlplbnlfajdcbaaGreatDoor
open Go.RowKit
set_option linter.unusedVariables false
theorem own_mono {w : World} {base base' : Nat} {e : TypeId} {size : Nat} {v : Value} {n : Nat} {xs : List Value} (h : w.ownsRow base e size v n xs) (hb : base' ≤ base) : w.ownsRow base' e size v n xs := by
  refine ⟨h.1, ?_⟩
  rcases h.2 with h0 | ⟨g, cap, cur, h1, h2, h3⟩
  · exact .inl h0
  · exact .inr ⟨g, cap, cur, h1, Nat.le_trans hb h2, h3⟩
theorem nst_new (g : Nat) (w : World) :
    Calls Tryz.prog 106 #[.pointer (some ⟨g, 0, none⟩)] w fun e w' => (∃ bx ls, e = .returned (.func (.func 132) #[] #[.pointer (some ⟨bx, 0, none⟩), .pointer (some ⟨ls, 0, none⟩)]) ∧ w.heap.size ≤ bx ∧ w.heap.size ≤ ls ∧ w'.heap[bx]? = some (.cells #[.pointer (some ⟨g, 0, none⟩)] 113 (0, 0)) ∧ w'.heap[ls]? = some (.cells #[.int .i64 0] 3 (0, 0))) ∧ Below w.heap.size w w' := by
  have hmf : ∀ (fn : Fn) (first cap : Array Value) (w : World), (Instr.makeFunc fn first cap).run Tryz.prog w = .ok (.func fn first cap) w := fun _ _ _ _ => rfl
  go_enter Tryz.func106, Tryz.ntmps106
  go_wp2_with fail
  go_ret
  refine ⟨⟨_, _, rfl, Nat.le_refl _, by simp, ?_, ?_⟩, ((Below.refl _ _).alloc (Nat.le_refl _) _).alloc (by simp) _⟩
  · rw [Below.heap_alloc _ _ _ (by simp)]
    exact heap_alloc_new w _
  · have := heap_alloc_new (w.alloc (.cells #[.pointer (some ⟨g, 0, none⟩)] 113)) (.cells #[.int .i64 0] 3)
    simpa using this
theorem nln_new (g : Nat) (w : World) :
    Calls Tryz.prog 107 #[.pointer (some ⟨g, 0, none⟩)] w fun e w' => (∃ bx, e = .returned (.func (.func 134) #[] #[.pointer (some ⟨bx, 0, none⟩)]) ∧ w.heap.size ≤ bx ∧ w'.heap[bx]? = some (.cells #[.pointer (some ⟨g, 0, none⟩)] 113 (0, 0))) ∧ Below w.heap.size w w' := by
  have hmf : ∀ (fn : Fn) (first cap : Array Value) (w : World), (Instr.makeFunc fn first cap).run Tryz.prog w = .ok (.func fn first cap) w := fun _ _ _ _ => rfl
  go_enter Tryz.func107, Tryz.ntmps107
  go_wp2_with fail
  go_ret
  exact ⟨⟨_, rfl, Nat.le_refl _, heap_alloc_new w _⟩, (Below.refl _ _).alloc (Nat.le_refl _) _⟩
/-- what Decode answers -/
def DecP (err : Nat) (l : List Rec.Ln) (pos : Nat) (w : World) (e : Ending) (w' : World) : Prop :=
  ∃ v, e = .returned (.tuple #[v, .int .i64 (err : Int), .int .i64 (pos : Int)]) ∧ (err = 0 → w'.ownsRow w.heap.size 26 2 v l.length (lnV l)) ∧ (err ≠ 0 → v = .slice none 0 0) ∧ Below w.heap.size w w'
set_option maxHeartbeats 2000000 in
set_option maxRecDepth 100000 in
theorem decode_any (s : ByteArray) (w : World) (hs0 : s.size ≤ 1125899906842624) (R : Nat × List Rec.Ln × Nat) (hR : R = Rec.decF s) :
    Calls Tryz.prog 70 #[.string s] w fun e w' => DecP R.1 R.2.1 R.2.2 w e w' := by
  unfold Rec.decF at hR
  by_cases hs : 131072 < s.size
  · rw [if_pos hs] at hR
    have hs' : (131072 : Int) < (s.size : Int) := by omega
    go_enter Tryz.func70, Tryz.ntmps70
    go_wp2_with fail
    go_ret3
    rw [hR]
    exact ⟨.slice none 0 0, rfl, fun h => absurd h (by decide), fun _ => rfl, Below.refl _ _⟩
  rw [if_neg hs] at hR
  have hs' : ¬ (131072 : Int) < (s.size : Int) := by omega
  have hle := Rec.rd_le s 0 (Nat.zero_le _)
  rw [List.drop_zero, Nat.zero_add] at hle
  have hclt := (Code.rd_lt (Sums.bl s) (Sums.bl_byt s)).1
  have hrd0 : rdAt s 0 = Code.rd (Sums.bl s) := rfl
  have HU : Hid (∀ g W, Rdr g s 0 W → Calls Tryz.prog 104 #[.pointer (some ⟨g, 0, none⟩)] W fun e w' => e = .returned (.tuple #[.int .u64 ((Code.rd (Sums.bl s)).1 : Int), .int .i64 ((Code.rd (Sums.bl s)).2.1 : Int)]) ∧ Rdr g s (Code.rd (Sums.bl s)).2.2 w' ∧ Only g W w') := fun g W h => by
    have := ruint_any g s 0 W h (Nat.zero_le _) (by omega)
    rw [hrd0, Nat.zero_add] at this
    exact this
  clear hrd0
  obtain ⟨c, E0, p0, hq⟩ : ∃ c E0 p0, Code.rd (Sums.bl s) = (c, E0, p0) := ⟨_, _, _, rfl⟩
  rw [hq] at hR hle hclt HU
  simp only at hR hle hclt HU
  clear hq
  by_cases h0 : ¬ E0 = 0
  · rw [if_pos h0] at hR
    have HR := Hid.mk' hR
    have h0' : ((E0 : Int) == 0) = false := by simp; exact h0
    have H0 := Hid.mk' h0
    clear hR h0
    go_enter Tryz.func70, Tryz.ntmps70
    go_wp2_with fail
    refine (read_any s w).mono ?_
    rintro e w1 ⟨g, hg, rfl, hr1, hb1⟩
    have HB1 := Hid.mk' hb1
    have HG := Hid.mk' hg
    have HR1 := Hid.mk' hr1
    clear hg hr1 hb1
    go_wp2_with fail
    refine (HU.out g w1 HR1.out).mono ?_
    rintro e w2 ⟨rfl, hr2, ho2⟩
    have HB2 : Hid (Below w.heap.size w w2) := HB1.out.trans (ho2.below HG.out HB1.out.size)
    clear hr2 ho2 HR1 HB1
    go_wp2_with fail
    go_ret3
    exact ⟨.slice none 0 0, ret_tup3 rfl (val_int (by rw [HR.out])) (val_int (by rw [HR.out]; rfl)), fun h => absurd h (by rw [HR.out]; exact H0.out), fun _ => rfl, HB2.out⟩
  have h0 : E0 = 0 := by omega
  rw [if_neg (by omega)] at hR
  obtain ⟨RS, hRS⟩ : ∃ RS, RS = Rec.stF s c p0 0 := ⟨_, rfl⟩
  rw [← hRS] at hR
  have hst := Rec.st_ok s c p0 0 hle (by decide) (by decide)
  have hstle := Rec.st_le s c p0 0 hle
  rw [← hRS] at hst hstle
  have HRS := Hid.mk' hRS
  have HST := Hid.mk' hst
  subst h0
  clear hRS hst
  have HCL := Hid.mk' hclt
  clear hclt
  by_cases h1 : ¬ RS.1 = 0
  · rw [if_pos h1] at hR
    have HR := Hid.mk' hR
    have h1' : (((RS.1 : Nat) : Int) == 0) = false := by simp; exact h1
    have H1 := Hid.mk' h1
    clear hR h1
    go_enter Tryz.func70, Tryz.ntmps70
    go_wp2_with fail
    refine (read_any s w).mono ?_
    rintro e w1 ⟨g, hg, rfl, hr1, hb1⟩
    have HB1 := Hid.mk' hb1
    have HG := Hid.mk' hg
    have HR1 := Hid.mk' hr1
    clear hg hr1 hb1
    go_wp2_with fail
    refine (HU.out g w1 HR1.out).mono ?_
    rintro e w2 ⟨rfl, hr2, ho2⟩
    have HB2 : Hid (Below w.heap.size w w2) := HB1.out.trans (ho2.below HG.out HB1.out.size)
    have HR2 := Hid.mk' hr2
    clear hr2 ho2 HR1 HB1
    go_wp2_with fail
    refine (nst_new g w2).mono ?_
    rintro e w3 ⟨⟨bx, ls, rfl, hbx, hls, k1, k2⟩, hb3⟩
    have HB3 : Hid (Below w.heap.size w w3) := HB2.out.trans ⟨hb3.os, hb3.tape, hb3.output, hb3.size, fun k hk => hb3.block k (Nat.lt_of_lt_of_le hk HB2.out.size)⟩
    have HR3 := Hid.mk' (HR2.out.below hb3 HR2.out.lt)
    have HK := Hid.mk' (And.intro k1 k2)
    have HLS : Hid (w.heap.size ≤ ls) := Nat.le_trans HB2.out.size hls
    clear hbx hls k1 k2 hb3 HB2 HR2
    go_wp2_with fail
    refine (colS_any g bx ls s p0 c w3 HR3.out HK.out.1 HK.out.2 hle (by omega) HCL.out RS HRS.out _ rfl).mono ?_
    rintro e w4 ⟨v, rfl, _, ht4⟩
    rw [if_neg (by exact H1.out)]
    have HB4 : Hid (Below w.heap.size w w4) := HB3.out.trans (ht4.below HG.out HLS.out HB3.out.size)
    clear ht4 HB3 HR3
    go_wp2_with fail
    go_ret3
    exact ⟨.slice none 0 0, ret_tup3 rfl (val_int (by rw [HR.out])) (val_int (by rw [HR.out])), fun h => absurd h (by rw [HR.out]; exact H1.out), fun _ => rfl, HB4.out⟩
  have h1 : RS.1 = 0 := by omega
  rw [if_neg (by omega)] at hR
  have H1 := Hid.mk' h1
  obtain ⟨z1, z2, z3, z4⟩ := HST.out h1
  clear h1
  obtain ⟨RL, hRL⟩ : ∃ RL, RL = Rec.lnF s c RS.2.2 := ⟨_, rfl⟩
  rw [← hRL] at hR
  have hln := Rec.ln_ok s c RS.2.2 z2
  have hlnle := Rec.ln_le s c RS.2.2 z2
  rw [← hRL] at hln hlnle
  have HRL := Hid.mk' hRL
  have HLN := Hid.mk' hln
  have hzl : RS.2.1.length ≤ 131072 := by
    have q1 := Rec.stN_len RS.2.1 0
    have q2 := congrArg List.length z1
    rw [List.length_append, List.length_drop, Sums.bl_length] at q2
    omega
  have HZ3 := Hid.mk' z3
  clear hRL hln z1 z2 z3 z4
  by_cases h2 : ¬ RL.1 = 0
  · rw [if_pos h2] at hR
    have HR := Hid.mk' hR
    have h2' : (((RL.1 : Nat) : Int) == 0) = false := by simp; exact h2
    have H2 := Hid.mk' h2
    clear hR h2
    go_enter Tryz.func70, Tryz.ntmps70
    go_wp2_with fail
    refine (read_any s w).mono ?_
    rintro e w1 ⟨g, hg, rfl, hr1, hb1⟩
    have HB1 := Hid.mk' hb1
    have HG := Hid.mk' hg
    have HR1 := Hid.mk' hr1
    clear hg hr1 hb1
    go_wp2_with fail
    refine (HU.out g w1 HR1.out).mono ?_
    rintro e w2 ⟨rfl, hr2, ho2⟩
    have HB2 : Hid (Below w.heap.size w w2) := HB1.out.trans (ho2.below HG.out HB1.out.size)
    have HR2 := Hid.mk' hr2
    clear hr2 ho2 HR1 HB1
    go_wp2_with fail
    refine (nst_new g w2).mono ?_
    rintro e w3 ⟨⟨bx, ls, rfl, hbx, hls, k1, k2⟩, hb3⟩
    have HB3 : Hid (Below w.heap.size w w3) := HB2.out.trans ⟨hb3.os, hb3.tape, hb3.output, hb3.size, fun k hk => hb3.block k (Nat.lt_of_lt_of_le hk HB2.out.size)⟩
    have HR3 := Hid.mk' (HR2.out.below hb3 HR2.out.lt)
    have HK := Hid.mk' (And.intro k1 k2)
    have HLS : Hid (w.heap.size ≤ ls) := Nat.le_trans HB2.out.size hls
    clear hbx hls k1 k2 hb3 HB2 HR2
    go_wp2_with fail
    refine (colS_any g bx ls s p0 c w3 HR3.out HK.out.1 HK.out.2 hle (by omega) HCL.out RS HRS.out _ rfl).mono ?_
    rintro e w4 ⟨v4, rfl, hv4, ht4⟩
    rw [if_pos H1.out, H1.out]
    have HB4 : Hid (Below w.heap.size w w4) := HB3.out.trans (ht4.below HG.out HLS.out HB3.out.size)
    have HV4 := Hid.mk' (own_mono (hv4 H1.out).1 HB3.out.size)
    have HR4 := Hid.mk' (hv4 H1.out).2
    clear ht4 hv4 HB3 HR3
    go_wp2_with fail
    refine (nln_new g w4).mono ?_
    rintro e w5 ⟨⟨bx2, rfl, hbx2, k3⟩, hb5⟩
    have HB5 : Hid (Below w.heap.size w w5) := HB4.out.trans ⟨hb5.os, hb5.tape, hb5.output, hb5.size, fun k hk => hb5.block k (Nat.lt_of_lt_of_le hk HB4.out.size)⟩
    have HR5 := Hid.mk' (HR4.out.below hb5 HR4.out.lt)
    have HV5 := Hid.mk' (row_kept HV4.out fun k hk => hb5.block k (HV4.out.lt k hk).2)
    have HK3 := Hid.mk' k3
    clear hbx2 k3 hb5 HB4 HR4 HV4
    go_wp2_with fail
    refine (colL_any g bx2 s RS.2.2 c w5 HR5.out HK3.out hstle (by omega) HCL.out RL HRL.out _ rfl).mono ?_
    rintro e w6 ⟨v6, rfl, _, ht6⟩
    rw [if_neg (by exact H2.out)]
    have HB6 : Hid (Below w.heap.size w w6) := HB5.out.trans (ht6.below HG.out HG.out HB5.out.size)
    clear ht6 HB5 HR5 HV5
    go_wp2_with fail
    go_ret3
    exact ⟨.slice none 0 0, ret_tup3 rfl (val_int (by rw [HR.out])) (val_int (by rw [HR.out])), fun h => absurd h (by rw [HR.out]; exact H2.out), fun _ => rfl, HB6.out⟩
  · have h2 : RL.1 = 0 := by omega
    rw [if_neg (by omega)] at hR
    have HR := Hid.mk' hR
    have H2 := Hid.mk' h2
    obtain ⟨y1, y2, y3, y4⟩ := HLN.out h2
    have HY4 := Hid.mk' y4
    have HY3 : Hid (RS.2.1.length = RL.2.1.length) := by rw [HZ3.out]; exact y3.symm
    clear hR h2 y1 y2 y3 y4
    go_enter Tryz.func70, Tryz.ntmps70
    go_wp2_with fail
    refine (read_any s w).mono ?_
    rintro e w1 ⟨g, hg, rfl, hr1, hb1⟩
    have HB1 := Hid.mk' hb1
    have HG := Hid.mk' hg
    have HR1 := Hid.mk' hr1
    clear hg hr1 hb1
    go_wp2_with fail
    refine (HU.out g w1 HR1.out).mono ?_
    rintro e w2 ⟨rfl, hr2, ho2⟩
    have HB2 : Hid (Below w.heap.size w w2) := HB1.out.trans (ho2.below HG.out HB1.out.size)
    have HR2 := Hid.mk' hr2
    clear hr2 ho2 HR1 HB1
    go_wp2_with fail
    refine (nst_new g w2).mono ?_
    rintro e w3 ⟨⟨bx, ls, rfl, hbx, hls, k1, k2⟩, hb3⟩
    have HB3 : Hid (Below w.heap.size w w3) := HB2.out.trans ⟨hb3.os, hb3.tape, hb3.output, hb3.size, fun k hk => hb3.block k (Nat.lt_of_lt_of_le hk HB2.out.size)⟩
    have HR3 := Hid.mk' (HR2.out.below hb3 HR2.out.lt)
    have HK := Hid.mk' (And.intro k1 k2)
    have HLS : Hid (w.heap.size ≤ ls) := Nat.le_trans HB2.out.size hls
    clear hbx hls k1 k2 hb3 HB2 HR2
    go_wp2_with fail
    refine (colS_any g bx ls s p0 c w3 HR3.out HK.out.1 HK.out.2 hle (by omega) HCL.out RS HRS.out _ rfl).mono ?_
    rintro e w4 ⟨v4, rfl, hv4, ht4⟩
    rw [if_pos H1.out, H1.out]
    have HB4 : Hid (Below w.heap.size w w4) := HB3.out.trans (ht4.below HG.out HLS.out HB3.out.size)
    have HV4 := Hid.mk' (own_mono (hv4 H1.out).1 HB3.out.size)
    have HR4 := Hid.mk' (hv4 H1.out).2
    clear ht4 hv4 HB3 HR3
    go_wp2_with fail
    refine (nln_new g w4).mono ?_
    rintro e w5 ⟨⟨bx2, rfl, hbx2, k3⟩, hb5⟩
    have HB5 : Hid (Below w.heap.size w w5) := HB4.out.trans ⟨hb5.os, hb5.tape, hb5.output, hb5.size, fun k hk => hb5.block k (Nat.lt_of_lt_of_le hk HB4.out.size)⟩
    have HR5 := Hid.mk' (HR4.out.below hb5 HR4.out.lt)
    have HV5 := Hid.mk' (row_kept HV4.out fun k hk => hb5.block k (HV4.out.lt k hk).2)
    have HK3 := Hid.mk' k3
    clear hbx2 k3 hb5 HB4 HR4 HV4
    go_wp2_with fail
    refine (colL_any g bx2 s RS.2.2 c w5 HR5.out HK3.out hstle (by omega) HCL.out RL HRL.out _ rfl).mono ?_
    rintro e w6 ⟨v6, rfl, hv6, ht6⟩
    rw [if_pos H2.out, H2.out]
    have HB6 : Hid (Below w.heap.size w w6) := HB5.out.trans (ht6.below HG.out HG.out HB5.out.size)
    have HV6 := Hid.mk' (own_mono (hv6 H2.out).1 HB5.out.size)
    have HR6 := Hid.mk' (hv6 H2.out).2
    have HW6 : Hid (w6.ownsRow w.heap.size 3 1 v4 RS.2.1.length (itv RS.2.1)) := row_kept HV5.out fun k hk => ht6.block k (HV5.out.lt k hk).2 (fun e => own_ty HV5.out HR5.out (by decide) (by rw [hk, e])) (fun e => own_ty HV5.out HR5.out (by decide) (by rw [hk, e]))
    clear ht6 hv6 HB5 HR5 HV5
    go_wp2_with fail
    refine (lines_any w.heap.size g s RL.2.2 RS.2.1 RL.2.1 v4 v6 w6 HR6.out HW6.out HV6.out HY3.out hzl hlnle (by omega) HY4.out R HR.out).mono ?_
    rintro e w7 ⟨v7, rfl, hv7, hn7, ho7⟩
    have HB7 : Hid (Below w.heap.size w w7) := HB6.out.trans (ho7.below HG.out HB6.out.size)
    have HV7 : Hid (R.1 = 0 → w7.ownsRow w.heap.size 26 2 v7 R.2.1.length (lnV R.2.1)) := fun h => own_mono (hv7 h) HB6.out.size
    have HN7 := Hid.mk' hn7
    clear hv7 hn7 ho7
    go_wp2_with fail
    go_ret3
    exact ⟨v7, rfl, HV7.out, HN7.out, HB7.out⟩
end Go.Proofs.YtlplbnlfajdcbaaGreatDoor
