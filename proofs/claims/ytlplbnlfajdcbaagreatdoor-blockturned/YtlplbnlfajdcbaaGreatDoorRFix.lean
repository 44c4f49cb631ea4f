/-
  What a Reader's Fixed does. Conditions: as each says.
-/
import Derived.Test.YtlplbnlfajdcbaaGreatDoorRText
namespace Go.Proofs.YtlplbnlfajdcbaaGreatDoor
open Go.RowKit
set_option linter.unusedVariables false
/-- the number that bytes say, the lowest first -/
def leV : List Nat → Nat
  | [] => 0
  | b :: l => b + 256 * leV l
theorem leV_append : ∀ (l : List Nat) (b : Nat), leV (l ++ [b]) = leV l + b * 2 ^ (8 * l.length)
  | [], b => by simp [leV]
  | c :: l, b => by
      have h : 2 ^ (8 * (l.length + 1)) = 256 * 2 ^ (8 * l.length) := by rw [Nat.mul_add, Nat.pow_add, Nat.mul_comm]
      rw [List.cons_append, leV, leV_append l b, leV, List.length_cons, h, Nat.mul_add, Nat.add_assoc, Nat.mul_left_comm]
theorem leV_lt : ∀ (l : List Nat), (∀ z ∈ l, z < 256) → leV l < 2 ^ (8 * l.length)
  | [], _ => by simp [leV]
  | c :: l, h => by
      have h1 := leV_lt l (fun z hz => h z (List.mem_cons_of_mem _ hz))
      have h2 := h c (List.mem_cons_self ..)
      have h3 : 2 ^ (8 * (l.length + 1)) = 256 * 2 ^ (8 * l.length) := by rw [Nat.mul_add, Nat.pow_add, Nat.mul_comm]
      rw [leV, List.length_cons, h3]
      omega
theorem fix_64 (m c i : Nat) (hi : i ≤ 7) (hm : m < 2 ^ (8 * i)) (hc : c < 256) : m + c * 2 ^ (8 * i) < 18446744073709551616 := by
  have h1 : (c + 1) * 2 ^ (8 * i) ≤ 256 * 2 ^ (8 * i) := Nat.mul_le_mul_right _ (by omega)
  have h2 : 256 * 2 ^ (8 * i) = 2 ^ (8 * i + 8) := by rw [Nat.pow_add, Nat.mul_comm]
  have h3 : 2 ^ (8 * i + 8) ≤ 2 ^ 64 := Nat.pow_le_pow_right (by decide) (by omega)
  rw [Nat.add_mul] at h1
  omega
theorem fix_or (m c i : Nat) (hi : i ≤ 7) (hm : m < 2 ^ (8 * i)) (hc : c < 256) : bits .or .u64 (m : Int) ((c : Int) * 2 ^ (8 * i)) = ((m + c * 2 ^ (8 * i) : Nat) : Int) := by
  have h := fix_64 m c i hi hm hc
  rw [show (c : Int) * 2 ^ (8 * i) = ((c * 2 ^ (8 * i) : Nat) : Int) by simp, u64_or_nat _ _ (by omega) (by omega)]
  congr 1
  have := Nat.two_pow_add_eq_or_of_lt hm c
  rw [Nat.or_comm, Nat.mul_comm c, ← this, Nat.add_comm]
def leAt (s : ByteArray) (a k : Nat) : Nat := leV (((Sums.bl s).drop a).take k)
theorem leAt_step (s : ByteArray) (a k : Nat) (h : a + k < s.size) : leAt s a (k + 1) = leAt s a k + (Sums.bl s).getD (a + k) 0 * 2 ^ (8 * k) := by
  unfold leAt
  have hl : k < ((Sums.bl s).drop a).length := by rw [List.length_drop, Sums.bl_length]; omega
  rw [List.take_succ_eq_append_getElem hl, leV_append, List.length_take, Nat.min_eq_left (by omega), List.getElem_drop, List.getD_eq_getElem?_getD, List.getElem?_eq_getElem (by rw [Sums.bl_length]; omega)]
  rfl
theorem leAt_lt (s : ByteArray) (a k : Nat) : leAt s a k < 2 ^ (8 * k) := by
  unfold leAt
  have h1 := leV_lt (((Sums.bl s).drop a).take k) (fun z hz => byt_drop s a z (List.mem_of_mem_take hz))
  have h2 : 2 ^ (8 * (((Sums.bl s).drop a).take k).length) ≤ 2 ^ (8 * k) := Nat.pow_le_pow_right (by decide) (by rw [List.length_take]; omega)
  omega
set_option maxRecDepth 100000 in
set_option maxHeartbeats 2000000 in
theorem fixIn_any (g bw br : Nat) (s : ByteArray) (a k : Nat) (w : World) (h : Rdr g s a w) (hbr : w.cell? ⟨br, 0, none⟩ = some (.pointer (some ⟨g, 0, none⟩))) (hbw : w.cell? ⟨bw, 0, none⟩ = some (.int .i64 (k : Int))) (hrl : br < w.heap.size) (hrg : br ≠ g) (ha : a ≤ s.size) (hs : s.size ≤ 281474976710656) (hk : k ≤ 8) :
    Calls Tryz.prog 100 #[.pointer (some ⟨bw, 0, none⟩), .pointer (some ⟨br, 0, none⟩)] w fun e w' => e = .returned (.tuple #[.int .u64 ((if a + k ≤ s.size then leAt s a k else 0 : Nat) : Int), .int .i64 ((if a + k ≤ s.size then 0 else 30 : Nat) : Int)]) ∧ ∃ a', Rdr g s a' w' ∧ Only g w w' ∧ ((if a + k ≤ s.size then 0 else 30 : Nat) = 0 → a' = a + k) := by
  obtain ⟨V, HV⟩ : ∃ V, Hid (V = if a + k ≤ s.size then leAt s a k else 0) := ⟨_, rfl⟩
  obtain ⟨E, HE⟩ : ∃ E : Nat, Hid (E = if a + k ≤ s.size then 0 else 30) := ⟨_, rfl⟩
  rw [← HV.out, ← HE.out]
  have HH := Hid.mk' h
  have HA := Hid.mk' ha
  have HS := Hid.mk' hs
  have HK := Hid.mk' hk
  have HBR := Hid.mk' hbr
  have HRL := Hid.mk' hrl
  have HRG := Hid.mk' hrg
  have hk8 : (k : Int) ≤ 8 := by omega
  clear h ha hs hk hbr hrl hrg
  go_enter Tryz.func100, Tryz.ntmps100
  go_wp2_with fail
  clear hbw
  go_loopw [4, 9] (fun n' i' wr => ∃ (i m : Nat), i ≤ k ∧ n' = .int .u64 (m : Int) ∧ i' = .int .i64 (i : Int) ∧ m = leAt s a i ∧ a + i ≤ s.size ∧ Rdr g s (a + i) wr ∧ Only g w wr) (fun _ i' _ => k - (intOf i').toNat)
  case atStart => exact ⟨0, 0, by omega, rfl, rfl, by simp [leAt, leV], HA.out, HH.out, Only.refl _ _⟩
  case round =>
    obtain ⟨i, m, hi, rfl, rfl, hm, hai, hr, ho⟩ := hrel
    have hbr : wr.cell? ⟨br, 0, none⟩ = some (.pointer (some ⟨g, 0, none⟩)) := (ho.cell HRL.out HRG.out).trans HBR.out
    have HI := Hid.mk' hi
    have HM := Hid.mk' hm
    have HAI := Hid.mk' hai
    have HR := Hid.mk' hr
    have HO := Hid.mk' ho
    clear hi hm hai hr ho
    by_cases hik : i < k
    · have hik' : (i : Int) < (k : Int) := by omega
      have HIK := Hid.mk' hik
      clear hik
      by_cases hlt : a + i < s.size
      · have HL := Hid.mk' hlt
        clear hlt
        go_wp2_with fail
        refine (next_some g s (a + i) wr HR.out HL.out (by have := HS.out; omega)).mono ?_
        rintro e w1 ⟨rfl, hr1, ho1⟩
        obtain ⟨b, HB⟩ : ∃ b, Hid (b = (Sums.bl s).getD (a + i) 0) := ⟨_, rfl⟩
        have H256 : Hid (b < 256) := by rw [HB.out]; exact bl_lt _ _
        rw [← HB.out]
        have hbr1 : w1.cell? ⟨br, 0, none⟩ = some (.pointer (some ⟨g, 0, none⟩)) := (ho1.cell (Nat.lt_of_lt_of_le HRL.out HO.out.size) HRG.out).trans hbr
        have HO1 : Hid (Only g w w1) := HO.out.trans ho1
        have HR1 := Hid.mk' hr1
        have b0 : (0 : Int) ≤ (b : Int) := by omega
        have b1 : (b : Int) < 256 := by have := H256.out; omega
        obtain ⟨r, HRr⟩ : ∃ r, Hid (r = m + b * 2 ^ (8 * i)) := ⟨_, rfl⟩
        have hi7 : i ≤ 7 := by have := HIK.out; have := HK.out; omega
        have hml : m < 2 ^ (8 * i) := by rw [HM.out]; exact leAt_lt s a i
        have hor : bits .or .u64 (m : Int) ((b : Int) * 2 ^ (8 * i)) = (r : Int) := by rw [HRr.out]; exact fix_or m b i hi7 hml H256.out
        have r64 : (r : Int) < 18446744073709551616 := by have := fix_64 m b i hi7 hml H256.out; rw [HRr.out]; omega
        have FIN : Hid (i + 1 ≤ k ∧ r = leAt s a (i + 1) ∧ a + (i + 1) ≤ s.size ∧ Rdr g s (a + (i + 1)) w1) := by
          refine ⟨HIK.out, ?_, HL.out, HR1.out⟩
          rw [HRr.out, leAt_step s a i HL.out, ← HB.out, ← HM.out]
        clear ho1 hr1 hml hbr
        rcases (show i = 0 ∨ i = 1 ∨ i = 2 ∨ i = 3 ∨ i = 4 ∨ i = 5 ∨ i = 6 ∨ i = 7 by omega) with rfl | rfl | rfl | rfl | rfl | rfl | rfl | rfl
        all_goals
          clear hi7
          simp only [Nat.reduceMul, Nat.mul_zero, Int.pow_zero, Int.mul_one, Int.reducePow] at hor
          go_wp2_with fail
          go_roundw
          case rel => exact ⟨_, r, FIN.out.1, rfl, rfl, FIN.out.2.1, FIN.out.2.2.1, FIN.out.2.2.2, HO1.out⟩
          case measure => have := HIK.out; simp [intOf]; omega
      · have he : a + i = s.size := by have := HAI.out; omega
        have HR2 : Hid (Rdr g s s.size wr) := by rw [← he]; exact HR.out
        have HVE : Hid (V = 0 ∧ E = 30) := by
          have := HIK.out
          rw [HV.out, HE.out, if_neg (by omega), if_neg (by omega)]
          exact ⟨rfl, rfl⟩
        clear hlt he
        go_wp2_with fail
        refine (next_none g s wr HR2.out (by have := HS.out; omega)).mono ?_
        rintro e w1 ⟨rfl, n, rfl⟩
        go_wp2_with fail
        go_ret2
        rw [HVE.out.1, HVE.out.2]
        exact ⟨rfl, s.size, HR2.out, HO.out.drewN n, fun h => by simp at h⟩
    · obtain rfl : i = k := by have := HI.out; omega
      have hik' : ¬ (i : Int) < (i : Int) := by omega
      have HVE : Hid (V = m ∧ E = 0) := by
        rw [HV.out, HE.out, if_pos HAI.out, if_pos HAI.out]
        exact ⟨HM.out.symm, rfl⟩
      go_wp2_with fail
      go_ret2
      rw [HVE.out.1, HVE.out.2]
      exact ⟨rfl, a + i, HR.out, HO.out, fun _ => rfl⟩
theorem ent_fix (args : Array Value) (w : World) : (callFunc 100 args).run Tryz.prog w = .ok (.enter 100 args) w :=
  call_enter Tryz.func100 (by kernel_rfl) rfl args w
/-- what Fixed answers, and how far it goes on -/
def rfixR (s : ByteArray) (a : Nat) (k : Int) : Nat × Nat × Nat :=
  if k < 1 ∨ 8 < k then (0, 1, 0) else if a + k.toNat ≤ s.size then (leAt s a k.toNat, 0, k.toNat) else (0, 30, 0)
set_option maxHeartbeats 1000000 in
theorem rfix_bad (g : Nat) (k : Int) (w : World) (h : k < 1 ∨ 8 < k) :
    Calls Tryz.prog 63 #[.pointer (some ⟨g, 0, none⟩), .int .i64 k] w fun e w' => e = .returned (.tuple #[.int .u64 0, .int .i64 1]) ∧ Below w.heap.size w w' := by
  rcases h with h | h
  · go_enter Tryz.func63, Tryz.ntmps63
    go_wp2_with fail
    go_ret2
    exact ⟨rfl, ((Below.refl _ _).alloc (Nat.le_refl _) _).alloc (by simp) _⟩
  · have h' : ¬ k < 1 := by omega
    go_enter Tryz.func63, Tryz.ntmps63
    go_wp2_with fail
    go_ret2
    exact ⟨rfl, ((Below.refl _ _).alloc (Nat.le_refl _) _).alloc (by simp) _⟩
set_option maxHeartbeats 1000000 in
theorem rfix_in (g : Nat) (s : ByteArray) (a k : Nat) (w : World) (h : Rdr g s a w) (ha : a ≤ s.size) (hs : s.size ≤ 281474976710656) (hk1 : 1 ≤ k) (hk8 : k ≤ 8) :
    Calls Tryz.prog 63 #[.pointer (some ⟨g, 0, none⟩), .int .i64 (k : Int)] w fun e w' => e = .returned (.tuple #[.int .u64 ((if a + k ≤ s.size then leAt s a k else 0 : Nat) : Int), .int .i64 ((if a + k ≤ s.size then 0 else 30 : Nat) : Int)]) ∧ Rdr g s (a + if a + k ≤ s.size then k else 0) w' ∧ Only g w w' := by
  have hmf : ∀ (fn : Fn) (first cap : Array Value) (w : World), (Instr.makeFunc fn first cap).run Tryz.prog w = .ok (.func fn first cap) w := fun _ _ _ _ => rfl
  obtain ⟨V, HV⟩ : ∃ V, Hid (V = if a + k ≤ s.size then leAt s a k else 0) := ⟨_, rfl⟩
  obtain ⟨E, HE⟩ : ∃ E : Nat, Hid (E = if a + k ≤ s.size then 0 else 30) := ⟨_, rfl⟩
  obtain ⟨p, HP⟩ : ∃ p, Hid (p = a + if a + k ≤ s.size then k else 0) := ⟨_, rfl⟩
  rw [← HV.out, ← HE.out, ← HP.out]
  have HH := Hid.mk' h
  have HA := Hid.mk' ha
  have HS := Hid.mk' hs
  have HG : Hid (g < w.heap.size) := h.lt
  have HK := Hid.mk' hk8
  have g1 : ¬ (k : Int) < 1 := by omega
  have g8 : ¬ (8 : Int) < (k : Int) := by omega
  clear h ha hs hk1 hk8
  go_enter Tryz.func63, Tryz.ntmps63
  go_wp2_with fail
  obtain ⟨w0, hw0⟩ : ∃ w0, w0 = (w.alloc (.cells #[.pointer (some ⟨g, 0, none⟩)] 113)).alloc (.cells #[.int .i64 (k : Int)] 3) := ⟨_, rfl⟩
  have hb0 : Below w.heap.size w w0 := by rw [hw0]; exact ((Below.refl _ _).alloc (Nat.le_refl _) _).alloc (by simp) _
  have hz0 : w0.heap.size = w.heap.size + 2 := by rw [hw0]; simp
  have d0 : w0.cell? ⟨w.heap.size, 0, none⟩ = some (.pointer (some ⟨g, 0, none⟩)) := by rw [hw0]; simp [go_sem]
  have d1 : w0.cell? ⟨w.heap.size + 1, 0, none⟩ = some (.int .i64 (k : Int)) := by rw [hw0]; simp [go_sem]
  rw [← hw0]
  clear hw0
  have hr0 := HH.out.below hb0 HG.out
  refine (attempt_u 100 #[] #[.pointer (some ⟨w.heap.size + 1, 0, none⟩), .pointer (some ⟨w.heap.size, 0, none⟩)] g s a p V E w0 hr0 ?_ (fun w => ent_fix _ w) ?_).mono ?_
  · intro hE
    rw [HP.out]
    by_cases hc : a + k ≤ s.size
    · rw [HE.out, if_pos hc] at hE; exact absurd rfl hE
    · rw [if_neg hc]; rfl
  · intro w1 hr1 ho1
    have hg := HG.out
    have := fixIn_any g (w.heap.size + 1) w.heap.size s a k w1 hr1 ((ho1.cell (by omega) (by omega)).trans d0) ((ho1.cell (by omega) (by omega)).trans d1) (by have := ho1.size; omega) (by omega) HA.out HS.out HK.out
    rw [← HV.out, ← HE.out] at this
    refine this.mono ?_
    rintro e w' ⟨he, a', hr, ho, hE⟩
    refine ⟨he, a', hr, ho, fun h => ?_⟩
    rw [hE h, HP.out]
    by_cases hc : a + k ≤ s.size
    · rw [if_pos hc]
    · rw [HE.out, if_neg hc] at h; simp at h
  rintro e w2 ⟨rfl, hr2, ho2⟩
  have HR2 := Hid.mk' hr2
  have HO2 : Hid (Only g w w2) := (Only.of_below hb0).trans ho2
  clear hr2 ho2 hr0 hb0 hz0 d0 d1
  go_wp2_with fail
  go_ret2
  exact ⟨rfl, HR2.out, HO2.out⟩
theorem rfix_any (g : Nat) (s : ByteArray) (a : Nat) (k : Int) (w : World) (h : Rdr g s a w) (ha : a ≤ s.size) (hs : s.size ≤ 281474976710656) :
    Calls Tryz.prog 63 #[.pointer (some ⟨g, 0, none⟩), .int .i64 k] w fun e w' => e = .returned (.tuple #[.int .u64 ((rfixR s a k).1 : Int), .int .i64 ((rfixR s a k).2.1 : Int)]) ∧ Rdr g s (a + (rfixR s a k).2.2) w' ∧ Only g w w' := by
  unfold rfixR
  by_cases hk : k < 1 ∨ 8 < k
  · rw [if_pos hk]
    refine (rfix_bad g k w hk).mono ?_
    rintro e w' ⟨rfl, hb⟩
    exact ⟨rfl, h.below hb h.lt, Only.of_below hb⟩
  · rw [if_neg hk]
    obtain ⟨k, rfl⟩ := Int.eq_ofNat_of_zero_le (show 0 ≤ k by omega)
    rw [Int.toNat_natCast]
    have := rfix_in g s a k w h ha hs (by omega) (by omega)
    by_cases hc : a + k ≤ s.size
    · rw [if_pos hc]
      rw [if_pos hc, if_pos hc, if_pos hc] at this
      exact this
    · rw [if_neg hc]
      rw [if_neg hc, if_neg hc, if_neg hc] at this
      exact this
end Go.Proofs.YtlplbnlfajdcbaaGreatDoor
