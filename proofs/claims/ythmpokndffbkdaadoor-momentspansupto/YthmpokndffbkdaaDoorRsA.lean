/-
  The document's number, units, Spell. Conditions: as each says.
-/
import Derived.Test.YthmpokndffbkdaaDoorSx12
namespace Go.Proofs.YthmpokndffbkdaaDoor
open Go.RowKit
set_option linter.unusedVariables false
set_option maxRecDepth 100000 in
set_option maxHeartbeats 2000000 in
theorem rNumber_any (n : Nat) (w : World) (h1 : 1 ≤ n) (h2 : n ≤ 253402300799999) :
    Calls Tryd.prog 46 #[.int .i64 (n : Int)] w fun e w' => (∃ t, Sums.bl t = dec n ∧ e = .returned (.string t)) ∧ Below w.heap.size w w' := by
  have HL := Hid.mk' (dec_short n h2)
  have HB0 := Hid.mk' (Below.refl w.heap.size w)
  have HN := Hid.mk' h1
  clear h1
  go_enter Tryd.func46, Tryd.ntmps46
  go_wp2_with fail
  go_loopw [0, 3] (fun nv sv wr => ∃ (m : Nat) (u : ByteArray), nv = .int .i64 ((m : Nat) : Int) ∧ sv = .string u ∧ m ≤ 253402300799999 ∧ Hid ((0 < m → dec n = dec m ++ Sums.bl u) ∧ (m = 0 → dec n = Sums.bl u)) ∧ Hid (Below w.heap.size w wr)) (fun nv _ _ => (intOf nv).toNat)
  case atStart => exact ⟨n, ⟨#[]⟩, rfl, rfl, h2, ⟨fun _ => (List.append_nil _).symm, fun e => absurd e (by have := HN.out; omega)⟩, HB0⟩
  case round =>
    obtain ⟨m, u, rfl, rfl, hm, hd, hb⟩ := hrel
    by_cases h0 : 0 < m
    · have h0I : (0 : Int) < (m : Int) := by omega
      have hd1 := hd.out.1 h0
      have hus : u.size ≤ 15 := by
        have h3 := HL.out
        rw [hd1, List.length_append, Sums.bl_length] at h3
        omega
      have husI : (u.size : Int) ≤ 15 := by omega
      obtain ⟨z, hz⟩ : ∃ z, m % 10 = z := ⟨_, rfl⟩
      obtain ⟨q, hq⟩ : ∃ q, m / 10 = q := ⟨_, rfl⟩
      have hzI : (m : Int) % 10 = (z : Int) := by omega
      have hqI : (m : Int) / 10 = (q : Int) := by omega
      have hz9 : z ≤ 9 := by omega
      have hcv := conv_one z
      obtain ⟨o, ho⟩ : ∃ o, strOfNums [48 + (z : Int)] = o := ⟨_, rfl⟩
      have hbo : Sums.bl o = [48 + z] := by rw [← ho]; exact bl_one z hz9
      rw [ho] at hcv
      have hos : o.size = 1 := by rw [← Sums.bl_length, hbo]; rfl
      have hosI : (o.size : Int) = 1 := by omega
      have HD : Hid ((0 < q → dec n = dec q ++ Sums.bl (o ++ u)) ∧ (q = 0 → dec n = Sums.bl (o ++ u))) := by
        rw [Sums.bl_append, hbo]
        constructor
        · intro hq0
          rw [hd1, dec_step m (by omega), hq, hz, List.append_assoc]
        · intro hq0
          rw [hd1, dec_small m (by omega), show m = z by omega]
      have HQ := Hid.mk' (And.intro hq h0)
      have hqb : q ≤ 253402300799999 := by omega
      clear hd1 hbo ho hz hq h0
      have HBA := Hid.mk' (hb.out.alloc hb.out.size (.cells #[.int .u8 (48 + (z : Int))] 5))
      go_wp2_with fail
      go_roundw
      case rel => exact ⟨q, o ++ u, by first | rfl | exact int_eq hqI, rfl, hqb, HD, HBA⟩
      case measure => have := HQ.out; simp [intOf]; omega
    · have h0I : ¬ (0 : Int) < (m : Int) := by omega
      have hd2 := hd.out.2 (by omega)
      have HD := Hid.mk' hd2
      clear hd2 h0
      go_wp2_with fail
      go_ret
      exact ⟨⟨u, HD.out.symm, rfl⟩, hb.out⟩

/-- the rows of the units -/
structure Un2 (A B : Nat) (w : World) : Prop where
  a : w.heap[A]? = some (.cells #[.string ⟨#[100]⟩, .string ⟨#[104]⟩, .string ⟨#[109]⟩, .string ⟨#[115]⟩, .string ⟨#[109, 115]⟩] 9 (0, 0))
  b : w.heap[B]? = some (.cells #[.int .i64 86400000, .int .i64 3600000, .int .i64 60000, .int .i64 1000, .int .i64 1] 3 (0, 0))
theorem Un2.below {A B : Nat} {w w' : World} (h : Un2 A B w) (k : Below w.heap.size w w') : Un2 A B w' :=
  ⟨(k.block A (Array.getElem?_eq_some_iff.1 h.a).1).trans h.a, (k.block B (Array.getElem?_eq_some_iff.1 h.b).1).trans h.b⟩
set_option maxRecDepth 100000 in
theorem rUnits_any (w : World) : Calls Tryd.prog 42 #[] w fun e w' => e = .returned (.tuple #[.slice (some ⟨w.heap.size, 0, none⟩) 5 5, .slice (some ⟨w.heap.size + 1, 0, none⟩) 5 5]) ∧ Un2 w.heap.size (w.heap.size + 1) w' ∧ Below w.heap.size w w' := by
  have HU : Hid (Un2 w.heap.size (w.heap.size + 1) ((w.alloc (.cells #[.string ⟨#[100]⟩, .string ⟨#[104]⟩, .string ⟨#[109]⟩, .string ⟨#[115]⟩, .string ⟨#[109, 115]⟩] 9)).alloc (.cells #[.int .i64 86400000, .int .i64 3600000, .int .i64 60000, .int .i64 1000, .int .i64 1] 3)) ∧ Below w.heap.size w ((w.alloc (.cells #[.string ⟨#[100]⟩, .string ⟨#[104]⟩, .string ⟨#[109]⟩, .string ⟨#[115]⟩, .string ⟨#[109, 115]⟩] 9)).alloc (.cells #[.int .i64 86400000, .int .i64 3600000, .int .i64 60000, .int .i64 1000, .int .i64 1] 3))) := Hid.mk' (by
    have e : (w.alloc (.cells #[.string ⟨#[100]⟩, .string ⟨#[104]⟩, .string ⟨#[109]⟩, .string ⟨#[115]⟩, .string ⟨#[109, 115]⟩] 9)).heap.size = w.heap.size + 1 := by simp
    refine ⟨⟨?_, ?_⟩, ((Below.refl w.heap.size w).alloc (Nat.le_refl _) _).alloc (by simp) _⟩
    · rw [Below.heap_alloc _ _ _ (by rw [e]; omega)]
      exact heap_alloc_new w _
    · rw [← e]
      exact heap_alloc_new _ _)
  go_enter Tryd.func42, Tryd.ntmps42
  go_wp2_with fail
  go_ret2
  exact ⟨rfl, HU.out.1, HU.out.2⟩
set_option maxRecDepth 100000 in
set_option maxHeartbeats 16000000 in
theorem rSpell_any (n : Nat) (w : World) (h1 : 1 ≤ n) (h2 : n ≤ 253402300799999) :
    Calls Tryd.prog 22 #[.int .i64 (n : Int)] w fun e w' => e = .returned (.tuple #[.string (nums (spT n 5)), .int .i64 0]) ∧ Below w.heap.size w w' := by
  have HU := Hid.mk' (rUnits_any w)
  have t1 : ¬ (n : Int) < 1 := by omega
  have t2 : ¬ (253402300799999 : Int) < (n : Int) := by omega
  have HN := Hid.mk' h2
  obtain ⟨T, hT⟩ : ∃ T, nums (spT n 5) = T := ⟨_, rfl⟩
  rw [hT]
  have HT := Hid.mk' hT
  clear h1 hT
  go_enter Tryd.func22, Tryd.ntmps22
  go_wp2_with fail
  refine HU.out.mono ?_
  rintro e w1 ⟨rfl, hu, hb⟩
  have K1 : Hid (Un2 w.heap.size (w.heap.size + 1) w1 ∧ Below w.heap.size w w1) := ⟨hu, hb⟩
  clear hu hb HU
  generalize hG : w.heap.size = G at *
  have HG := Hid.mk' hG
  clear hG
  go_wp2_with fail
  go_loopw [0, 6, 7] (fun nv sv iv wr => ∃ (i : Nat) (u : ByteArray), iv = .int .i64 ((i : Nat) : Int) ∧ nv = .int .i64 ((spRm n i : Nat) : Int) ∧ sv = .string u ∧ i ≤ 5 ∧ u.size ≤ 100 ∧ Hid (Sums.bl u = spT n i) ∧ Hid (Un2 G (G + 1) wr ∧ Below G w wr)) (fun _ _ iv _ => 5 - (intOf iv).toNat)
  case atStart => exact ⟨0, ⟨#[]⟩, rfl, rfl, rfl, by decide, by decide, rfl, K1⟩
  case round =>
    obtain ⟨i, u, rfl, rfl, rfl, hi, hus, hbu, hmw⟩ := hrel
    have husI : (u.size : Int) ≤ 100 := by omega
    obtain ⟨R, hR⟩ : ∃ R, spRm n i = R := ⟨_, rfl⟩
    have hRb : R ≤ 253402300799999 := by rw [← hR]; exact Nat.le_trans (spRm_le n i) HN.out
    have hst : spT n (i + 1) = spT n i ++ (if 0 < R / unum i then dec (R / unum i) ++ uname i else []) := by rw [← hR]; rfl
    have hsr : spRm n (i + 1) = R % unum i := by rw [← hR]; rfl
    rw [hR]
    clear hR
    by_cases hi5 : i = 5
    · subst hi5
      clear hst hsr
      have HE : Hid (nums (spT n 5) = u) := Hid.mk' (by rw [← hbu.out]; exact nums_bl u)
      go_wp2_with fail
      go_ret2
      exact ⟨by rw [← HT.out, HE.out]; rfl, (by rw [HG.out]; exact hmw.out.2)⟩
    · rcases (show i = 0 ∨ i = 1 ∨ i = 2 ∨ i = 3 ∨ i = 4 by omega) with rfl | rfl | rfl | rfl | rfl
      · have hlb : wr.cell? ⟨G, 0, none⟩ = some (.string ⟨#[100]⟩) := by simp [World.cell?, hmw.out.1.a]
        have hlc : wr.cell? ⟨G + 1, 0, none⟩ = some (.int .i64 86400000) := by simp [World.cell?, hmw.out.1.b]
        rw [show unum 0 = 86400000 from rfl] at hst hsr
        rw [show uname 0 = [100] from rfl] at hst
        obtain ⟨c, hc⟩ : ∃ c, R / 86400000 = c := ⟨_, rfl⟩
        obtain ⟨m, hm⟩ : ∃ m, R % 86400000 = m := ⟨_, rfl⟩
        have hcI : (R : Int) / 86400000 = (c : Int) := by omega
        have hmI : (R : Int) % 86400000 = (m : Int) := by omega
        have hcb : c ≤ 253402300799999 := by omega
        rw [hc] at hst
        rw [hm] at hsr
        have HST := Hid.mk' (And.intro hst hsr)
        clear hst hsr hc hm hi5 hi
        by_cases hc0 : 0 < c
        · have hc0I : (0 : Int) < (c : Int) := by omega
          rw [if_pos hc0] at HST
          have DC := Hid.mk' (fun w => rNumber_any c w hc0 hcb)
          have HCB := Hid.mk' hcb
          have hwc : IntKind.i64.wrap (c : Int) = (c : Int) := by rw [IntKind.wrap_i64]; omega
          clear hc0
          obtain ⟨nm, hnm⟩ : ∃ nm, (⟨#[100]⟩ : ByteArray) = nm := ⟨_, rfl⟩
          have hns : nm.size = 1 := by rw [← hnm]; rfl
          rw [hnm] at hlb
          have HNM := Hid.mk' hnm
          have HNS := Hid.mk' hns
          clear hnm hns
          go_wp2_with fail
          go_region_held3 (fun w' => w'.cell? ⟨G + 1, 0, none⟩ = some (.int .i64 86400000) ∧ w'.cell? ⟨G, 0, none⟩ = some (.string nm)) (first | go_keep | exact ⟨hlc, hlb⟩ | exact ⟨zc, zb⟩)
            ((go_at_call 46; refine (DC.out _).mono ?_; rintro e wz ⟨⟨t, ht, rfl⟩, hbz⟩; have mz : Hid (Un2 G (G + 1) wz ∧ Below G w wz) := ⟨hmw.out.1.below (((Below.refl _ wr).drewN' 1).trans hbz), hmw.out.2.trans ((((Below.refl _ wr).drewN' 1).trans hbz).mono (by have := hmw.out.2.size; rw [HG.out] at this; exact this))⟩; have zb : wz.cell? ⟨G, 0, none⟩ = some (.string nm) := (by rw [← HNM.out]; simp [World.cell?, mz.out.1.a]); have zc : wz.cell? ⟨G + 1, 0, none⟩ = some (.int .i64 86400000) := (by simp [World.cell?, mz.out.1.b]); have hts2 : t.size ≤ 15 := (by rw [← Sums.bl_length, ht]; exact dec_short c HCB.out); have htI : (t.size : Int) ≤ 15 := (by omega); have hk1 : ¬ 9223372036854775807 < u.size + t.size := (by omega); have hk2 : ¬ 9223372036854775807 < u.size + t.size + nm.size := (by rw [HNS.out]; omega); clear hbz))
          clear hlb hlc
          go_wp2_with fail
          go_roundw
          case rel =>
            have hbl : Sums.bl (u ++ t ++ nm) = spT n 1 := by
              rw [HST.out.1, Sums.bl_append, Sums.bl_append, hbu.out, ht, List.append_assoc, ← HNM.out]; rfl
            have hln : (u ++ t ++ nm).size ≤ 100 := by
              rw [← Sums.bl_length, hbl]
              exact Nat.le_trans (spT_len n 1 HN.out) (by decide)
            exact ⟨1, u ++ t ++ nm, by first | rfl | simp, by rw [HST.out.2]; first | rfl | exact int_eq hmI, rfl, by decide, hln, hbl, mz⟩
          case measure => simp [intOf]
        · have hc0I : ¬ (0 : Int) < (c : Int) := by omega
          rw [if_neg hc0, List.append_nil] at HST
          clear hc0
          go_wp2_with fail
          go_roundw
          case rel => exact ⟨1, u, by first | rfl | simp, by rw [HST.out.2]; first | rfl | exact int_eq hmI, rfl, by decide, hus, Hid.mk' (by rw [HST.out.1]; exact hbu.out), hmw⟩
          case measure => simp [intOf]
      · have hlb : wr.cell? ⟨G, 1, none⟩ = some (.string ⟨#[104]⟩) := by simp [World.cell?, hmw.out.1.a]
        have hlc : wr.cell? ⟨G + 1, 1, none⟩ = some (.int .i64 3600000) := by simp [World.cell?, hmw.out.1.b]
        rw [show unum 1 = 3600000 from rfl] at hst hsr
        rw [show uname 1 = [104] from rfl] at hst
        obtain ⟨c, hc⟩ : ∃ c, R / 3600000 = c := ⟨_, rfl⟩
        obtain ⟨m, hm⟩ : ∃ m, R % 3600000 = m := ⟨_, rfl⟩
        have hcI : (R : Int) / 3600000 = (c : Int) := by omega
        have hmI : (R : Int) % 3600000 = (m : Int) := by omega
        have hcb : c ≤ 253402300799999 := by omega
        rw [hc] at hst
        rw [hm] at hsr
        have HST := Hid.mk' (And.intro hst hsr)
        clear hst hsr hc hm hi5 hi
        by_cases hc0 : 0 < c
        · have hc0I : (0 : Int) < (c : Int) := by omega
          rw [if_pos hc0] at HST
          have DC := Hid.mk' (fun w => rNumber_any c w hc0 hcb)
          have HCB := Hid.mk' hcb
          have hwc : IntKind.i64.wrap (c : Int) = (c : Int) := by rw [IntKind.wrap_i64]; omega
          clear hc0
          obtain ⟨nm, hnm⟩ : ∃ nm, (⟨#[104]⟩ : ByteArray) = nm := ⟨_, rfl⟩
          have hns : nm.size = 1 := by rw [← hnm]; rfl
          rw [hnm] at hlb
          have HNM := Hid.mk' hnm
          have HNS := Hid.mk' hns
          clear hnm hns
          go_wp2_with fail
          go_region_held3 (fun w' => w'.cell? ⟨G + 1, 1, none⟩ = some (.int .i64 3600000) ∧ w'.cell? ⟨G, 1, none⟩ = some (.string nm)) (first | go_keep | exact ⟨hlc, hlb⟩ | exact ⟨zc, zb⟩)
            ((go_at_call 46; refine (DC.out _).mono ?_; rintro e wz ⟨⟨t, ht, rfl⟩, hbz⟩; have mz : Hid (Un2 G (G + 1) wz ∧ Below G w wz) := ⟨hmw.out.1.below (((Below.refl _ wr).drewN' 1).trans hbz), hmw.out.2.trans ((((Below.refl _ wr).drewN' 1).trans hbz).mono (by have := hmw.out.2.size; rw [HG.out] at this; exact this))⟩; have zb : wz.cell? ⟨G, 1, none⟩ = some (.string nm) := (by rw [← HNM.out]; simp [World.cell?, mz.out.1.a]); have zc : wz.cell? ⟨G + 1, 1, none⟩ = some (.int .i64 3600000) := (by simp [World.cell?, mz.out.1.b]); have hts2 : t.size ≤ 15 := (by rw [← Sums.bl_length, ht]; exact dec_short c HCB.out); have htI : (t.size : Int) ≤ 15 := (by omega); have hk1 : ¬ 9223372036854775807 < u.size + t.size := (by omega); have hk2 : ¬ 9223372036854775807 < u.size + t.size + nm.size := (by rw [HNS.out]; omega); clear hbz))
          clear hlb hlc
          go_wp2_with fail
          go_roundw
          case rel =>
            have hbl : Sums.bl (u ++ t ++ nm) = spT n 2 := by
              rw [HST.out.1, Sums.bl_append, Sums.bl_append, hbu.out, ht, List.append_assoc, ← HNM.out]; rfl
            have hln : (u ++ t ++ nm).size ≤ 100 := by
              rw [← Sums.bl_length, hbl]
              exact Nat.le_trans (spT_len n 2 HN.out) (by decide)
            exact ⟨2, u ++ t ++ nm, by first | rfl | simp, by rw [HST.out.2]; first | rfl | exact int_eq hmI, rfl, by decide, hln, hbl, mz⟩
          case measure => simp [intOf]
        · have hc0I : ¬ (0 : Int) < (c : Int) := by omega
          rw [if_neg hc0, List.append_nil] at HST
          clear hc0
          go_wp2_with fail
          go_roundw
          case rel => exact ⟨2, u, by first | rfl | simp, by rw [HST.out.2]; first | rfl | exact int_eq hmI, rfl, by decide, hus, Hid.mk' (by rw [HST.out.1]; exact hbu.out), hmw⟩
          case measure => simp [intOf]
      · have hlb : wr.cell? ⟨G, 2, none⟩ = some (.string ⟨#[109]⟩) := by simp [World.cell?, hmw.out.1.a]
        have hlc : wr.cell? ⟨G + 1, 2, none⟩ = some (.int .i64 60000) := by simp [World.cell?, hmw.out.1.b]
        rw [show unum 2 = 60000 from rfl] at hst hsr
        rw [show uname 2 = [109] from rfl] at hst
        obtain ⟨c, hc⟩ : ∃ c, R / 60000 = c := ⟨_, rfl⟩
        obtain ⟨m, hm⟩ : ∃ m, R % 60000 = m := ⟨_, rfl⟩
        have hcI : (R : Int) / 60000 = (c : Int) := by omega
        have hmI : (R : Int) % 60000 = (m : Int) := by omega
        have hcb : c ≤ 253402300799999 := by omega
        rw [hc] at hst
        rw [hm] at hsr
        have HST := Hid.mk' (And.intro hst hsr)
        clear hst hsr hc hm hi5 hi
        by_cases hc0 : 0 < c
        · have hc0I : (0 : Int) < (c : Int) := by omega
          rw [if_pos hc0] at HST
          have DC := Hid.mk' (fun w => rNumber_any c w hc0 hcb)
          have HCB := Hid.mk' hcb
          have hwc : IntKind.i64.wrap (c : Int) = (c : Int) := by rw [IntKind.wrap_i64]; omega
          clear hc0
          obtain ⟨nm, hnm⟩ : ∃ nm, (⟨#[109]⟩ : ByteArray) = nm := ⟨_, rfl⟩
          have hns : nm.size = 1 := by rw [← hnm]; rfl
          rw [hnm] at hlb
          have HNM := Hid.mk' hnm
          have HNS := Hid.mk' hns
          clear hnm hns
          go_wp2_with fail
          go_region_held3 (fun w' => w'.cell? ⟨G + 1, 2, none⟩ = some (.int .i64 60000) ∧ w'.cell? ⟨G, 2, none⟩ = some (.string nm)) (first | go_keep | exact ⟨hlc, hlb⟩ | exact ⟨zc, zb⟩)
            ((go_at_call 46; refine (DC.out _).mono ?_; rintro e wz ⟨⟨t, ht, rfl⟩, hbz⟩; have mz : Hid (Un2 G (G + 1) wz ∧ Below G w wz) := ⟨hmw.out.1.below (((Below.refl _ wr).drewN' 1).trans hbz), hmw.out.2.trans ((((Below.refl _ wr).drewN' 1).trans hbz).mono (by have := hmw.out.2.size; rw [HG.out] at this; exact this))⟩; have zb : wz.cell? ⟨G, 2, none⟩ = some (.string nm) := (by rw [← HNM.out]; simp [World.cell?, mz.out.1.a]); have zc : wz.cell? ⟨G + 1, 2, none⟩ = some (.int .i64 60000) := (by simp [World.cell?, mz.out.1.b]); have hts2 : t.size ≤ 15 := (by rw [← Sums.bl_length, ht]; exact dec_short c HCB.out); have htI : (t.size : Int) ≤ 15 := (by omega); have hk1 : ¬ 9223372036854775807 < u.size + t.size := (by omega); have hk2 : ¬ 9223372036854775807 < u.size + t.size + nm.size := (by rw [HNS.out]; omega); clear hbz))
          clear hlb hlc
          go_wp2_with fail
          go_roundw
          case rel =>
            have hbl : Sums.bl (u ++ t ++ nm) = spT n 3 := by
              rw [HST.out.1, Sums.bl_append, Sums.bl_append, hbu.out, ht, List.append_assoc, ← HNM.out]; rfl
            have hln : (u ++ t ++ nm).size ≤ 100 := by
              rw [← Sums.bl_length, hbl]
              exact Nat.le_trans (spT_len n 3 HN.out) (by decide)
            exact ⟨3, u ++ t ++ nm, by first | rfl | simp, by rw [HST.out.2]; first | rfl | exact int_eq hmI, rfl, by decide, hln, hbl, mz⟩
          case measure => simp [intOf]
        · have hc0I : ¬ (0 : Int) < (c : Int) := by omega
          rw [if_neg hc0, List.append_nil] at HST
          clear hc0
          go_wp2_with fail
          go_roundw
          case rel => exact ⟨3, u, by first | rfl | simp, by rw [HST.out.2]; first | rfl | exact int_eq hmI, rfl, by decide, hus, Hid.mk' (by rw [HST.out.1]; exact hbu.out), hmw⟩
          case measure => simp [intOf]
      · have hlb : wr.cell? ⟨G, 3, none⟩ = some (.string ⟨#[115]⟩) := by simp [World.cell?, hmw.out.1.a]
        have hlc : wr.cell? ⟨G + 1, 3, none⟩ = some (.int .i64 1000) := by simp [World.cell?, hmw.out.1.b]
        rw [show unum 3 = 1000 from rfl] at hst hsr
        rw [show uname 3 = [115] from rfl] at hst
        obtain ⟨c, hc⟩ : ∃ c, R / 1000 = c := ⟨_, rfl⟩
        obtain ⟨m, hm⟩ : ∃ m, R % 1000 = m := ⟨_, rfl⟩
        have hcI : (R : Int) / 1000 = (c : Int) := by omega
        have hmI : (R : Int) % 1000 = (m : Int) := by omega
        have hcb : c ≤ 253402300799999 := by omega
        rw [hc] at hst
        rw [hm] at hsr
        have HST := Hid.mk' (And.intro hst hsr)
        clear hst hsr hc hm hi5 hi
        by_cases hc0 : 0 < c
        · have hc0I : (0 : Int) < (c : Int) := by omega
          rw [if_pos hc0] at HST
          have DC := Hid.mk' (fun w => rNumber_any c w hc0 hcb)
          have HCB := Hid.mk' hcb
          have hwc : IntKind.i64.wrap (c : Int) = (c : Int) := by rw [IntKind.wrap_i64]; omega
          clear hc0
          obtain ⟨nm, hnm⟩ : ∃ nm, (⟨#[115]⟩ : ByteArray) = nm := ⟨_, rfl⟩
          have hns : nm.size = 1 := by rw [← hnm]; rfl
          rw [hnm] at hlb
          have HNM := Hid.mk' hnm
          have HNS := Hid.mk' hns
          clear hnm hns
          go_wp2_with fail
          go_region_held3 (fun w' => w'.cell? ⟨G + 1, 3, none⟩ = some (.int .i64 1000) ∧ w'.cell? ⟨G, 3, none⟩ = some (.string nm)) (first | go_keep | exact ⟨hlc, hlb⟩ | exact ⟨zc, zb⟩)
            ((go_at_call 46; refine (DC.out _).mono ?_; rintro e wz ⟨⟨t, ht, rfl⟩, hbz⟩; have mz : Hid (Un2 G (G + 1) wz ∧ Below G w wz) := ⟨hmw.out.1.below (((Below.refl _ wr).drewN' 1).trans hbz), hmw.out.2.trans ((((Below.refl _ wr).drewN' 1).trans hbz).mono (by have := hmw.out.2.size; rw [HG.out] at this; exact this))⟩; have zb : wz.cell? ⟨G, 3, none⟩ = some (.string nm) := (by rw [← HNM.out]; simp [World.cell?, mz.out.1.a]); have zc : wz.cell? ⟨G + 1, 3, none⟩ = some (.int .i64 1000) := (by simp [World.cell?, mz.out.1.b]); have hts2 : t.size ≤ 15 := (by rw [← Sums.bl_length, ht]; exact dec_short c HCB.out); have htI : (t.size : Int) ≤ 15 := (by omega); have hk1 : ¬ 9223372036854775807 < u.size + t.size := (by omega); have hk2 : ¬ 9223372036854775807 < u.size + t.size + nm.size := (by rw [HNS.out]; omega); clear hbz))
          clear hlb hlc
          go_wp2_with fail
          go_roundw
          case rel =>
            have hbl : Sums.bl (u ++ t ++ nm) = spT n 4 := by
              rw [HST.out.1, Sums.bl_append, Sums.bl_append, hbu.out, ht, List.append_assoc, ← HNM.out]; rfl
            have hln : (u ++ t ++ nm).size ≤ 100 := by
              rw [← Sums.bl_length, hbl]
              exact Nat.le_trans (spT_len n 4 HN.out) (by decide)
            exact ⟨4, u ++ t ++ nm, by first | rfl | simp, by rw [HST.out.2]; first | rfl | exact int_eq hmI, rfl, by decide, hln, hbl, mz⟩
          case measure => simp [intOf]
        · have hc0I : ¬ (0 : Int) < (c : Int) := by omega
          rw [if_neg hc0, List.append_nil] at HST
          clear hc0
          go_wp2_with fail
          go_roundw
          case rel => exact ⟨4, u, by first | rfl | simp, by rw [HST.out.2]; first | rfl | exact int_eq hmI, rfl, by decide, hus, Hid.mk' (by rw [HST.out.1]; exact hbu.out), hmw⟩
          case measure => simp [intOf]
      · have hlb : wr.cell? ⟨G, 4, none⟩ = some (.string ⟨#[109, 115]⟩) := by simp [World.cell?, hmw.out.1.a]
        have hlc : wr.cell? ⟨G + 1, 4, none⟩ = some (.int .i64 1) := by simp [World.cell?, hmw.out.1.b]
        rw [show unum 4 = 1 from rfl] at hst hsr
        rw [show uname 4 = [109, 115] from rfl] at hst
        rw [Nat.div_one] at hst
        rw [Nat.mod_one] at hsr
        have hcb := hRb
        have HST := Hid.mk' (And.intro hst hsr)
        clear hst hsr hi5 hi
        by_cases hc0 : 0 < R
        · have hc0I : (0 : Int) < (R : Int) := by omega
          rw [if_pos hc0] at HST
          have DC := Hid.mk' (fun w => rNumber_any R w hc0 hcb)
          have HCB := Hid.mk' hcb
          have hwc : IntKind.i64.wrap (R : Int) = (R : Int) := by rw [IntKind.wrap_i64]; omega
          clear hc0
          obtain ⟨nm, hnm⟩ : ∃ nm, (⟨#[109, 115]⟩ : ByteArray) = nm := ⟨_, rfl⟩
          have hns : nm.size = 2 := by rw [← hnm]; rfl
          rw [hnm] at hlb
          have HNM := Hid.mk' hnm
          have HNS := Hid.mk' hns
          clear hnm hns
          go_wp2_with fail
          go_region_held3 (fun w' => w'.cell? ⟨G + 1, 4, none⟩ = some (.int .i64 1) ∧ w'.cell? ⟨G, 4, none⟩ = some (.string nm)) (first | go_keep | exact ⟨hlc, hlb⟩ | exact ⟨zc, zb⟩)
            ((go_at_call 46; refine (DC.out _).mono ?_; rintro e wz ⟨⟨t, ht, rfl⟩, hbz⟩; have mz : Hid (Un2 G (G + 1) wz ∧ Below G w wz) := ⟨hmw.out.1.below (((Below.refl _ wr).drewN' 1).trans hbz), hmw.out.2.trans ((((Below.refl _ wr).drewN' 1).trans hbz).mono (by have := hmw.out.2.size; rw [HG.out] at this; exact this))⟩; have zb : wz.cell? ⟨G, 4, none⟩ = some (.string nm) := (by rw [← HNM.out]; simp [World.cell?, mz.out.1.a]); have zc : wz.cell? ⟨G + 1, 4, none⟩ = some (.int .i64 1) := (by simp [World.cell?, mz.out.1.b]); have hts2 : t.size ≤ 15 := (by rw [← Sums.bl_length, ht]; exact dec_short R HCB.out); have htI : (t.size : Int) ≤ 15 := (by omega); have hk1 : ¬ 9223372036854775807 < u.size + t.size := (by omega); have hk2 : ¬ 9223372036854775807 < u.size + t.size + nm.size := (by rw [HNS.out]; omega); clear hbz))
          clear hlb hlc
          go_wp2_with fail
          go_roundw
          case rel =>
            have hbl : Sums.bl (u ++ t ++ nm) = spT n 5 := by
              rw [HST.out.1, Sums.bl_append, Sums.bl_append, hbu.out, ht, List.append_assoc, ← HNM.out]; rfl
            have hln : (u ++ t ++ nm).size ≤ 100 := by
              rw [← Sums.bl_length, hbl]
              exact Nat.le_trans (spT_len n 5 HN.out) (by decide)
            exact ⟨5, u ++ t ++ nm, by first | rfl | simp, by rw [HST.out.2]; first | rfl | simp, rfl, by decide, hln, hbl, mz⟩
          case measure => simp [intOf]
        · have hc0I : ¬ (0 : Int) < (R : Int) := by omega
          rw [if_neg hc0, List.append_nil] at HST
          clear hc0
          go_wp2_with fail
          go_roundw
          case rel => exact ⟨5, u, by first | rfl | simp, by rw [HST.out.2]; first | rfl | simp, rfl, by decide, hus, Hid.mk' (by rw [HST.out.1]; exact hbu.out), hmw⟩
          case measure => simp [intOf]
theorem rSpell_bad (n : Int) (w : World) (h : ¬ (1 ≤ n ∧ n ≤ 253402300799999)) :
    Calls Tryd.prog 22 #[.int .i64 n] w fun e w' => e = .returned (.tuple #[.string ByteArray.empty, .int .i64 121]) ∧ w' = w := by
  by_cases h1 : n < 1
  · clear h
    go_enter Tryd.func22, Tryd.ntmps22
    go_wp2_with fail
    go_ret2
    exact ⟨rfl, rfl⟩
  · have h2 : (253402300799999 : Int) < n := by omega
    clear h
    go_enter Tryd.func22, Tryd.ntmps22
    go_wp2_with fail
    go_ret2
    exact ⟨rfl, rfl⟩
theorem isSpan_is (n : Int) (z : Bool) (h : decide (1 ≤ n ∧ n ≤ 253402300799999) = z) (w : World) : Calls Tryd.prog 38 #[.int .i64 n] w fun e w' => e = .returned (.bool z) ∧ w' = w := by
  rw [← h]; exact isSpan_any n w
theorem spell_bad (n : Int) (w : World) (h : ¬ (1 ≤ n ∧ n ≤ 253402300799999)) :
    Calls Tryd.prog 21 #[.int .i64 n] w fun e w' => e = .returned (.tuple #[.string ByteArray.empty, .int .i64 121]) ∧ w' = w := by
  have S := Hid.mk' (isSpan_is n false (by simp; omega))
  clear h
  go_enter Tryd.func21, Tryd.ntmps21
  go_wp2_with (first | (go_at_call 38; refine (S.out _).mono ?_; rintro e w' ⟨rfl, hw'⟩; have hw2 := hw'.symm; subst hw2; clear hw') | fail)
  go_ret2
  exact ⟨rfl, rfl⟩
end Go.Proofs.YthmpokndffbkdaaDoor
