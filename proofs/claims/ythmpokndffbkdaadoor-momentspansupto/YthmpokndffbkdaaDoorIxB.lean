/-
  strings.IndexAny of at most eight bytes, whatever they are, at the ten digits. Conditions: at most eight bytes.
-/
import Derived.Test.YthmpokndffbkdaaDoorIxA
import Derived.Lib.OthersKept
namespace Go.Proofs.YthmpokndffbkdaaDoor
open Go.RowKit
set_option linter.unusedVariables false
theorem ixA_none : ∀ (l : List Nat), (∀ z ∈ l, dig z = false) → ixA l = -1
  | [], _ => rfl
  | x :: l, h => by
    rw [ixA, h x (by simp), ixA_none l (fun z hz => h z (by simp [hz]))]
    rfl
theorem ixA_hit : ∀ (p : List Nat) (x : Nat) (r : List Nat), (∀ z ∈ p, dig z = false) → dig x = true → ixA (p ++ x :: r) = (p.length : Int)
  | [], x, r, _, hx => by rw [List.nil_append, ixA, hx]; rfl
  | y :: p, x, r, h, hx => by
    rw [List.cons_append, ixA, h y (by simp), ixA_hit p x r (fun z hz => h z (by simp [hz])) hx]
    have : ¬ ((p.length : Int) == -1) = true := by simp
    rw [if_neg (by decide), if_neg this]
    simp
theorem idxRune_lo (x : Nat) (w : World) (hx : x < 128) : Calls Tryd.prog 80 #[.string ⟨#[48, 49, 50, 51, 52, 53, 54, 55, 56, 57]⟩, .int .i32 (x : Int)] w fun e w' => (∃ v : Int, e = .returned (.int .i64 v) ∧ decide (0 ≤ v) = dig x) ∧ w' = w := by
  refine Calls.mono (Any.strings_IndexRune_ascii { YthmpokndffbkdaaDoor.lays153 with } digits10 (x : Int) w (by omega) (by omega)) ?_
  rintro e w' ⟨rfl, hw⟩
  refine ⟨⟨_, rfl, ?_⟩, hw⟩
  have h1 := Lib.contains_iff_indexByte digits10.data.toList ((x : Int).toNat.toUInt8)
  have h4 : ((x : Int).toNat.toUInt8).toNat = x := by
    rw [Int.toNat_natCast]
    exact UInt8.toNat_ofNat_of_lt (by show x < 256; omega)
  rw [dig_in, h4] at h1
  exact h1.symm
/-- what is known from round to round -/
structure IxW (K : Nat) (s : ByteArray) (i : Nat) (w W : World) : Prop where
  it : W.heap[K]? = some (.stringIter s i)
  bel : Below K w W
theorem IxW.at_ {K : Nat} {s : ByteArray} {i j : Nat} {w W : World} (h : IxW K s i w W) : IxW K s j w (W.iterAt K s j) := by
  have hlt : K < W.heap.size := (Array.getElem?_eq_some_iff.1 h.it).1
  refine ⟨Lib.iterAt_heap W K s i j h.it, h.bel.trans ⟨rfl, rfl, rfl, by simp [World.iterAt], fun k hk => ?_⟩⟩
  simp only [World.iterAt]
  rw [Array.getElem?_setIfInBounds_ne (by omega)]
theorem IxW.next {K : Nat} {s : ByteArray} {i : Nat} {w W V : World} (h : IxW K s i w W) (b : Below W.heap.size W V) : IxW K s i w V := by
  have hlt : K < W.heap.size := (Array.getElem?_eq_some_iff.1 h.it).1
  exact ⟨(b.block K hlt).trans h.it, h.bel.trans (b.mono (Nat.le_of_lt hlt))⟩
set_option maxRecDepth 100000 in
set_option maxHeartbeats 4000000 in
theorem idxAny_small (s : ByteArray) (w : World) (h8 : s.size ≤ 8) : Calls Tryd.prog 62 #[.string s, .string ⟨#[48, 49, 50, 51, 52, 53, 54, 55, 56, 57]⟩] w fun e w' => e = .returned (.int .i64 (ixA (Sums.bl s))) ∧ Below w.heap.size w w' := by
  obtain ⟨R, hR⟩ : ∃ R, ixA (Sums.bl s) = R := ⟨_, rfl⟩
  rw [hR]
  have HR := Hid.mk' hR
  have hSU : Hid (∀ w, Calls Tryd.prog 81 #[.int .i64 (s.size : Int)] w fun e w' => e = .returned (.bool false) ∧ w' = w) := Hid.mk' (by
    intro w
    refine Calls.mono (Any.strings_shouldUseASCIISet { YthmpokndffbkdaaDoor.lays153 with } (s.size : Int) w) ?_
    rintro e w' ⟨rfl, hw⟩
    exact ⟨ret_b (by simp; omega), hw⟩)
  have h8I : (s.size : Int) ≤ 8 := by omega
  have H0 : Hid (IxW w.heap.size s 0 w (w.iter s 0)) := ⟨World.iter_heap w s 0, (Below.refl w.heap.size w).alloc (Nat.le_refl _) _⟩
  clear hR
  go_enter Tryd.func62, Tryd.ntmps62
  go_wp2_with (first | (go_at_call 81; refine (hSU.out _).mono ?_; rintro e w' ⟨rfl, hw'⟩; have hw2 := hw'.symm; subst hw2; clear hw') | fail)
  go_loopg [9, 10] s.size (fun g _ _ wx => ∃ i : Nat, i ≤ s.size ∧ g = s.size - i ∧ Hid (∀ z ∈ (Sums.bl s).take i, dig z = false) ∧ Hid (IxW w.heap.size s i w wx))
  case atStart => exact ⟨0, Nat.zero_le _, by omega, Hid.mk' (by intro z hz; simp at hz), H0⟩
  case round =>
    obtain ⟨i, hi, hg, hno, hW⟩ := hrel
    by_cases he : i = s.size
    · subst he
      have hnx := fun ty => Lib.run_next_end_at (P := Tryd.prog) wr w.heap.size s s.size ty hW.out.it (by omega)
      have HE : Hid (-1 = R) := Hid.mk' (by
        rw [← HR.out]
        exact (ixA_none _ (by
          have h := hno.out
          rw [List.take_of_length_le (by rw [Sums.bl_length]; exact Nat.le_refl _)] at h
          exact h)).symm)
      go_wp2_with fail
      go_ret
      exact ⟨ret_i64 HE.out, hW.out.bel⟩
    · have hlt : i < s.size := by omega
      have hgetb := Sums.bl_get s i hlt
      obtain ⟨x, hx⟩ : ∃ x, (s[i]'hlt).toNat = x := ⟨_, rfl⟩
      have hsp : Sums.bl s = (Sums.bl s).take i ++ x :: (Sums.bl s).drop (i + 1) := by
        have h1 : i < (Sums.bl s).length := by rw [Sums.bl_length]; exact hlt
        have h2 : (Sums.bl s)[i] = x := by
          rw [← hx, ← hgetb, List.getD_eq_getElem?_getD, List.getElem?_eq_getElem h1]; rfl
        conv => lhs; rw [← List.take_append_drop i (Sums.bl s), List.drop_eq_getElem_cons h1, h2]
      have htl : ((Sums.bl s).take i).length = i := by rw [List.length_take, Sums.bl_length]; omega
      have HSP := Hid.mk' (And.intro hsp htl)
      by_cases hx128 : x < 128
      · have hnx := fun ty => Lib.run_next_ascii_at (P := Tryd.prog) wr w.heap.size s i ty hW.out.it hlt (by rw [hx]; exact hx128)
        rw [hx] at hnx
        have HL := Hid.mk' (fun w => idxRune_lo x w hx128)
        have HW2 := Hid.mk' (hW.out.at_ (j := i + 1))
        clear hx hgetb hsp htl
        cases hd : dig x
        · have HN : Hid (∀ z ∈ (Sums.bl s).take (i + 1), dig z = false) := Hid.mk' (by
            intro z hz
            rw [HSP.out.1, List.take_append, HSP.out.2, show i + 1 - i = 1 by omega, List.take_of_length_le (by rw [HSP.out.2]; omega)] at hz
            rcases List.mem_append.1 hz with h | h
            · exact hno.out z h
            · have : z = x := by simpa using h
              rw [this]; exact hd)
          rw [hd] at HL
          clear hd
          go_wp2_with fail
          generalize (wr.iterAt _ _ _) = w2 at *
          refine (HL.out _).mono ?_
          rintro e w3 ⟨⟨v, rfl, hv⟩, hw⟩
          have hw2 := hw.symm
          subst hw2
          clear hw
          have hv2 : ¬ (0 : Int) ≤ v := of_decide_eq_false hv
          go_wp2_with fail
          go_roundg (s.size - (i + 1))
          case measure => omega
          case rel => exact ⟨i + 1, by omega, rfl, HN, HW2⟩
        · have HE : Hid ((i : Int) = R) := Hid.mk' (by
            rw [← HR.out, HSP.out.1, ixA_hit _ x _ hno.out hd, HSP.out.2])
          rw [hd] at HL
          clear hd
          go_wp2_with fail
          generalize (wr.iterAt _ _ _) = w2 at *
          refine (HL.out _).mono ?_
          rintro e w3 ⟨⟨v, rfl, hv⟩, hw⟩
          have hw2 := hw.symm
          subst hw2
          clear hw
          have hv2 : (0 : Int) ≤ v := of_decide_eq_true hv
          go_wp2_with fail
          go_ret
          exact ⟨ret_i64 HE.out, HW2.out.bel⟩
      · have hg1 : s.get! i = s[i] := by
          show s.data[i]! = s.data[i]
          exact getElem!_pos s.data i hlt
        have hdec := dec_hi s i hlt (by rw [hg1, hx]; omega)
        have hle := decode_le s i
        have hnx := fun ty => Lib.run_next_any_at (P := Tryd.prog) wr w.heap.size s i ty hW.out.it hlt
        obtain ⟨r, hr⟩ : ∃ r, (Utf8.decode s i).1 = r := ⟨_, rfl⟩
        obtain ⟨k, hk⟩ : ∃ k, (Utf8.decode s i).2 = k := ⟨_, rfl⟩
        rw [hr, hk] at hnx hdec
        rw [hr] at hle
        have HH := Hid.mk' (fun w => idxRune_hi (r : Int) w (by omega) (by omega))
        have HW2 := Hid.mk' (hW.out.at_ (j := i + k))
        have HD := Hid.mk' hdec
        clear hr hk hx hgetb hsp htl hg1 hdec hle
        go_wp2_with fail
        generalize (wr.iterAt _ _ _) = w2 at *
        refine (HH.out _).mono ?_
        rintro e w3 ⟨rfl, hb⟩
        have HW3 := Hid.mk' (HW2.out.next hb)
        clear hb HW2
        go_wp2_with fail
        go_roundg (s.size - (i + k))
        case measure => have := HD.out; omega
        case rel =>
          refine ⟨i + k, HD.out.2.2.1, rfl, Hid.mk' ?_, HW3⟩
          intro z hz
          rw [List.take_add] at hz
          rcases List.mem_append.1 hz with h | h
          · exact hno.out z h
          · obtain ⟨m, hm, rfl⟩ := List.getElem_of_mem h
            simp only [List.length_take, List.length_drop, Sums.bl_length] at hm
            have hm2 : i + m < s.size := by omega
            have h3 := HD.out.2.2.2 m (by omega)
            have h5 := Sums.bl_get s (i + m) hm2
            have h6 : s.get! (i + m) = s[i + m] := by
              show s.data[i + m]! = s.data[i + m]
              exact getElem!_pos s.data (i + m) hm2
            rw [h6, ← h5] at h3
            have h7 : ∀ hq, (((Sums.bl s).drop i).take k)[m]'hq = (Sums.bl s).getD (i + m) 0 := by
              intro hq
              rw [List.getElem_take, List.getElem_drop, List.getD_eq_getElem?_getD, List.getElem?_eq_getElem (by rw [Sums.bl_length]; exact hm2)]
              rfl
            rw [h7]
            unfold dig
            simp only [decide_eq_false_iff_not]
            omega
end Go.Proofs.YthmpokndffbkdaaDoor
