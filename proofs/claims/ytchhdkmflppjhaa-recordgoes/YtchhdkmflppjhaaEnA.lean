/-
  The document's own Uint, Int, May (chapter 17). Conditions: as each says.
-/
import Derived.Test.YtchhdkmflppjhaaRcQ
namespace Go.Proofs.Ytchhdkmflppjhaa
open Go.RowKit
set_option linter.unusedVariables false
set_option linter.unusedSimpArgs false
theorem conv_1 {W : World} {g : Nat} {c : Nat} {t : TypeId} {fz : Nat × Nat} (h : W.heap[g]? = some (.cells #[.int .u8 (c : Int)] t fz)) : (convert 70 9 (.slice (some ⟨g, 0, none⟩) 1 1)).run Try.prog W = .ok (.string (nums [c])) W := by
  refine run_convert_bytes_arg _ 70 5 Try.underlying70 Try.underlying5 g 0 1 1 _ (by simp) (fun i hi => ?_) 9 Try.underlying9
  obtain rfl : i = 0 := by omega
  simp only [World.cell?]
  rw [Nat.add_zero, h]
  simp
theorem nums_cat (a b : List Nat) : nums a ++ nums b = nums (a ++ b) := by
  unfold nums
  rw [List.map_append]
  apply ByteArray.ext
  rw [ByteArray.data_append]
  simp [strOfNums]
set_option maxHeartbeats 1000000 in
theorem rUint_any (n : Nat) (w : World) (hn : n < 18446744073709551616) :
    Calls Try.prog 61 #[.int .u64 (n : Int)] w fun e w' => e = .returned (.string (nums (Code.uint n))) ∧ Below w.heap.size w w' := by
  go_enter Try.func61, Try.ntmps61
  go_wp2_with fail
  go_loopw [0, 3] (fun s0 s3 wr => ∃ (f m : Nat) (pre : List Nat), s0 = .int .u64 (m : Int) ∧ s3 = .string (nums pre) ∧ m < 128 ^ (f + 1) ∧ m < 18446744073709551616 ∧ f + pre.length = 10 ∧ pre ++ Code.enc f m = Code.uint n ∧ Below w.heap.size w wr) (fun s0 _ _ => (intOf s0).toNat)
  case atStart => exact ⟨10, n, [], rfl, rfl, by omega, hn, rfl, rfl, Below.refl _ _⟩
  case round =>
    obtain ⟨f, m, pre, rfl, rfl, hm, hm64, hf, hpre, hb⟩ := hrel
    have HM := Hid.mk' hm
    have HM64 := Hid.mk' hm64
    have HF := Hid.mk' hf
    have HP := Hid.mk' hpre
    have HB := Hid.mk' hb
    have hpl := nums_size pre
    have hp10 : pre.length ≤ 10 := by omega
    by_cases hlt : m < 128
    · have hlt' : ¬ (127 : Int) < (m : Int) := by omega
      have hw8 : IntKind.u8.wrap (m : Int) = (m : Int) := by rw [IntKind.wrap_u8]; omega
      have hcv := conv_1 (heap_alloc_new wr (.cells #[.int .u8 (m : Int)] 5))
      have hns := nums_size [m]
      have HL := Hid.mk' hlt
      clear hn hm hf hpre hb hm64 hlt
      go_wp2_with fail
      go_ret
      refine ⟨ret_str ?_, HB.out.alloc HB.out.size _⟩
      rw [nums_cat, ← HP.out, Code.enc_one _ _ HL.out]
    · have hlt' : (127 : Int) < (m : Int) := by omega
      obtain ⟨f, rfl⟩ : ∃ k, f = k + 1 := ⟨f - 1, by
        by_cases h0 : f = 0
        · subst h0; have := HM.out; simp at this; omega
        · omega⟩
      obtain ⟨r, hr⟩ : ∃ r, r = m % 128 := ⟨_, rfl⟩
      have hrm : (m : Int) % 128 = (r : Int) := by omega
      have hr8 : IntKind.u8.wrap (r : Int) = (r : Int) := by rw [IntKind.wrap_u8]; omega
      obtain ⟨c, hc⟩ : ∃ c, c = r + 128 := ⟨_, rfl⟩
      have hc8 : IntKind.u8.wrap ((r : Int) + 128) = (c : Int) := by rw [IntKind.wrap_u8]; omega
      have hcv := conv_1 (heap_alloc_new wr (.cells #[.int .u8 (c : Int)] 5))
      have hns := nums_size [c]
      obtain ⟨d, hd⟩ : ∃ d, d = m / 128 := ⟨_, rfl⟩
      have hdv : (m : Int) / 128 = (d : Int) := by omega
      have HL := Hid.mk' hlt
      have HR := Hid.mk' hr
      have HC := Hid.mk' hc
      have HD := Hid.mk' hd
      have h64 : (m : Int) < 18446744073709551616 := by omega
      clear hn hm hf hpre hb hm64 hlt hr hc hd
      go_wp2_with fail
      go_roundw
      case rel =>
        have hm := HM.out
        have hl := HL.out
        refine ⟨f, d, pre ++ [c], rfl, by rw [nums_cat], ?_, by rw [HD.out]; omega, by have := HF.out; simp; omega, ?_, HB.out.alloc HB.out.size _⟩
        · rw [HD.out]
          rw [Nat.pow_succ] at hm
          exact Nat.div_lt_of_lt_mul (by rw [Nat.mul_comm]; exact hm)
        · have h1 := HP.out
          rw [Code.enc_more _ _ hl] at h1
          rw [HD.out, HC.out, HR.out, List.append_assoc]
          exact h1
      case measure => have := HD.out; have := HL.out; simp [intOf]; omega
set_option maxHeartbeats 1000000 in
theorem rInt_any (n : Int) (w : World) (h0 : -9223372036854775808 ≤ n) (h1 : n ≤ 9223372036854775807) :
    Calls Try.prog 60 #[.int .i64 n] w fun e w' => e = .returned (.string (nums (Code.uint (Code.zig n)))) ∧ Below w.heap.size w w' := by
  have hz := Code.zig_lt n h0 h1
  by_cases hn : n < 0
  · have HZ : Hid (Code.zig n = 2 * (-(n + 1)).toNat + 1) := by unfold Code.zig; rw [if_neg (by omega)]; rfl
    have hu : ∀ x : Int, IntKind.u64.wrap (2 * x + 1) = IntKind.u64.wrap (2 * x + 1) := fun _ => rfl
    go_enter Try.func60, Try.ntmps60
    go_wp2_with fail
    first
      | rw [show (2 : Int) * -(n + 1) + 1 = ((2 * (-(n + 1)).toNat + 1 : Nat) : Int) by omega]
      | skip
    rw [← HZ.out]
    refine (rUint_any _ _ hz).mono ?_
    rintro e w1 ⟨rfl, hb⟩
    go_wp2_with fail
    go_ret
    exact ⟨rfl, hb⟩
  · have HZ : Hid (Code.zig n = 2 * n.toNat) := by unfold Code.zig; rw [if_pos (by omega)]; rfl
    go_enter Try.func60, Try.ntmps60
    go_wp2_with fail
    rw [show (2 : Int) * n = ((2 * n.toNat : Nat) : Int) by omega, ← HZ.out]
    refine (rUint_any _ _ hz).mono ?_
    rintro e w1 ⟨rfl, hb⟩
    go_wp2_with fail
    go_ret
    exact ⟨rfl, hb⟩
theorem ix_none (c : UInt8) : ∀ (l : List UInt8), Lib.indexByte l c < 0 → ∀ x ∈ l, (x == c) = false
  | [], _, x, hx => by cases hx
  | b :: l, h, x, hx => by
    unfold Lib.indexByte at h
    split at h
    · omega
    · rename_i h1
      have hl : Lib.indexByte l c < 0 := by
        have hg := Lib.indexByte_ge l c
        split at h
        · rename_i h2
          have : Lib.indexByte l c = -1 := by simpa using h2
          omega
        · omega
      rcases List.mem_cons.1 hx with rfl | hx
      · simpa using h1
      · exact ix_none c l hl x hx
theorem nl_has (t : ByteArray) (i : Nat) (h : i < t.size) (h1 : t[i].toNat = 10) : 0 ≤ Rec.nl t := by
  rcases Int.lt_or_le (Rec.nl t) 0 with hn | hn
  · exfalso
    have hl : i < t.data.toList.length := by simpa using h
    have hm : t[i] ∈ t.data.toList := List.getElem_mem hl
    have := ix_none 10 t.data.toList hn _ hm
    rw [beq_eq_false_iff_ne] at this
    exact this (UInt8.toNat_inj.1 (by rw [h1]; rfl))
  · exact hn
set_option maxHeartbeats 1000000 in
set_option maxRecDepth 100000 in
theorem rMay_any (x : Int) (t : ByteArray) (w : World) (ht : t.size ≤ 1125899906842624) :
    Calls Try.prog 59 #[.agg #[.int .i64 x, .string t]] w fun e w' => e = .returned (.int .i64 (Rec.bad (x, t) : Int)) ∧ Below w.heap.size w w' := by
  have hal : Below w.heap.size w (w.alloc (.cells #[.int .i64 x, .string t] 35)) := (Below.refl _ _).alloc (Nat.le_refl _) _
  by_cases h1 : 8192 < t.size
  · have hb := bad_170 (x, t) (.inl h1)
    have h1' : (8192 : Int) < (t.size : Int) := by omega
    go_enter Try.func59, Try.ntmps59
    go_wp2_with fail
    go_ret
    exact ⟨by rw [hb]; rfl, hal⟩
  · have h1' : ¬ (8192 : Int) < (t.size : Int) := by omega
    have HAL := Hid.mk' hal
    have H1 := Hid.mk' h1
    obtain ⟨R, hR⟩ : ∃ R, R = Rec.bad (x, t) := ⟨_, rfl⟩
    rw [← hR]
    have HR := Hid.mk' hR
    clear hal hR
    go_enter Try.func59, Try.ntmps59
    go_wp2_with fail
    go_loopw [3] (fun s3 wr => ∃ i : Nat, s3 = .int .i64 (i : Int) ∧ i ≤ t.size ∧ Hid (Rec.nl (t.extract 0 i) < 0) ∧ wr = w.alloc (.cells #[.int .i64 x, .string t] 35)) (fun s3 _ => t.size - (intOf s3).toNat)
    case atStart =>
      refine ⟨0, rfl, by omega, ?_, rfl⟩
      have e : t.extract 0 0 = ⟨#[]⟩ := empty_of_size (by rw [ByteArray.size_extract]; omega)
      rw [e]
      exact Rec.nl_nil
    case round =>
      obtain ⟨i, rfl, hit, HX, rfl⟩ := hrel
      by_cases hlt : i < t.size
      · obtain ⟨m, hm⟩ : ∃ m, m = t[i].toNat := ⟨_, rfl⟩
        have i0 : (0 : Int) ≤ (i : Int) := by omega
        have i1 : (i : Int) < (t.size : Int) := by omega
        have hidx : ∀ W, (Instr.index 9 (.string t) (.int .i64 (i : Int))).run Try.prog W = .ok (.int .u8 (m : Int)) W := fun W => by
          rw [run_index_string W 9 t .i64 (i : Int) Try.underlying9, dif_pos ⟨i0, i1⟩, hm]
          rfl
        have HM : Hid (∃ h : i < t.size, m = (t[i]'h).toNat) := ⟨hlt, hm⟩
        by_cases h10 : m = 10
        · have hnl : 0 ≤ Rec.nl t := nl_has t i hlt (by rw [← hm]; exact h10)
          have hb := bad_170 (x, t) (.inr hnl)
          have HBD : Hid (R = 170) := by rw [HR.out]; exact hb
          clear hm hb hnl hlt hit
          subst h10
          go_wp2_with fail
          go_ret
          exact ⟨by rw [HBD.out]; rfl, HAL.out⟩
        · have h10' : ((m : Int) == 10) = false := by rw [beq_eq_false_iff_ne]; omega
          have H10 := Hid.mk' h10
          have hwn : IntKind.i64.wrap ((i : Int) + 1) = (i : Int) + 1 := by rw [IntKind.wrap_i64]; omega
          clear hm h10 hlt hit
          go_wp2_with fail
          go_roundw
          case rel =>
            obtain ⟨hh, em⟩ := HM.out
            exact ⟨i + 1, by go_num, hh, Rec.nl_next t i hh HX.out (by rw [← em]; exact H10.out), by first | rfl | trivial⟩
          case measure => obtain ⟨hh, _⟩ := HM.out; simp [intOf]; omega
      · obtain rfl : i = t.size := by omega
        have hnl : Rec.nl t < 0 := by
          have := HX.out
          rw [ByteArray.extract_zero_size] at this
          exact this
        have hn : ¬ (8192 < (x, t).2.size ∨ 0 ≤ Rec.nl (x, t).2) := fun h => h.elim H1.out (fun h => by have h2 : 0 ≤ Rec.nl t := h; omega)
        have i1 : ¬ (t.size : Int) < (t.size : Int) := by omega
        by_cases h3 : x < 0
        · have HBD : Hid (R = 171) := by rw [HR.out]; exact bad_171 (x, t) hn (.inl h3)
          clear hnl hn hlt hit
          go_wp2_with fail
          go_ret
          exact ⟨by rw [HBD.out]; rfl, HAL.out⟩
        · by_cases h4 : 253402300799999 < x
          · have HBD : Hid (R = 171) := by rw [HR.out]; exact bad_171 (x, t) hn (.inr h4)
            clear hnl hn hlt hit
            go_wp2_with fail
            go_ret
            exact ⟨by rw [HBD.out]; rfl, HAL.out⟩
          · have HBD : Hid (R = 0) := by rw [HR.out]; exact bad_0 (x, t) hn (fun h => h.elim h3 h4)
            clear hnl hn hlt hit
            go_wp2_with fail
            go_ret
            exact ⟨by rw [HBD.out]; rfl, HAL.out⟩
end Go.Proofs.Ytchhdkmflppjhaa
