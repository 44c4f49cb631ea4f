/-
  The document's digits. Conditions: a number not below 0.
-/
import Derived.Test.YthmpokndffbkdaaDoorRdD
import Derived.Test.YthmpokndffbkdaaDoorSx12
namespace Go.Proofs.YthmpokndffbkdaaDoor
open Go.RowKit
set_option linter.unusedVariables false
set_option maxRecDepth 100000 in
set_option maxHeartbeats 2000000 in
theorem rDigits_any (n k : Nat) (w : World) (h1 : n ≤ 253402300799999) (h2 : k ≤ 10) :
    Calls Tryd.prog 37 #[.int .i64 (n : Int), .int .i64 (k : Int)] w fun e w' => (∃ t, Sums.bl t = dg k n ∧ e = .returned (.string t)) ∧ Below w.heap.size w w' := by
  have HB0 := Hid.mk' (Below.refl w.heap.size w)
  go_enter Tryd.func37, Tryd.ntmps37
  go_wp2_with fail
  go_loopw [0, 5, 6] (fun nv sv iv wr => ∃ (m i : Nat) (u : ByteArray), nv = .int .i64 ((m : Nat) : Int) ∧ sv = .string u ∧ iv = .int .i64 ((i : Nat) : Int) ∧ m ≤ 253402300799999 ∧ i ≤ k ∧ u.size = i ∧ Hid (dg k n = dg (k - i) m ++ Sums.bl u) ∧ Hid (Below w.heap.size w wr)) (fun _ _ iv _ => k - (intOf iv).toNat)
  case atStart => exact ⟨n, 0, ⟨#[]⟩, rfl, rfl, rfl, h1, Nat.zero_le _, rfl, (List.append_nil _).symm, HB0⟩
  case round =>
    obtain ⟨m, i, u, rfl, rfl, rfl, hm, hi, hus, hd, hb⟩ := hrel
    by_cases h0 : i < k
    · have h0I : (i : Int) < (k : Int) := by omega
      have husI : (u.size : Int) ≤ 15 := by omega
      have hus2 : u.size ≤ 15 := by omega
      obtain ⟨z, hz⟩ : ∃ z, m % 10 = z := ⟨_, rfl⟩
      obtain ⟨q, hq⟩ : ∃ q, m / 10 = q := ⟨_, rfl⟩
      have hzI : (m : Int) % 10 = (z : Int) := by omega
      have hqI : (m : Int) / 10 = (q : Int) := by omega
      have hz9 : z ≤ 9 := by omega
      have hcv := conv_one z
      obtain ⟨o, ho⟩ : ∃ o, strOfNums [48 + (z : Int)] = o := ⟨_, rfl⟩
      have hbo : Sums.bl o = [48 + z] := by rw [← ho]; exact bl_one z hz9
      rw [ho] at hcv
      have hos : o.size = 1 := by rw [← Sums.bl_length, hbo]; rfl
      have hosI : (o.size : Int) = 1 := by omega
      have HD : Hid (dg k n = dg (k - (i + 1)) q ++ Sums.bl (o ++ u)) := by
        show _ = _
        rw [Sums.bl_append, hbo, hd.out, show k - i = k - (i + 1) + 1 by omega, dg, hz, hq, List.append_assoc]
      have hou : (o ++ u).size = i + 1 := by rw [ByteArray.size_append]; omega
      have HOU := Hid.mk' hou
      have hqb : q ≤ 253402300799999 := by omega
      have HUS := Hid.mk' hus
      clear hbo ho hz hq h0 hus hou
      have HBA := Hid.mk' (hb.out.alloc hb.out.size (.cells #[.int .u8 (48 + (z : Int))] 5))
      go_wp2_with fail
      go_roundw
      case rel => exact ⟨q, i + 1, o ++ u, by first | rfl | exact int_eq hqI, rfl, by first | rfl | exact int_eq (by omega), hqb, by omega, HOU.out, HD, HBA⟩
      case measure => simp [intOf]; omega
    · obtain rfl : i = k := by omega
      have h0I : ¬ (i : Int) < (i : Int) := by omega
      have HD : Hid (dg i n = Sums.bl u) := by
        show _ = _
        rw [hd.out, Nat.sub_self]; rfl
      clear h0 hus
      go_wp2_with fail
      go_ret
      exact ⟨⟨u, HD.out.symm, rfl⟩, hb.out⟩
end Go.Proofs.YthmpokndffbkdaaDoor
