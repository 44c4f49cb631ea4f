/-
  What swar.setOf does: it makes four words of which bit b%64 of word b/64 is set just for the bytes b of the list. Conditions: the list lies in memory.
-/
import Derived.Test.YthiabdpihnjkcaaDoorIndex
namespace Go.Proofs.YthiabdpihnjkcaaDoor
open Go.RowKit
set_option linter.unusedVariables false
/-- is the bit of that byte set? -/
def inS (m0 m1 m2 m3 x : Nat) : Bool := (if x / 64 = 0 then m0 else if x / 64 = 1 then m1 else if x / 64 = 2 then m2 else m3).testBit (x % 64)
theorem inS_upd0 (m0 m1 m2 m3 z : Nat) (hz : z / 64 = 0) (x : Nat) (hx : x < 256) : inS (m0 ||| 2 ^ (z % 64)) m1 m2 m3 x = (inS m0 m1 m2 m3 x || decide (x = z)) := by
  unfold inS
  have h4 : x / 64 = 0 ∨ x / 64 = 1 ∨ x / 64 = 2 ∨ x / 64 = 3 := by omega
  rcases h4 with h | h | h | h <;> simp only [h, if_true, if_false, Nat.reduceEqDiff]
  · rw [Nat.testBit_or, Nat.testBit_two_pow]
    congr 1
    rw [Bool.eq_iff_iff]
    simp only [decide_eq_true_eq]
    omega
  · have : ¬ x = z := by omega
    simp [this]
  · have : ¬ x = z := by omega
    simp [this]
  · have : ¬ x = z := by omega
    simp [this]
theorem inS_upd1 (m0 m1 m2 m3 z : Nat) (hz : z / 64 = 1) (x : Nat) (hx : x < 256) : inS m0 (m1 ||| 2 ^ (z % 64)) m2 m3 x = (inS m0 m1 m2 m3 x || decide (x = z)) := by
  unfold inS
  have h4 : x / 64 = 0 ∨ x / 64 = 1 ∨ x / 64 = 2 ∨ x / 64 = 3 := by omega
  rcases h4 with h | h | h | h <;> simp only [h, if_true, if_false, Nat.reduceEqDiff]
  · have : ¬ x = z := by omega
    simp [this]
  · rw [Nat.testBit_or, Nat.testBit_two_pow]
    congr 1
    rw [Bool.eq_iff_iff]
    simp only [decide_eq_true_eq]
    omega
  · have : ¬ x = z := by omega
    simp [this]
  · have : ¬ x = z := by omega
    simp [this]
theorem inS_upd2 (m0 m1 m2 m3 z : Nat) (hz : z / 64 = 2) (x : Nat) (hx : x < 256) : inS m0 m1 (m2 ||| 2 ^ (z % 64)) m3 x = (inS m0 m1 m2 m3 x || decide (x = z)) := by
  unfold inS
  have h4 : x / 64 = 0 ∨ x / 64 = 1 ∨ x / 64 = 2 ∨ x / 64 = 3 := by omega
  rcases h4 with h | h | h | h <;> simp only [h, if_true, if_false, Nat.reduceEqDiff]
  · have : ¬ x = z := by omega
    simp [this]
  · have : ¬ x = z := by omega
    simp [this]
  · rw [Nat.testBit_or, Nat.testBit_two_pow]
    congr 1
    rw [Bool.eq_iff_iff]
    simp only [decide_eq_true_eq]
    omega
  · have : ¬ x = z := by omega
    simp [this]
theorem inS_upd3 (m0 m1 m2 m3 z : Nat) (hz : z / 64 = 3) (x : Nat) (hx : x < 256) : inS m0 m1 m2 (m3 ||| 2 ^ (z % 64)) x = (inS m0 m1 m2 m3 x || decide (x = z)) := by
  unfold inS
  have h4 : x / 64 = 0 ∨ x / 64 = 1 ∨ x / 64 = 2 ∨ x / 64 = 3 := by omega
  rcases h4 with h | h | h | h <;> simp only [h, if_true, if_false, Nat.reduceEqDiff]
  · have : ¬ x = z := by omega
    simp [this]
  · have : ¬ x = z := by omega
    simp [this]
  · have : ¬ x = z := by omega
    simp [this]
  · rw [Nat.testBit_or, Nat.testBit_two_pow]
    congr 1
    rw [Bool.eq_iff_iff]
    simp only [decide_eq_true_eq]
    omega
theorem pow_lt64 (z : Nat) : 2 ^ (z % 64) < 18446744073709551616 := by
  have h : 2 ^ (z % 64) ≤ 2 ^ 63 := Nat.pow_le_pow_right (by omega) (by omega)
  have e : (2 : Nat) ^ 63 = 9223372036854775808 := by decide
  omega
theorem or_pow_lt (m z : Nat) (hm : m < 18446744073709551616) : m ||| 2 ^ (z % 64) < 18446744073709551616 := by
  have h := pow_lt64 z
  have : m ||| 2 ^ (z % 64) < 2 ^ 64 := Nat.or_lt_two_pow (by omega) (by omega)
  omega
theorem or_pow (m z : Nat) (hm : m < 18446744073709551616) : bits .or .u64 (m : Int) (IntKind.u64.wrap (2 ^ (z % 64))) = ((m ||| 2 ^ (z % 64) : Nat) : Int) := by
  have h := pow_lt64 z
  have e : (2 : Int) ^ (z % 64) = ((2 ^ (z % 64) : Nat) : Int) := by simp
  rw [e, wrapN _ h, u64_or_nat m _ hm h]
theorem below_two (w : World) (o p : Obj) : Below w.heap.size w ((w.alloc o).alloc p) := ((Below.refl _ _).alloc (Nat.le_refl _) _).alloc (by simp) _
set_option maxHeartbeats 2000000 in
theorem setOf_any (b off cap : Nat) (zs : List Nat) (w : World) (hz : ∀ z ∈ zs, z < 256) (hl : zs.length ≤ 1125899906842624)
    (hc : ∀ i, i < zs.length → w.cell? ⟨b, off + i, none⟩ = some (.int .u8 ((zs.getD i 0 : Nat) : Int))) :
    Calls Tryd.prog 43 #[.slice (some ⟨b, off, none⟩) zs.length cap] w fun e w' => (∃ m0 m1 m2 m3 : Nat, m0 < 18446744073709551616 ∧ m1 < 18446744073709551616 ∧ m2 < 18446744073709551616 ∧ m3 < 18446744073709551616 ∧ Hid (∀ x, x < 256 → inS m0 m1 m2 m3 x = decide (x ∈ zs)) ∧ e = .returned (.agg #[.int .u64 (m0 : Int), .int .u64 (m1 : Int), .int .u64 (m2 : Int), .int .u64 (m3 : Int)])) ∧ Below w.heap.size w w' := by
  go_enter Tryd.func43, Tryd.ntmps43
  go_wp2_with fail
  go_loopw [8] (fun i wr => ∃ (k m0 m1 m2 m3 : Nat), k ≤ zs.length ∧ m0 < 18446744073709551616 ∧ m1 < 18446744073709551616 ∧ m2 < 18446744073709551616 ∧ m3 < 18446744073709551616 ∧ i = .int .i64 (k : Int) ∧ Hid (∀ x, x < 256 → inS m0 m1 m2 m3 x = decide (x ∈ zs.take k)) ∧ wr = (w.alloc (.cells #[.int .u64 0, .int .u64 0, .int .u64 0, .int .u64 0] 51)).alloc (.cells #[.int .u64 (m0 : Int), .int .u64 (m1 : Int), .int .u64 (m2 : Int), .int .u64 (m3 : Int)] 51)) (fun i _ => zs.length - (intOf i).toNat)
  case atStart => exact ⟨0, 0, 0, 0, 0, by omega, by omega, by omega, by omega, by omega, rfl, fun x hx => by unfold inS; simp, rfl⟩
  case round =>
    obtain ⟨k, m0, m1, m2, m3, hk, h0, h1, h2, h3, rfl, HI, rfl⟩ := hrel
    by_cases hlt : k < zs.length
    · have hck := hc k hlt
      have hcb : b < w.heap.size := by
        rcases Nat.lt_or_ge b w.heap.size with h | h
        · exact h
        · exfalso
          unfold World.cell? at hck
          simp [show w.heap[b]? = none by simp; omega] at hck
      have hzk : zs.getD k 0 < 256 := hz _ (by rw [List.getD_eq_getElem?_getD, List.getElem?_eq_getElem hlt]; simp)
      have HT : Hid (∀ x, (decide (x ∈ zs.take k) || decide (x = zs.getD k 0)) = decide (x ∈ zs.take (k + 1))) := by
        intro x
        have e : zs.getD k 0 = zs[k] := by rw [List.getD_eq_getElem?_getD, List.getElem?_eq_getElem hlt]; rfl
        rw [e, List.take_succ_eq_append_getElem hlt, Bool.eq_iff_iff]
        simp only [Bool.or_eq_true, decide_eq_true_eq, List.mem_append, List.mem_singleton]
      generalize zs.getD k 0 = z at *
      clear hc hz
      have hzq : z / 64 = 0 ∨ z / 64 = 1 ∨ z / 64 = 2 ∨ z / 64 = 3 := by omega
      rcases hzq with hzq | hzq | hzq | hzq
      · have q : (z : Int) / 64 = 0 := by omega
        have hor : m0 ||| 2 ^ (z % 64) < 18446744073709551616 := or_pow_lt m0 z h0
        have HB : Hid (bits .or .u64 (m0 : Int) (IntKind.u64.wrap (2 ^ (z % 64))) = ((m0 ||| 2 ^ (z % 64) : Nat) : Int)) := or_pow m0 z h0
        have HN : Hid (∀ x, x < 256 → inS (m0 ||| 2 ^ (z % 64)) m1 m2 m3 x = decide (x ∈ zs.take (k + 1))) := by
          intro x hx
          rw [inS_upd0 m0 m1 m2 m3 z (by omega) x hx, HI.out x hx, HT.out x]
        clear hzq HI HT
        go_wp2_with fail
        rw [HB.out]
        refine ⟨⟨k + 1, (m0 ||| 2 ^ (z % 64)), m1, m2, m3, by omega, hor, h1, h2, h3, by go_num, HN, rfl⟩, by simp [intOf]; omega⟩
      · have q : (z : Int) / 64 = 1 := by omega
        have hor : m1 ||| 2 ^ (z % 64) < 18446744073709551616 := or_pow_lt m1 z h1
        have HB : Hid (bits .or .u64 (m1 : Int) (IntKind.u64.wrap (2 ^ (z % 64))) = ((m1 ||| 2 ^ (z % 64) : Nat) : Int)) := or_pow m1 z h1
        have HN : Hid (∀ x, x < 256 → inS m0 (m1 ||| 2 ^ (z % 64)) m2 m3 x = decide (x ∈ zs.take (k + 1))) := by
          intro x hx
          rw [inS_upd1 m0 m1 m2 m3 z (by omega) x hx, HI.out x hx, HT.out x]
        clear hzq HI HT
        go_wp2_with fail
        rw [HB.out]
        refine ⟨⟨k + 1, m0, (m1 ||| 2 ^ (z % 64)), m2, m3, by omega, h0, hor, h2, h3, by go_num, HN, rfl⟩, by simp [intOf]; omega⟩
      · have q : (z : Int) / 64 = 2 := by omega
        have hor : m2 ||| 2 ^ (z % 64) < 18446744073709551616 := or_pow_lt m2 z h2
        have HB : Hid (bits .or .u64 (m2 : Int) (IntKind.u64.wrap (2 ^ (z % 64))) = ((m2 ||| 2 ^ (z % 64) : Nat) : Int)) := or_pow m2 z h2
        have HN : Hid (∀ x, x < 256 → inS m0 m1 (m2 ||| 2 ^ (z % 64)) m3 x = decide (x ∈ zs.take (k + 1))) := by
          intro x hx
          rw [inS_upd2 m0 m1 m2 m3 z (by omega) x hx, HI.out x hx, HT.out x]
        clear hzq HI HT
        go_wp2_with fail
        rw [HB.out]
        refine ⟨⟨k + 1, m0, m1, (m2 ||| 2 ^ (z % 64)), m3, by omega, h0, h1, hor, h3, by go_num, HN, rfl⟩, by simp [intOf]; omega⟩
      · have q : (z : Int) / 64 = 3 := by omega
        have hor : m3 ||| 2 ^ (z % 64) < 18446744073709551616 := or_pow_lt m3 z h3
        have HB : Hid (bits .or .u64 (m3 : Int) (IntKind.u64.wrap (2 ^ (z % 64))) = ((m3 ||| 2 ^ (z % 64) : Nat) : Int)) := or_pow m3 z h3
        have HN : Hid (∀ x, x < 256 → inS m0 m1 m2 (m3 ||| 2 ^ (z % 64)) x = decide (x ∈ zs.take (k + 1))) := by
          intro x hx
          rw [inS_upd3 m0 m1 m2 m3 z (by omega) x hx, HI.out x hx, HT.out x]
        clear hzq HI HT
        go_wp2_with fail
        rw [HB.out]
        refine ⟨⟨k + 1, m0, m1, m2, (m3 ||| 2 ^ (z % 64)), by omega, h0, h1, h2, hor, by go_num, HN, rfl⟩, by simp [intOf]; omega⟩
    · have HI2 : Hid (∀ x, x < 256 → inS m0 m1 m2 m3 x = decide (x ∈ zs)) := by
        intro x hx
        have := HI.out x hx
        rwa [List.take_of_length_le (by omega)] at this
      clear HI hc hz
      go_wp2_with fail
      exact bodyPost_ret (v := .agg #[.int .u64 (m0 : Int), .int .u64 (m1 : Int), .int .u64 (m2 : Int), .int .u64 (m3 : Int)]) (by simp [results, Tryd.results43, go_sem]) rfl ⟨⟨m0, m1, m2, m3, h0, h1, h2, h3, HI2, rfl⟩, below_two w _ _⟩
end Go.Proofs.YthiabdpihnjkcaaDoor
