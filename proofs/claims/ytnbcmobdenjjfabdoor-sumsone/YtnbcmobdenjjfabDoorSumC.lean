/-
  What the sums tell apart: no Go in sight. No conditions but those that each fact names.
-/
import Derived.Test.YtnbcmobdenjjfabDoorSumA
import Derived.Test.YtnbcmobdenjjfabDoorSumB
namespace Sums
theorem xorself (a b : Nat) : a ^^^ b ^^^ b = a := by rw [Nat.xor_assoc, Nat.xor_self, Nat.xor_zero]
theorem xor_cancel {a b c : Nat} (h : a ^^^ c = b ^^^ c) : a = b := by rw [← xorself a c, h, xorself]
/-- a turn has its way back -/
theorem rot32_inj (n : Nat) (hn : n < 32) {x y : Nat} (hx : x < 4294967296) (hy : y < 4294967296) (h : rot32 x n = rot32 y n) : x = y := by
  have hp : 2 ^ n * 2 ^ (32 - n) = 4294967296 := by rw [← Nat.pow_add, show n + (32 - n) = 32 by omega]
  have key : ∀ z, z < 4294967296 → rot32 z n = 2 ^ n * (z % 2 ^ (32 - n)) + z / 2 ^ (32 - n) ∧ z / 2 ^ (32 - n) < 2 ^ n := by
    intro z hz
    refine ⟨?_, ?_⟩
    · unfold rot32
      rw [← hp, Nat.mul_comm z, Nat.mul_mod_mul_left]
    · rw [Nat.div_lt_iff_lt_mul (Nat.two_pow_pos _), hp]; exact hz
  obtain ⟨e1, l1⟩ := key x hx
  obtain ⟨e2, l2⟩ := key y hy
  rw [e1, e2] at h
  have hd : x / 2 ^ (32 - n) = y / 2 ^ (32 - n) := by
    have := congrArg (· % 2 ^ n) h
    simp only [Nat.mul_add_mod, Nat.mod_eq_of_lt l1, Nat.mod_eq_of_lt l2] at this
    exact this
  have hm : x % 2 ^ (32 - n) = y % 2 ^ (32 - n) := by
    rw [hd] at h
    have := Nat.add_right_cancel h
    exact Nat.eq_of_mul_eq_mul_left (Nat.two_pow_pos n) this
  rw [← Nat.div_add_mod x (2 ^ (32 - n)), hd, hm, Nat.div_add_mod]
theorem rot64_inj (n : Nat) (hn : n < 64) {x y : Nat} (hx : x < 18446744073709551616) (hy : y < 18446744073709551616) (h : rot64 x n = rot64 y n) : x = y := by
  have hp : 2 ^ n * 2 ^ (64 - n) = 18446744073709551616 := by rw [← Nat.pow_add, show n + (64 - n) = 64 by omega]
  have key : ∀ z, z < 18446744073709551616 → rot64 z n = 2 ^ n * (z % 2 ^ (64 - n)) + z / 2 ^ (64 - n) ∧ z / 2 ^ (64 - n) < 2 ^ n := by
    intro z hz
    refine ⟨?_, ?_⟩
    · unfold rot64
      rw [← hp, Nat.mul_comm z, Nat.mul_mod_mul_left]
    · rw [Nat.div_lt_iff_lt_mul (Nat.two_pow_pos _), hp]; exact hz
  obtain ⟨e1, l1⟩ := key x hx
  obtain ⟨e2, l2⟩ := key y hy
  rw [e1, e2] at h
  have hd : x / 2 ^ (64 - n) = y / 2 ^ (64 - n) := by
    have := congrArg (· % 2 ^ n) h
    simp only [Nat.mul_add_mod, Nat.mod_eq_of_lt l1, Nat.mod_eq_of_lt l2] at this
    exact this
  have hm : x % 2 ^ (64 - n) = y % 2 ^ (64 - n) := by
    rw [hd] at h
    have := Nat.add_right_cancel h
    exact Nat.eq_of_mul_eq_mul_left (Nat.two_pow_pos n) this
  rw [← Nat.div_add_mod x (2 ^ (64 - n)), hd, hm, Nat.div_add_mod]
theorem rot32_lt (n x : Nat) (hn : n < 32) (hx : x < 4294967296) : rot32 x n < 4294967296 := by
  have hp : 2 ^ n * 2 ^ (32 - n) = 4294967296 := by rw [← Nat.pow_add, show n + (32 - n) = 32 by omega]
  have l1 : x / 2 ^ (32 - n) < 2 ^ n := by rw [Nat.div_lt_iff_lt_mul (Nat.two_pow_pos _), hp]; exact hx
  have l2 : x % 2 ^ (32 - n) + 1 ≤ 2 ^ (32 - n) := Nat.mod_lt _ (Nat.two_pow_pos _)
  have l3 : 2 ^ n * (x % 2 ^ (32 - n) + 1) ≤ 2 ^ n * 2 ^ (32 - n) := Nat.mul_le_mul_left _ l2
  unfold rot32
  rw [show x * 2 ^ n % 4294967296 = 2 ^ n * (x % 2 ^ (32 - n)) by rw [← hp, Nat.mul_comm x, Nat.mul_mod_mul_left]]
  rw [hp, Nat.mul_add] at l3
  omega
theorem rot64_lt (n x : Nat) (hn : n < 64) (hx : x < 18446744073709551616) : rot64 x n < 18446744073709551616 := by
  have hp : 2 ^ n * 2 ^ (64 - n) = 18446744073709551616 := by rw [← Nat.pow_add, show n + (64 - n) = 64 by omega]
  have l1 : x / 2 ^ (64 - n) < 2 ^ n := by rw [Nat.div_lt_iff_lt_mul (Nat.two_pow_pos _), hp]; exact hx
  have l2 : x % 2 ^ (64 - n) + 1 ≤ 2 ^ (64 - n) := Nat.mod_lt _ (Nat.two_pow_pos _)
  have l3 : 2 ^ n * (x % 2 ^ (64 - n) + 1) ≤ 2 ^ n * 2 ^ (64 - n) := Nat.mul_le_mul_left _ l2
  unfold rot64
  rw [show x * 2 ^ n % 18446744073709551616 = 2 ^ n * (x % 2 ^ (64 - n)) by rw [← hp, Nat.mul_comm x, Nat.mul_mod_mul_left]]
  rw [hp, Nat.mul_add] at l3
  omega
/-- a product with a number that has a way back has one -/
theorem mul_inj (m c d : Nat) (hcd : c * d % m = 1) {x y : Nat} (hx : x < m) (hy : y < m) (h : x * c % m = y * c % m) : x = y := by
  have key : ∀ z, z < m → z * c % m * d % m = z := by
    intro z hz
    rw [Nat.mod_mul_mod, Nat.mul_assoc, ← Nat.mul_mod_mod, hcd, Nat.mul_one, Nat.mod_eq_of_lt hz]
  rw [← key x hx, h, key y hy]
theorem add32 (c : Nat) {x y : Nat} (hx : x < 4294967296) (hy : y < 4294967296) (h : (c + x) % 4294967296 = (c + y) % 4294967296) : x = y := by omega
theorem add32' (c : Nat) {x y : Nat} (hx : x < 4294967296) (hy : y < 4294967296) (h : (x + c) % 4294967296 = (y + c) % 4294967296) : x = y := by omega
theorem add64 (c : Nat) {x y : Nat} (hx : x < 18446744073709551616) (hy : y < 18446744073709551616) (h : (c + x) % 18446744073709551616 = (c + y) % 18446744073709551616) : x = y := by omega
theorem add64' (c : Nat) {x y : Nat} (hx : x < 18446744073709551616) (hy : y < 18446744073709551616) (h : (x + c) % 18446744073709551616 = (y + c) % 18446744073709551616) : x = y := by omega
theorem shift_inj (k : Nat) (hk : 0 < k) {x y : Nat} (h : x ^^^ x / 2 ^ k = y ^^^ y / 2 ^ k) : x = y := by
  have hd : ∀ a b : Nat, (a ^^^ b) / 2 ^ k = a / 2 ^ k ^^^ b / 2 ^ k := by
    intro a b
    have := Nat.shiftRight_xor_distrib (a := a) (b := b) (i := k)
    simpa [Nat.shiftRight_eq_div_pow] using this
  have e : (x ^^^ y) ^^^ (x ^^^ y) / 2 ^ k = 0 := by
    rw [hd, xor_xor, h, Nat.xor_self]
  have e2 : x ^^^ y = (x ^^^ y) / 2 ^ k := by
    have := congrArg (· ^^^ (x ^^^ y) / 2 ^ k) e
    simpa [Nat.xor_assoc] using this
  have z : x ^^^ y = 0 := by
    by_cases h0 : x ^^^ y = 0
    · exact h0
    · exfalso
      have := Nat.div_lt_self (Nat.pos_of_ne_zero h0) (Nat.one_lt_two_pow (n := k) (by omega))
      omega
  have := congrArg (· ^^^ y) z
  simpa [Nat.xor_assoc] using this
theorem m1 : 2246822519 * 3066638151 % 4294967296 = 1 := by decide +kernel
theorem m2 : 3266489917 * 2828982549 % 4294967296 = 1 := by decide +kernel
theorem m3 : 668265263 * 2701016015 % 4294967296 = 1 := by decide +kernel
theorem m4 : 2654435761 * 244002641 % 4294967296 = 1 := by decide +kernel
theorem m5 : 374761393 * 2923004241 % 4294967296 = 1 := by decide +kernel
theorem n1 : 11400714785074694791 * 614540362697595703 % 18446744073709551616 = 1 := by decide +kernel
theorem n2 : 14029467366897019727 * 839798700976720815 % 18446744073709551616 = 1 := by decide +kernel
theorem n3 : 1609587929392839161 * 16855272203555305545 % 18446744073709551616 = 1 := by decide +kernel
theorem shift32_lt (k : Nat) {x : Nat} (hx : x < 4294967296) : x ^^^ x / 2 ^ k < 4294967296 := xor32_lt hx (Nat.lt_of_le_of_lt (Nat.div_le_self _ _) hx)
theorem shift64_lt (k : Nat) {x : Nat} (hx : x < 18446744073709551616) : x ^^^ x / 2 ^ k < 18446744073709551616 := xor64_lt hx (Nat.lt_of_le_of_lt (Nat.div_le_self _ _) hx)
theorem stirA_inj {x y : Nat} (hx : x < 4294967296) (hy : y < 4294967296) (h : stirA x = stirA y) : x = y :=
  shift_inj 15 (by decide) (mul_inj _ _ _ m1 (shift32_lt 15 hx) (shift32_lt 15 hy) h)
theorem stirB_inj {x y : Nat} (hx : x < 4294967296) (hy : y < 4294967296) (h : stirB x = stirB y) : x = y :=
  shift_inj 13 (by decide) (mul_inj _ _ _ m2 (shift32_lt 13 hx) (shift32_lt 13 hy) h)
theorem stir32_inj {x y : Nat} (hx : x < 4294967296) (hy : y < 4294967296) (h : stir32 x = stir32 y) : x = y :=
  stirA_inj hx hy (stirB_inj (stirA_lt _) (stirA_lt _) (shift_inj 16 (by decide) h))
theorem stirWA_inj {x y : Nat} (hx : x < 18446744073709551616) (hy : y < 18446744073709551616) (h : stirWA x = stirWA y) : x = y :=
  shift_inj 33 (by decide) (mul_inj _ _ _ n2 (shift64_lt 33 hx) (shift64_lt 33 hy) h)
theorem stirWB_inj {x y : Nat} (hx : x < 18446744073709551616) (hy : y < 18446744073709551616) (h : stirWB x = stirWB y) : x = y :=
  shift_inj 29 (by decide) (mul_inj _ _ _ n3 (shift64_lt 29 hx) (shift64_lt 29 hy) h)
theorem stir64_inj {x y : Nat} (hx : x < 18446744073709551616) (hy : y < 18446744073709551616) (h : stir64 x = stir64 y) : x = y :=
  stirWA_inj hx hy (stirWB_inj (stirWA_lt _) (stirWA_lt _) (shift_inj 32 (by decide) h))
theorem mod_in (c x : Nat) : (c + x) % 4294967296 = (c + x % 4294967296) % 4294967296 := by omega
theorem mod_in64 (c x : Nat) : (c + x) % 18446744073709551616 = (c + x % 18446744073709551616) % 18446744073709551616 := by omega
theorem ml32 (x : Nat) : x % 4294967296 < 4294967296 := Nat.mod_lt _ (by decide)
theorem ml64 (x : Nat) : x % 18446744073709551616 < 18446744073709551616 := Nat.mod_lt _ (by decide)
theorem mix4_word (c : Nat) {x y : Nat} (hx : x < 4294967296) (hy : y < 4294967296) (h : mix4 c x = mix4 c y) : x = y := by
  have h1 := mul_inj _ _ _ m3 (rot32_lt 17 _ (by decide) (ml32 _)) (rot32_lt 17 _ (by decide) (ml32 _)) h
  have h2 := rot32_inj 17 (by decide) (ml32 _) (ml32 _) h1
  rw [mod_in c (x * _), mod_in c (y * _)] at h2
  exact mul_inj _ _ _ m2 hx hy (add32 c (ml32 _) (ml32 _) h2)
theorem mix4_num (c : Nat) {x y : Nat} (hx : x < 4294967296) (hy : y < 4294967296) (h : mix4 x c = mix4 y c) : x = y := by
  have h1 := mul_inj _ _ _ m3 (rot32_lt 17 _ (by decide) (ml32 _)) (rot32_lt 17 _ (by decide) (ml32 _)) h
  exact add32' _ hx hy (rot32_inj 17 (by decide) (ml32 _) (ml32 _) h1)
theorem mix1_word (c : Nat) {x y : Nat} (hx : x < 4294967296) (hy : y < 4294967296) (h : mix1 c x = mix1 c y) : x = y := by
  have h1 := mul_inj _ _ _ m4 (rot32_lt 11 _ (by decide) (ml32 _)) (rot32_lt 11 _ (by decide) (ml32 _)) h
  have h2 := rot32_inj 11 (by decide) (ml32 _) (ml32 _) h1
  rw [mod_in c (x * _), mod_in c (y * _)] at h2
  exact mul_inj _ _ _ m5 hx hy (add32 c (ml32 _) (ml32 _) h2)
theorem mix1_num (c : Nat) {x y : Nat} (hx : x < 4294967296) (hy : y < 4294967296) (h : mix1 x c = mix1 y c) : x = y := by
  have h1 := mul_inj _ _ _ m4 (rot32_lt 11 _ (by decide) (ml32 _)) (rot32_lt 11 _ (by decide) (ml32 _)) h
  exact add32' _ hx hy (rot32_inj 11 (by decide) (ml32 _) (ml32 _) h1)
theorem lane_word (c : Nat) {x y : Nat} (hx : x < 4294967296) (hy : y < 4294967296) (h : lane c x = lane c y) : x = y := by
  have h1 := mul_inj _ _ _ m4 (rot32_lt 13 _ (by decide) (ml32 _)) (rot32_lt 13 _ (by decide) (ml32 _)) h
  have h2 := rot32_inj 13 (by decide) (ml32 _) (ml32 _) h1
  rw [mod_in c (x * _), mod_in c (y * _)] at h2
  exact mul_inj _ _ _ m1 hx hy (add32 c (ml32 _) (ml32 _) h2)
theorem lane_num (c : Nat) {x y : Nat} (hx : x < 4294967296) (hy : y < 4294967296) (h : lane x c = lane y c) : x = y := by
  have h1 := mul_inj _ _ _ m4 (rot32_lt 13 _ (by decide) (ml32 _)) (rot32_lt 13 _ (by decide) (ml32 _)) h
  exact add32' _ hx hy (rot32_inj 13 (by decide) (ml32 _) (ml32 _) h1)
theorem round64_word (c : Nat) {x y : Nat} (hx : x < 18446744073709551616) (hy : y < 18446744073709551616) (h : round64 c x = round64 c y) : x = y := by
  have h1 := mul_inj _ _ _ n1 (rot64_lt 31 _ (by decide) (ml64 _)) (rot64_lt 31 _ (by decide) (ml64 _)) h
  have h2 := rot64_inj 31 (by decide) (ml64 _) (ml64 _) h1
  rw [mod_in64 c (x * _), mod_in64 c (y * _)] at h2
  exact mul_inj _ _ _ n2 hx hy (add64 c (ml64 _) (ml64 _) h2)
theorem add_cancel (m d a b : Nat) (h : (a + d) % m = (b + d) % m) : a % m = b % m := by
  have h1 : ((a : Int) + (d : Int)) % (m : Int) = ((b : Int) + (d : Int)) % (m : Int) := by exact_mod_cast h
  have h2 := (Int.emod_add_cancel_right (d : Int)).1 h1
  exact_mod_cast h2
theorem aff_inj (m c d q : Nat) (hcd : c * d % m = 1) {x y : Nat} (hx : x < m) (hy : y < m) (h : (x * c + q) % m = (y * c + q) % m) : x = y :=
  mul_inj m c d hcd hx hy (add_cancel m q _ _ h)
theorem mixW8_word (c : Nat) {x y : Nat} (hc : c < 18446744073709551616) (hx : x < 18446744073709551616) (hy : y < 18446744073709551616) (h : mixW8 c x = mixW8 c y) : x = y := by
  have lx := xor64_lt hc (round64_lt 0 x)
  have ly := xor64_lt hc (round64_lt 0 y)
  have h2 := aff_inj _ _ _ _ n1 (rot64_lt 27 _ (by decide) lx) (rot64_lt 27 _ (by decide) ly) h
  have h3 := rot64_inj 27 (by decide) lx ly h2
  rw [Nat.xor_comm c, Nat.xor_comm c] at h3
  exact round64_word 0 hx hy (xor_cancel h3)
/-! texts of four and of eight bytes -/
theorem xx32_four (seed : Nat) {l r : List Nat} (hl : l.length = 4) (hr : r.length = 4) (wl : w4 l < 4294967296) (wr : w4 r < 4294967296) (h : xx32 seed l = xx32 seed r) : w4 l = w4 r := by
  have key : ∀ q : List Nat, q.length = 4 → xx32 seed q = stir32 (mix4 (((seed + 374761393) % 4294967296 + 4) % 4294967296) (w4 q)) := by
    intro q hq
    have hd : (q.drop 4).length = 0 := by rw [List.length_drop]; omega
    rw [xx32, if_pos (by omega), last32, hq, tail32_more _ _ (by omega), tail32_end _ _ (by omega), List.eq_nil_of_length_eq_zero hd, bytes32, List.foldl_nil]
  rw [key l hl, key r hr] at h
  exact mix4_word _ wl wr (stir32_inj (mix4_lt _ _) (mix4_lt _ _) h)
theorem xx64_eight (seed : Nat) {l r : List Nat} (hl : l.length = 8) (hr : r.length = 8) (wl : w8 l < 18446744073709551616) (wr : w8 r < 18446744073709551616) (h : xx64 seed l = xx64 seed r) : w8 l = w8 r := by
  have key : ∀ q : List Nat, q.length = 8 → xx64 seed q = stir64 (mixW8 (((seed + 2870177450012600261) % 18446744073709551616 + 8) % 18446744073709551616) (w8 q)) := by
    intro q hq
    have hd : (q.drop 8).length = 0 := by rw [List.length_drop]; omega
    rw [xx64, if_pos (by omega), last64, hq, tail64_more _ _ (by omega), tail64_end _ _ (by omega), List.eq_nil_of_length_eq_zero hd, four64, if_neg (by decide), bytes64, List.foldl_nil]
  rw [key l hl, key r hr] at h
  exact mixW8_word _ (ml64 _) wl wr (stir64_inj (mixW8_lt _ _) (mixW8_lt _ _) h)
/-! the CRC of four bytes -/
theorem step_in (x b : Nat) : stepN 8 x ^^^ b = stepN 8 (x ^^^ 256 * b) := by
  rw [stepN_xor, show 256 * b = 2 ^ 8 * b from rfl, stepN_up]
theorem crc4 (c b0 b1 b2 b3 : Nat) : crcF c [b0, b1, b2, b3] = stepN 32 (c ^^^ b0 ^^^ 256 * b1 ^^^ 65536 * b2 ^^^ 16777216 * b3) := by
  have e1 : ∀ x b, stepN 8 (stepN 8 x) ^^^ b = stepN 8 (stepN 8 (x ^^^ 65536 * b)) := by
    intro x b
    rw [step_in, step_in, show 256 * (256 * b) = 65536 * b by omega]
  have e2 : ∀ x b, stepN 8 (stepN 8 (stepN 8 x)) ^^^ b = stepN 8 (stepN 8 (stepN 8 (x ^^^ 16777216 * b))) := by
    intro x b
    rw [e1, step_in, show 256 * (65536 * b) = 16777216 * b by omega]
  rw [crcF_cons, crcF_cons, crcF_cons, crcF_cons, crcF_nil, step_in (c ^^^ b0) b1, e1 (c ^^^ b0 ^^^ 256 * b1) b2, e2 (c ^^^ b0 ^^^ 256 * b1 ^^^ 65536 * b2) b3, ← stepN_add, ← stepN_add, ← stepN_add]
theorem join4 (b0 b1 b2 b3 : Nat) (h0 : b0 < 256) (h1 : b1 < 256) (h2 : b2 < 256) : b0 ^^^ 256 * b1 ^^^ 65536 * b2 ^^^ 16777216 * b3 = b0 + 256 * b1 + 65536 * b2 + 16777216 * b3 := by
  have e1 : b0 ^^^ 256 * b1 = 256 * b1 + b0 := by rw [Nat.xor_comm]; exact xor_join 8 b1 b0 h0
  have e2 : (256 * b1 + b0) ^^^ 65536 * b2 = 65536 * b2 + (256 * b1 + b0) := by rw [Nat.xor_comm]; exact xor_join 16 b2 _ (by omega)
  have e3 : (65536 * b2 + (256 * b1 + b0)) ^^^ 16777216 * b3 = 16777216 * b3 + (65536 * b2 + (256 * b1 + b0)) := by rw [Nat.xor_comm]; exact xor_join 24 b3 _ (by omega)
  rw [e1, e2, e3]; omega
theorem list4 {l : List Nat} (hl : l.length = 4) : ∃ a b c d, l = [a, b, c, d] := by
  match l, hl with
  | [a, b, c, d], _ => exact ⟨a, b, c, d, rfl⟩
theorem crc_four (c : Nat) {l r : List Nat} (hc : c < 4294967296) (hl : l.length = 4) (hr : r.length = 4) (bl : Byt l) (br : Byt r) (h : crcF c l = crcF c r) : w4 l = w4 r := by
  obtain ⟨a0, a1, a2, a3, rfl⟩ := list4 hl
  obtain ⟨b0, b1, b2, b3, rfl⟩ := list4 hr
  have A0 := bl a0 (by simp); have A1 := bl a1 (by simp); have A2 := bl a2 (by simp); have A3 := bl a3 (by simp)
  have B0 := br b0 (by simp); have B1 := br b1 (by simp); have B2 := br b2 (by simp); have B3 := br b3 (by simp)
  rw [crc4, crc4] at h
  have ea : c ^^^ a0 ^^^ 256 * a1 ^^^ 65536 * a2 ^^^ 16777216 * a3 = (a0 + 256 * a1 + 65536 * a2 + 16777216 * a3) ^^^ c := by
    rw [← join4 a0 a1 a2 a3 A0 A1 A2, Nat.xor_comm _ c, ← Nat.xor_assoc, ← Nat.xor_assoc, ← Nat.xor_assoc]
  have eb : c ^^^ b0 ^^^ 256 * b1 ^^^ 65536 * b2 ^^^ 16777216 * b3 = (b0 + 256 * b1 + 65536 * b2 + 16777216 * b3) ^^^ c := by
    rw [← join4 b0 b1 b2 b3 B0 B1 B2, Nat.xor_comm _ c, ← Nat.xor_assoc, ← Nat.xor_assoc, ← Nat.xor_assoc]
  rw [ea, eb] at h
  have := xor_cancel (stepN_inj 32 _ _ (xor32_lt (by omega) hc) (xor32_lt (by omega) hc) h)
  exact this
end Sums
