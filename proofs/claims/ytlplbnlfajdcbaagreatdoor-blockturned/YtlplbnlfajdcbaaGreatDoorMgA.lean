/-
  Sums, numbers and texts as bytes: what sums and code answer. Conditions: as each says.
-/
import Derived.Test.YtlplbnlfajdcbaaGreatDoorProg
import Derived.WalkKit
import Derived.Handy
import Derived.OwnWalk
import Derived.Laws.CopyRow
import Derived.Laws.Strings
import Derived.Maps.AppendAt
import Derived.Deep.QuietTactic
import Derived.BigQuiet
import Derived.Test.YtlplbnlfajdcbaaGreatDoorChecked
import Derived.Below
import Derived.WalkSpells
import Derived.WalkLawsBesides
import Derived.Lib.EndianBits
import Derived.Laws.BitsAllLaws
import Derived.Laws.Bits128
namespace Sums
def bl (s : ByteArray) : List Nat := s.data.toList.map UInt8.toNat
theorem bl_length (s : ByteArray) : (bl s).length = s.size := by unfold bl; rw [List.length_map]; rfl
theorem bl_get (s : ByteArray) (i : Nat) (h : i < s.size) : (bl s).getD i 0 = s[i].toNat := by
  have h2 : i < s.data.toList.length := by simpa using h
  unfold bl
  rw [List.getD_eq_getElem?_getD, List.getElem?_map, List.getElem?_eq_getElem h2]
  rfl
theorem bl_byt (s : ByteArray) : ∀ b ∈ bl s, b < 256 := by
  intro b hb
  obtain ⟨x, _, rfl⟩ := List.mem_map.1 hb
  exact UInt8.toNat_lt x
theorem bl_append (a b : ByteArray) : bl (a ++ b) = bl a ++ bl b := by
  unfold bl
  rw [ByteArray.data_append, Array.toList_append, List.map_append]
theorem bl_extract (s : ByteArray) (i j : Nat) : bl (s.extract i j) = ((bl s).take j).drop i := by
  unfold bl
  rw [ByteArray.data_extract, Array.toList_extract, List.extract_eq_take_drop, List.map_take, List.map_drop, List.drop_take]
theorem bl_inj {a b : ByteArray} (h : bl a = bl b) : a = b := by
  have h1 : a.data.toList = b.data.toList := by
    have := List.map_inj_right (f := UInt8.toNat) (fun x y h => UInt8.toNat_inj.1 h) |>.1 h
    exact this
  exact ByteArray.ext (Array.toList_inj.1 h1)
theorem bl_drop (s : ByteArray) (i : Nat) : bl (s.extract i s.size) = (bl s).drop i := by
  rw [bl_extract, ← bl_length, List.take_length]
theorem bl_take (s : ByteArray) (j : Nat) : bl (s.extract 0 j) = (bl s).take j := by
  rw [bl_extract, List.drop_zero]
end Sums

namespace Code
/-- the bytes of a number, the lowest seven bits first; f: how many may follow the first -/
def enc : Nat → Nat → List Nat
  | 0, n => [n]
  | f + 1, n => if n < 128 then [n] else (n % 128 + 128) :: enc f (n / 128)
def uint (n : Nat) : List Nat := enc 10 n
theorem enc_one (f n : Nat) (h : n < 128) : enc f n = [n] := by cases f <;> simp [enc, h]
theorem enc_more (f n : Nat) (h : ¬ n < 128) : enc (f + 1) n = (n % 128 + 128) :: enc f (n / 128) := by simp [enc, h]
theorem enc_byt : ∀ f n, n < 128 ^ (f + 1) → ∀ z ∈ enc f n, z < 256
  | 0, n, h, z, hz => by
      have : z = n := by simpa [enc] using hz
      subst this
      simp at h
      omega
  | f + 1, n, h, z, hz => by
      by_cases hn : n < 128
      · rw [enc_one _ _ hn] at hz
        have : z = n := by simpa using hz
        omega
      · rw [enc_more _ _ hn] at hz
        rcases List.mem_cons.1 hz with rfl | hz
        · omega
        · exact enc_byt f (n / 128) (by rw [Nat.pow_succ] at h; exact Nat.div_lt_of_lt_mul (by rw [Nat.mul_comm]; exact h)) z hz
theorem uint_byt (n : Nat) (h : n < 18446744073709551616) : ∀ z ∈ uint n, z < 256 := enc_byt 10 n (by omega)
theorem enc_len : ∀ k f n, n < 128 ^ (k + 1) → (enc f n).length ≤ k + 1
  | 0, f, n, h => by rw [enc_one f n (by simpa using h)]; simp
  | k + 1, f, n, h => by
      cases f with
      | zero => simp [enc]
      | succ f =>
        by_cases hn : n < 128
        · rw [enc_one _ _ hn]; simp
        · rw [enc_more _ _ hn, List.length_cons]
          have := enc_len k f (n / 128) (by rw [Nat.pow_succ] at h; exact Nat.div_lt_of_lt_mul (by rw [Nat.mul_comm]; exact h))
          omega
theorem uint_len (n : Nat) (h : n < 18446744073709551616) : (uint n).length ≤ 10 := enc_len 9 10 n (by omega)
theorem enc_pos : ∀ f n, 1 ≤ (enc f n).length
  | 0, n => by simp [enc]
  | f + 1, n => by unfold enc; split <;> simp
theorem uint_pos (n : Nat) : 1 ≤ (uint n).length := enc_pos 10 n
theorem or128 : ∀ b < 256, b ||| 128 = b % 128 + 128 := by decide +kernel
/-- reading a number: the number, the error, how many bytes were read -/
def rdF : Nat → Nat → Nat → List Nat → Nat × Nat × Nat
  | 0, _, _, _ => (0, 32, 0)
  | _ + 1, _, _, [] => (0, 30, 0)
  | f + 1, i, n, b :: l => if i = 9 ∧ 1 < b then (0, 32, 0) else if 0 < i ∧ b = 0 then (0, 31, 0) else if b < 128 then (n + b % 128 * 2 ^ (7 * i), 0, i + 1) else rdF f (i + 1) (n + b % 128 * 2 ^ (7 * i)) l
def rd (l : List Nat) : Nat × Nat × Nat := rdF 10 0 0 l
theorem rdF_nil (f i n : Nat) : rdF (f + 1) i n [] = (0, 30, 0) := rfl
theorem rdF_cons (f i n b : Nat) (l : List Nat) : rdF (f + 1) i n (b :: l) = if i = 9 ∧ 1 < b then (0, 32, 0) else if 0 < i ∧ b = 0 then (0, 31, 0) else if b < 128 then (n + b % 128 * 2 ^ (7 * i), 0, i + 1) else rdF f (i + 1) (n + b % 128 * 2 ^ (7 * i)) l := rfl
theorem pow7 (i : Nat) : 2 ^ (7 * (i + 1)) = 128 * 2 ^ (7 * i) := by
  rw [Nat.mul_add, Nat.pow_add, Nat.mul_comm]
theorem split7 (m i : Nat) : m % 128 * 2 ^ (7 * i) + m / 128 * 2 ^ (7 * (i + 1)) = m * 2 ^ (7 * i) := by
  rw [pow7, ← Nat.mul_assoc, ← Nat.add_mul]
  congr 1
  omega
theorem pow64 : ∀ i, i ≤ 8 → 2 ^ (64 - 7 * i) = 128 * 2 ^ (64 - 7 * (i + 1)) := by
  intro i hi
  rw [show 64 - 7 * i = 7 + (64 - 7 * (i + 1)) by omega, Nat.pow_add]
theorem rdF_enc : ∀ (f' f i a m : Nat) (l : List Nat), f + i = 10 → i ≤ 9 → m < 2 ^ (64 - 7 * i) → m < 128 ^ (f' + 1) → (0 < i → 0 < m) →
    rdF f i a (enc f' m ++ l) = (a + m * 2 ^ (7 * i), 0, i + (enc f' m).length) := by
  intro f'
  induction f' with
  | zero =>
    intro f i a m l hf hi hm h1 h0
    obtain ⟨f, rfl⟩ : ∃ k, f = k + 1 := ⟨f - 1, by omega⟩
    have hm1 : m < 128 := by simpa using h1
    have h9 : ¬ (i = 9 ∧ 1 < m) := by rintro ⟨rfl, h⟩; simp at hm; omega
    show rdF (f + 1) i a (m :: l) = _
    rw [rdF_cons, if_neg h9, if_neg (by omega), if_pos hm1, Nat.mod_eq_of_lt hm1]
    rfl
  | succ f' ih =>
    intro f i a m l hf hi hm h1 h0
    obtain ⟨f, rfl⟩ : ∃ k, f = k + 1 := ⟨f - 1, by omega⟩
    by_cases hm1 : m < 128
    · have h9 : ¬ (i = 9 ∧ 1 < m) := by rintro ⟨rfl, h⟩; simp at hm; omega
      rw [enc_one _ _ hm1]
      show rdF (f + 1) i a (m :: l) = _
      rw [rdF_cons, if_neg h9, if_neg (by omega), if_pos hm1, Nat.mod_eq_of_lt hm1]
      rfl
    · have hi8 : i ≤ 8 := by
        by_cases h : i = 9
        · subst h; simp at hm; omega
        · omega
      rw [enc_more _ _ hm1, List.cons_append, rdF_cons, if_neg (by omega), if_neg (by omega), if_neg (by omega)]
      have hp := pow64 i hi8
      rw [ih f (i + 1) _ (m / 128) l (by omega) (by omega) (by rw [hp] at hm; exact Nat.div_lt_of_lt_mul hm) (by rw [Nat.pow_succ] at h1; exact Nat.div_lt_of_lt_mul (by rw [Nat.mul_comm]; exact h1)) (by omega)]
      have hs := split7 m i
      rw [show (m % 128 + 128) % 128 = m % 128 by omega, List.length_cons, Nat.add_assoc, hs, show i + 1 + (enc f' (m / 128)).length = i + ((enc f' (m / 128)).length + 1) by omega]
theorem rd_uint (n : Nat) (l : List Nat) (h : n < 18446744073709551616) : rd (uint n ++ l) = (n, 0, (uint n).length) := by
  unfold rd uint
  rw [rdF_enc 10 10 0 0 n l rfl (by omega) (by simpa using h) (by omega) (by omega)]
  simp
theorem rdF_inv : ∀ (f i a : Nat) (l : List Nat) (n k : Nat), f + i = 10 → (∀ z ∈ l, z < 256) → rdF f i a l = (n, 0, k) →
    ∃ m p q, l = p ++ q ∧ n = a + m * 2 ^ (7 * i) ∧ enc f m = p ∧ k = i + p.length ∧ m < 2 ^ (64 - 7 * i) ∧ (0 < i → 0 < m) := by
  intro f
  induction f with
  | zero => intro i a l n k hf hl h; simp [rdF] at h
  | succ f ih =>
    intro i a l n k hf hl h
    cases l with
    | nil => simp [rdF] at h
    | cons b l =>
      rw [rdF_cons] at h
      by_cases h9 : i = 9 ∧ 1 < b
      · rw [if_pos h9] at h; simp at h
      rw [if_neg h9] at h
      by_cases hz : 0 < i ∧ b = 0
      · rw [if_pos hz] at h; simp at h
      rw [if_neg hz] at h
      have hb : b < 256 := hl b (List.mem_cons_self ..)
      by_cases h1 : b < 128
      · rw [if_pos h1] at h
        simp only [Prod.mk.injEq] at h
        refine ⟨b, [b], l, rfl, ?_, enc_one _ _ h1, h.2.2.symm, ?_, by omega⟩
        · rw [← h.1, Nat.mod_eq_of_lt h1]
        · by_cases h8 : i ≤ 8
          · rw [pow64 i h8]
            have := Nat.one_le_two_pow (n := 64 - 7 * (i + 1))
            omega
          · have : i = 9 := by omega
            subst this
            simp
            omega
      · rw [if_neg h1] at h
        have h8 : i ≤ 8 := by omega
        obtain ⟨m, p, q, rfl, hn, he, hk, hm, hp⟩ := ih (i + 1) _ l n k (by omega) (fun z hz => hl z (List.mem_cons_of_mem _ hz)) h
        have hmp := hp (by omega)
        refine ⟨b % 128 + 128 * m, b :: p, q, rfl, ?_, ?_, ?_, ?_, by omega⟩
        · rw [hn, pow7, Nat.add_mul, Nat.add_assoc, ← Nat.mul_assoc, Nat.mul_comm m 128]
        · rw [enc_more _ _ (by omega), show (b % 128 + 128 * m) / 128 = m by omega, he]
          congr 1
          omega
        · rw [hk, List.length_cons]; omega
        · rw [pow64 i h8]
          omega
theorem rd_inv (l : List Nat) (n k : Nat) (hl : ∀ z ∈ l, z < 256) (h : rd l = (n, 0, k)) : uint n = l.take k ∧ k ≤ l.length ∧ n < 18446744073709551616 := by
  obtain ⟨m, p, q, rfl, hn, he, hk, hm, _⟩ := rdF_inv 10 0 0 l n k rfl hl h
  simp at hn hk hm
  subst hn hk
  refine ⟨?_, by simp, hm⟩
  rw [List.take_left']
  · exact he
  · rfl
theorem rdF_err : ∀ (f i a : Nat) (l : List Nat), (rdF f i a l).2.1 ≠ 0 → (rdF f i a l).1 = 0 ∧ (rdF f i a l).2.2 = 0 := by
  intro f
  induction f with
  | zero => intro i a l h; exact ⟨rfl, rfl⟩
  | succ f ih =>
    intro i a l h
    cases l with
    | nil => exact ⟨rfl, rfl⟩
    | cons b l =>
      rw [rdF_cons] at h ⊢
      split
      · exact ⟨rfl, rfl⟩
      · split
        · exact ⟨rfl, rfl⟩
        · split
          · rename_i h1 h2 h3
            rw [if_neg h1, if_neg h2, if_pos h3] at h
            exact absurd rfl h
          · rename_i h1 h2 h3
            rw [if_neg h1, if_neg h2, if_neg h3] at h
            exact ih _ _ _ h
theorem rd_err (l : List Nat) (h : (rd l).2.1 ≠ 0) : (rd l).1 = 0 ∧ (rd l).2.2 = 0 := rdF_err 10 0 0 l h
theorem rd_ok (l : List Nat) (hl : ∀ z ∈ l, z < 256) (h : (rd l).2.1 = 0) : uint (rd l).1 = l.take (rd l).2.2 ∧ (rd l).2.2 ≤ l.length ∧ (rd l).1 < 18446744073709551616 := by
  refine rd_inv l _ _ hl ?_
  rw [← h]
theorem rd_lt (l : List Nat) (hl : ∀ z ∈ l, z < 256) : (rd l).1 < 18446744073709551616 ∧ (rd l).2.2 ≤ l.length := by
  by_cases h : (rd l).2.1 = 0
  · have := rd_ok l hl h
    exact ⟨this.2.2, this.2.1⟩
  · have := rd_err l h
    omega
theorem rdF_errs : ∀ (f i a : Nat) (l : List Nat), (rdF f i a l).2.1 ≤ 32 := by
  intro f
  induction f with
  | zero => intro i a l; exact Nat.le_refl _
  | succ f ih =>
    intro i a l
    cases l with
    | nil => show 30 ≤ 32; omega
    | cons b l =>
      rw [rdF_cons]
      split
      · exact Nat.le_refl _
      · split
        · show 31 ≤ 32; omega
        · split
          · show 0 ≤ 32; omega
          · exact ih _ _ _
theorem rd_errs (l : List Nat) : (rd l).2.1 ≤ 32 := rdF_errs 10 0 0 l
/-- no number's bytes begin with another one's -/
theorem uint_pre (a b : Nat) (t : List Nat) (ha : a < 18446744073709551616) (hb : b < 18446744073709551616) (h : uint a = uint b ++ t) : a = b := by
  have h1 := rd_uint a [] ha
  rw [List.append_nil, h, rd_uint b t hb] at h1
  simp only [Prod.mk.injEq] at h1
  exact h1.1.symm
theorem uint_pre2 (a b : Nat) (s t : List Nat) (ha : a < 18446744073709551616) (hb : b < 18446744073709551616) (h : uint a ++ s = uint b ++ t) : a = b ∧ s = t := by
  have h1 := rd_uint a s ha
  rw [h, rd_uint b t hb] at h1
  simp only [Prod.mk.injEq] at h1
  obtain rfl := h1.1
  exact ⟨rfl, List.append_cancel_left h⟩
/-- the number as which an int is written -/
def zig (n : Int) : Nat := if 0 ≤ n then 2 * n.toNat else 2 * (-(n + 1)).toNat + 1
def zag (n : Nat) : Int := if n % 2 = 1 then -((n / 2 : Nat) : Int) - 1 else ((n / 2 : Nat) : Int)
theorem zag_zig (n : Int) : zag (zig n) = n := by
  unfold zag zig
  by_cases h : 0 ≤ n
  · rw [if_pos h, if_neg (by omega)]; omega
  · rw [if_neg h, if_pos (by omega)]; omega
theorem zig_zag (n : Nat) : zig (zag n) = n := by
  unfold zag zig
  by_cases h : n % 2 = 1
  · rw [if_pos h, if_neg (by omega)]; omega
  · rw [if_neg h, if_pos (by omega)]; omega
theorem zig_lt (n : Int) (h0 : -9223372036854775808 ≤ n) (h1 : n ≤ 9223372036854775807) : zig n < 18446744073709551616 := by
  unfold zig
  split <;> omega
theorem zig_inj (a b : Int) (h : zig a = zig b) : a = b := by rw [← zag_zig a, h, zag_zig]
end Code

namespace Go.Proofs.YtlplbnlfajdcbaaGreatDoor
open Go.RowKit
set_option linter.unusedVariables false
theorem _root_.Go.RowKit.Hid.mk' {p : Prop} (h : p) : Hid p := h
/-- block g holds the cells cs, of type t; else w' is as w was -/
structure Put (g : Nat) (t : TypeId) (cs : List Value) (w w' : World) : Prop where
  os : w'.os = w.os
  tape : w'.tape = w.tape
  output : w'.output = w.output
  size : w'.heap.size = w.heap.size
  block : ∀ k, k ≠ g → w'.heap[k]? = w.heap[k]?
  row : w'.heap[g]? = some (.cells cs.toArray t (0, 0))
theorem Put.refl {g : Nat} {t : TypeId} {cs : List Value} {w : World} (h : w.heap[g]? = some (.cells cs.toArray t (0, 0))) : Put g t cs w w :=
  ⟨rfl, rfl, rfl, rfl, fun _ _ => rfl, h⟩
theorem Put.trans {g : Nat} {t t' : TypeId} {cs ds : List Value} {a b c : World} (h : Put g t cs a b) (k : Put g t' ds b c) : Put g t' ds a c :=
  ⟨k.os.trans h.os, k.tape.trans h.tape, k.output.trans h.output, k.size.trans h.size, fun i hi => (k.block i hi).trans (h.block i hi), k.row⟩
theorem Put.drewN {g : Nat} {t : TypeId} {cs : List Value} {a b : World} (h : Put g t cs a b) (n : Nat) : Put g t cs a (b.drewN n) :=
  ⟨h.os, h.tape, h.output, h.size, h.block, h.row⟩
theorem Put.below {g B : Nat} {t : TypeId} {cs : List Value} {a b : World} (h : Put g t cs a b) (hB : B ≤ g) : Below B a b :=
  ⟨h.os, h.tape, h.output, by rw [h.size]; exact Nat.le_refl _, fun k hk => h.block k (by omega)⟩
theorem Put.setRow {g : Nat} {t : TypeId} {cs ds : List Value} {a b : World} (h : Put g t cs a b) : Put g t ds a (b.setRow g ds.toArray) :=
  ⟨h.os, h.tape, h.output, by rw [← h.size]; simp [World.setRow], fun k hk => by rw [← h.block k hk]; simp only [World.setRow, Array.getElem?_modify]; rw [if_neg (by omega)], setRow_heap b g _ _ t _ h.row⟩
theorem Put.setCell {g o : Nat} {t : TypeId} {cs : List Value} {a b : World} (h : Put g t cs a b) (u : Value) : Put g t (cs.set o u) a (b.setCell ⟨g, o, none⟩ u) := by
  have e := setCell_eq_setRow b g o cs.toArray t (0, 0) u h.row
  rw [e, show cs.toArray.setIfInBounds o u = (cs.set o u).toArray by simp]
  exact h.setRow
theorem Put.cell {g o : Nat} {t : TypeId} {cs : List Value} {a b : World} (h : Put g t cs a b) (v : Value) (hv : cs[o]? = some v) : b.cell? ⟨g, o, none⟩ = some v := by
  simp [World.cell?, h.row, hv]
theorem Put.frozen {g o : Nat} {t : TypeId} {cs : List Value} {a b : World} (h : Put g t cs a b) : b.frozen? ⟨g, o, none⟩ = false := by
  simp [World.frozen?, h.row]
theorem Put.lt {g : Nat} {t : TypeId} {cs : List Value} {a b : World} (h : Put g t cs a b) : g < a.heap.size := by
  rw [← h.size]
  exact (Array.getElem?_eq_some_iff.1 h.row).1
/-- of what was there only block g is written -/
structure Only (g : Nat) (w w' : World) : Prop where
  os : w'.os = w.os
  tape : w'.tape = w.tape
  output : w'.output = w.output
  size : w.heap.size ≤ w'.heap.size
  block : ∀ k, k < w.heap.size → k ≠ g → w'.heap[k]? = w.heap[k]?
theorem Put.only {g : Nat} {t : TypeId} {cs : List Value} {a b : World} (h : Put g t cs a b) : Only g a b := ⟨h.os, h.tape, h.output, by rw [h.size]; exact Nat.le_refl _, fun k _ hk => h.block k hk⟩
theorem Only.refl (g : Nat) (w : World) : Only g w w := ⟨rfl, rfl, rfl, Nat.le_refl _, fun _ _ _ => rfl⟩
theorem Only.trans {g : Nat} {a b c : World} (h : Only g a b) (k : Only g b c) : Only g a c :=
  ⟨k.os.trans h.os, k.tape.trans h.tape, k.output.trans h.output, Nat.le_trans h.size k.size, fun i hi hg => (k.block i (Nat.lt_of_lt_of_le hi h.size) hg).trans (h.block i hi hg)⟩
theorem Only.drewN {g : Nat} {a b : World} (h : Only g a b) (n : Nat) : Only g a (b.drewN n) := ⟨h.os, h.tape, h.output, h.size, h.block⟩
theorem Only.below {g B : Nat} {a b : World} (h : Only g a b) (hB : B ≤ g) (hs : B ≤ a.heap.size) : Below B a b := ⟨h.os, h.tape, h.output, h.size, fun k hk => h.block k (by omega) (by omega)⟩
theorem Only.of_below {g : Nat} {a b : World} (h : Below a.heap.size a b) : Only g a b := ⟨h.os, h.tape, h.output, h.size, fun k hk _ => h.block k hk⟩
theorem Only.of_between {g B : Nat} {a b : World} (h : Below B a b) (hB : a.heap.size ≤ B) : Only g a b := ⟨h.os, h.tape, h.output, h.size, fun k hk _ => h.block k (by omega)⟩
theorem Only.alloc {g : Nat} {a b : World} (h : Only g a b) (o : Obj) : Only g a (b.alloc o) :=
  ⟨h.os, h.tape, h.output, by have := h.size; simp; omega, fun k hk hg => by rw [Below.heap_alloc b o k (Nat.lt_of_lt_of_le hk h.size)]; exact h.block k hk hg⟩
theorem _root_.Go.RowKit.Below.drewN' {B : Nat} {a w : World} (h : Below B a w) (n : Nat) : Below B a (w.drewN n) := ⟨h.os, h.tape, h.output, h.size, h.block⟩
/-- bytes as cells -/
def byv (l : List Nat) : List Value := l.map fun z => Value.int .u8 ((z : Nat) : Int)
theorem byv_append (a b : List Nat) : byv (a ++ b) = byv a ++ byv b := by unfold byv; exact List.map_append
theorem byv_len (l : List Nat) : (byv l).length = l.length := by unfold byv; exact List.length_map ..
def nums (l : List Nat) : ByteArray := strOfNums (l.map fun z => ((z : Nat) : Int))
theorem bl_nums (l : List Nat) (hl : ∀ z ∈ l, z < 256) : Sums.bl (nums l) = l := by
  show ((l.map fun z => ((z : Nat) : Int)).map fun n => UInt8.ofNat n.toNat).toArray.toList.map UInt8.toNat = l
  rw [List.toList_toArray, List.map_map, List.map_map]
  conv => rhs; rw [← List.map_id l]
  apply List.map_congr_left
  intro z hz
  show (UInt8.ofNat ((z : Int).toNat)).toNat = z
  rw [Int.toNat_natCast]
  exact UInt8.toNat_ofNat_of_lt (hl z hz)
theorem nums_size (l : List Nat) : (nums l).size = l.length := by unfold nums; rw [strOfNums_size]; simp
theorem nums_bl (s : ByteArray) : nums (Sums.bl s) = s := Sums.bl_inj (bl_nums _ (Sums.bl_byt s))
theorem nums_inj {a b : List Nat} (ha : ∀ z ∈ a, z < 256) (hb : ∀ z ∈ b, z < 256) (h : nums a = nums b) : a = b := by
  rw [← bl_nums a ha, h, bl_nums b hb]
theorem infoB : (Tryz.prog.info? 5).map (fun i => (i.zero, i.size, i.bytes)) = some (some (.int .u8 0), 1, 1) := by kernel_rfl
theorem own_rel {w wr w1 : World} {v : Value} {B n : Nat} {xs : List Value} {o : Obj} (hB : B ≤ wr.heap.size) (hown : wr.ownsRow B 5 1 v n xs) (hb : Below B w wr) (hg : (wr.alloc o).grownBy w1 v.ownBlock) : Below B w w1 :=
  (hb.alloc hB o).grown hg (by simp; omega) (fun k hk => (hown.lt k hk).1)
/-- a row of bytes of the call's own, as a text -/
theorem conv_own (B m : Nat) (l : List Nat) (wr : World) (v : Value) (hm : l.length = m) (hown : wr.ownsRow B 5 1 v m (byv l)) :
    (convert 52 9 v).run Tryz.prog wr = .ok (.string (nums l)) wr := by
  rcases hown.2 with ⟨rfl, h0⟩ | ⟨g, cap, cur, rfl, _⟩
  · rw [run_convert_bytes_nil wr 52 5 Tryz.underlying52 Tryz.underlying5 0 0 9 Tryz.underlying9]
    have e : l = [] := List.length_eq_zero_iff.1 (by omega)
    rw [e]
    rfl
  · refine run_convert_bytes_arg wr 52 5 Tryz.underlying52 Tryz.underlying5 g 0 m cap _ (by simp [hm]) (fun i hi => ?_) 9 Tryz.underlying9
    rw [Nat.zero_add, hown.cellAt i (by omega)]
    unfold byv
    rw [List.getElem?_map, List.getD_eq_getElem?_getD, List.getElem?_map, List.getElem?_eq_getElem (show i < l.length by omega)]
    rfl
theorem ret_str {a b : ByteArray} (h : a = b) : Ending.returned (.string a) = .returned (.string b) := by rw [h]
end Go.Proofs.YtlplbnlfajdcbaaGreatDoor

namespace Go.Proofs.YtlplbnlfajdcbaaGreatDoor
open Go.RowKit
set_option linter.unusedVariables false
theorem or_byte (m : Nat) : bits .or .u8 ((m : Int) % 256) 128 = (m : Int) % 128 + 128 := by
  rw [show ((m : Int) % 256) = ((m % 256 : Nat) : Int) by omega, show (128 : Int) = ((128 : Nat) : Int) from rfl, u8_or_nat _ _ (by omega) (by omega), Code.or128 _ (by omega)]
  omega
theorem byte_low (m : Nat) : [Value.int .u8 ((m : Int) % 128 + 128)] = byv [m % 128 + 128] := by
  unfold byv
  simp
set_option maxHeartbeats 1000000 in
theorem uint_any (n : Nat) (w : World) (hn : n < 18446744073709551616) :
    Calls Tryz.prog 82 #[.int .u64 (n : Int)] w fun e w' => e = .returned (.string (nums (Code.uint n))) ∧ Below w.heap.size w w' := by
  obtain ⟨i0, hi, hz0, hz1, hz2⟩ := info_parts infoB
  go_enter Tryz.func82, Tryz.ntmps82
  go_wp2_with (first | (at_make; refine wpList_make_own _ rfl _ _ 52 rfl w.heap.size 5 i0 (.int .u8 0) 1 Tryz.underlying52 hi hz0 hz1 .i64 .i64 10 10 rfl rfl rfl (by rw [hz2]; decide) (by unfold maxLen; decide) (Nat.le_refl _) ?_; intro w1 hownA hgrow) | fail)
  have hbA : Below w.heap.size w w1 := (Below.refl _ _).grown hgrow (Nat.le_refl _) (fun k hk => by cases hk)
  clear hgrow
  go_loopw [0, 3] (fun n' v wr => ∃ (f m : Nat) (pre : List Nat), n' = .int .u64 (m : Int) ∧ m < 128 ^ (f + 1) ∧ m < 18446744073709551616 ∧ f + pre.length = 10 ∧ pre ++ Code.enc f m = Code.uint n ∧ wr.ownsRow w.heap.size 5 1 v pre.length (byv pre) ∧ Below w.heap.size w wr) (fun n' _ _ => (intOf n').toNat)
  case atStart => exact ⟨10, n, [], rfl, by omega, hn, rfl, rfl, hownA, hbA⟩
  case round =>
    obtain ⟨f, m, pre, rfl, hm, hm64, hf, hpre, hown, hb⟩ := hrel
    have hBs := hb.size
    have HM := Hid.mk' hm
    have HM64 := Hid.mk' hm64
    have HF := Hid.mk' hf
    have HP := Hid.mk' hpre
    have hpl : pre.length ≤ 10 := by omega
    clear hownA hbA hn hm hf hpre
    by_cases hlt : m < 128
    · have hlt' : ¬ (128 : Int) ≤ (m : Int) := by omega
      have hlt2 : (m : Int) < 256 := by omega
      have HL := Hid.mk' hlt
      clear hlt hm64
      go_wp2_with (first | (at_builtin; refine wpList_append_own _ rfl _ _ 52 rfl w.heap.size 5 i0 (.int .u8 0) 1 1 Tryz.underlying52 hi hz0 hz1 hz2 rfl (by decide) _ _ _ rfl (hown.alloc _) ⟨wr.heap.size, 0, none⟩ 1 1 [.int .u8 (m : Int)] rfl rfl (cell_one_new _ _ _) (by simp [Value.oneCell']) (by unfold maxLen; omega) (by omega) (by simp; omega) ?_; intro v' w2 hown' hgrow _; have R2 := own_rel hBs hown hb hgrow; have hcv := conv_own w.heap.size (pre.length + 1) (pre ++ [m]) w2 _ (by simp) (by rw [byv_append]; exact hown'); clear hown' hgrow hown hb) | fail)
      go_ret
      refine ⟨ret_str ?_, R2⟩
      rw [← HP.out, Code.enc_one _ _ HL.out]
    · have hlt' : (128 : Int) ≤ (m : Int) := by omega
      obtain ⟨f, rfl⟩ : ∃ k, f = k + 1 := ⟨f - 1, by
        by_cases h0 : f = 0
        · subst h0; have := HM.out; simp at this; omega
        · omega⟩
      have HL := Hid.mk' hlt
      have h64 : (m : Int) < 18446744073709551616 := by omega
      clear hlt hm64
      have hor := or_byte m
      go_wp2_with (first | (at_builtin; refine wpList_append_own _ rfl _ _ 52 rfl w.heap.size 5 i0 (.int .u8 0) 1 1 Tryz.underlying52 hi hz0 hz1 hz2 rfl (by decide) _ _ _ rfl (hown.alloc _) ⟨wr.heap.size, 0, none⟩ 1 1 [.int .u8 ((m : Int) % 128 + 128)] rfl rfl (cell_one_new _ _ _) (by simp [Value.oneCell']) (by unfold maxLen; omega) (by omega) (by simp; omega) ?_; intro v' w2 hown' hgrow _; have R2 := own_rel hBs hown hb hgrow; rw [byte_low, ← byv_append] at hown'; have R1 := Hid.mk' hown'; clear hown' hgrow hown hb) | fail)
      go_roundw
      case rel =>
        have hm := HM.out
        have hl := HL.out
        refine ⟨f, m / 128, pre ++ [m % 128 + 128], by simp, ?_, by omega, by have := HF.out; simp; omega, ?_, by simpa using R1.out, R2⟩
        · rw [Nat.pow_succ] at hm; exact Nat.div_lt_of_lt_mul (by rw [Nat.mul_comm]; exact hm)
        · rw [List.append_assoc, List.singleton_append, ← Code.enc_more _ _ HL.out]
          exact HP.out
      case measure => simp [intOf]; omega
end Go.Proofs.YtlplbnlfajdcbaaGreatDoor

namespace Go.Proofs.YtlplbnlfajdcbaaGreatDoor
open Go.RowKit
set_option linter.unusedVariables false
theorem or_one (k : Nat) (h : k < 9223372036854775808) : bits .or .u64 ((2 * k : Nat) : Int) 1 = ((2 * k + 1 : Nat) : Int) := by
  rw [show (1 : Int) = ((1 : Nat) : Int) from rfl, u64_or_nat _ _ (by omega) (by omega)]
  have := Nat.two_pow_add_eq_or_of_lt (i := 1) (b := 1) (by decide) k
  rw [Nat.pow_one] at this
  rw [this]
theorem zig_or (n : Int) (hn : n < 0) (h0 : -9223372036854775808 ≤ n) : bits .or .u64 (-(n + 1) * 2) 1 = ((2 * (-(n + 1)).toNat + 1 : Nat) : Int) := by
  rw [← or_one _ (by omega)]
  congr 1
  omega
set_option maxHeartbeats 1000000 in
theorem int_any (n : Int) (w : World) (h0 : -9223372036854775808 ≤ n) (h1 : n ≤ 9223372036854775807) :
    Calls Tryz.prog 80 #[.int .i64 n] w fun e w' => e = .returned (.string (nums (Code.uint (Code.zig n)))) ∧ Below w.heap.size w w' := by
  have hz := Code.zig_lt n h0 h1
  by_cases hn : n < 0
  · have HZ : Hid (Code.zig n = 2 * (-(n + 1)).toNat + 1) := by unfold Code.zig; rw [if_neg (by omega)]; rfl
    go_enter Tryz.func80, Tryz.ntmps80
    go_wp2_with fail
    rw [zig_or n hn h0, ← HZ.out]
    refine (uint_any _ _ hz).mono ?_
    rintro e w1 ⟨rfl, hb⟩
    go_wp2_with fail
    go_ret
    exact ⟨rfl, hb⟩
  · have HZ : Hid (Code.zig n = 2 * n.toNat) := by unfold Code.zig; rw [if_pos (by omega)]; rfl
    go_enter Tryz.func80, Tryz.ntmps80
    go_wp2_with fail
    rw [show n * 2 = ((2 * n.toNat : Nat) : Int) by omega, ← HZ.out]
    refine (uint_any _ _ hz).mono ?_
    rintro e w1 ⟨rfl, hb⟩
    go_wp2_with fail
    go_ret
    exact ⟨rfl, hb⟩
end Go.Proofs.YtlplbnlfajdcbaaGreatDoor

namespace Go.Proofs.YtlplbnlfajdcbaaGreatDoor
open Go.RowKit
set_option linter.unusedVariables false
/-- the first k bytes of a number -/
def fixL (k n : Nat) : List Nat := (List.range k).map fun q => n / 256 ^ q % 256
theorem fixL_len (k n : Nat) : (fixL k n).length = k := by simp [fixL]
theorem fixL_step (k n : Nat) : fixL (k + 1) n = fixL k n ++ [n / 256 ^ k % 256] := by
  unfold fixL
  rw [List.range_succ, List.map_append]
  rfl
theorem fixL_byt (k n : Nat) : ∀ z ∈ fixL k n, z < 256 := by
  intro z hz
  obtain ⟨q, _, rfl⟩ := List.mem_map.1 hz
  exact Nat.mod_lt _ (by decide)
theorem set_at (A : List Value) (r : Nat) (x z : Value) (j : Nat) (hj : A.length = j) : (A ++ List.replicate (r + 1) z).set j x = A ++ [x] ++ List.replicate r z := by
  subst hj
  rw [List.set_append_right _ _ (Nat.le_refl _), Nat.sub_self, List.replicate_succ, List.set_cons_zero, List.append_assoc]
  rfl
theorem ret_tup2 {a b c d : Value} (h : a = b) (h2 : c = d) : Ending.returned (.tuple #[a, c]) = .returned (.tuple #[b, d]) := by rw [h, h2]
/-- what Fixed answers -/
def fixR (n : Nat) (k : Int) : Ending :=
  if k < 1 ∨ 8 < k then .returned (.tuple #[.string ByteArray.empty, .int .i64 1])
  else if 0 < n / 256 ^ k.toNat then .returned (.tuple #[.string ByteArray.empty, .int .i64 32])
  else .returned (.tuple #[.string (nums (fixL k.toNat n)), .int .i64 0])
set_option maxHeartbeats 1000000 in
theorem fixed_bad (n : Nat) (k : Int) (w : World) (h : k < 1 ∨ 8 < k) :
    Calls Tryz.prog 96 #[.int .u64 (n : Int), .int .i64 k] w fun e w' => e = .returned (.tuple #[.string ByteArray.empty, .int .i64 1]) ∧ w' = w := by
  rcases h with h | h
  · go_enter Tryz.func96, Tryz.ntmps96
    go_wp2_with fail
    go_ret2
    exact ⟨rfl, rfl⟩
  · have h' : ¬ k < 1 := by omega
    go_enter Tryz.func96, Tryz.ntmps96
    go_wp2_with fail
    go_ret2
    exact ⟨rfl, rfl⟩
set_option maxRecDepth 100000 in
set_option maxHeartbeats 1000000 in
theorem fixed_in (n k : Nat) (w : World) (hn : n < 18446744073709551616) (h1 : 1 ≤ k) (h8 : k ≤ 8) :
    Calls Tryz.prog 96 #[.int .u64 (n : Int), .int .i64 (k : Int)] w fun e w' => e = fixR n k ∧ Below w.heap.size w w' := by
  obtain ⟨i0, hi, hz0, hz1, hz2⟩ := info_parts infoB
  have g1 : ¬ (k : Int) < 1 := by omega
  have g8 : ¬ (8 : Int) < (k : Int) := by omega
  go_enter Tryz.func96, Tryz.ntmps96
  go_wp2_with (first | (at_make; refine wpList_make_full _ rfl _ _ 52 rfl w.heap.size 5 i0 (.int .u8 0) 1 Tryz.underlying52 hi hz0 hz1 .i64 .i64 (k : Int) (k : Int) k rfl rfl rfl rfl (by rw [hz2]; omega) (by unfold maxLen; omega) (Nat.le_refl _) ?_; intro w1 hownA hgrow) | fail)
  have hbA : Below w.heap.size w w1 := (Below.refl _ _).grown hgrow (Nat.le_refl _) (fun k hk => by cases hk)
  have hownB : w1.ownsRow w.heap.size 5 1 (.slice (some ⟨w.heap.size, 0, none⟩) k k) k (byv (fixL 0 n) ++ List.replicate k (.int .u8 0)) := by
    rw [Nat.mul_one, show (Value.int IntKind.u8 0).cells = #[.int .u8 0] from rfl, toList_madeCells_one] at hownA
    exact hownA
  clear hgrow hownA
  go_loopw [0, 18] (fun n' i wr => ∃ (j m : Nat), i = .int .i64 (j : Int) ∧ j ≤ k ∧ n' = .int .u64 (m : Int) ∧ m < 18446744073709551616 ∧ m = n / 256 ^ j ∧ wr.ownsRow w.heap.size 5 1 (.slice (some ⟨w.heap.size, 0, none⟩) k k) k (byv (fixL j n) ++ List.replicate (k - j) (.int .u8 0)) ∧ Below w.heap.size w wr) (fun _ i _ => k - (intOf i).toNat)
  case atStart => exact ⟨0, n, rfl, by omega, rfl, hn, by simp, hownB, hbA⟩
  case round =>
    clear hownB hbA
    obtain ⟨j, m, rfl, hj, rfl, hm, hmj, hown, hb⟩ := hrel
    have HJ := Hid.mk' hmj
    have hm2 : (m : Int) < 18446744073709551616 := by omega
    have HM := Hid.mk' hm
    clear hmj hm hn
    by_cases hlt : j < k
    · have hj3 : (j : Int) < (k : Int) := by omega
      have hc := hown.cellAt j (by omega)
      have hfz := hown.frozenAt j
      have hcx : ∃ v, wr.cell? ⟨w.heap.size, j, none⟩ = some v := by
        rw [hc]
        have hl : j < (byv (fixL j n) ++ List.replicate (k - j) (Value.int .u8 0)).length := by rw [List.length_append, byv_len, fixL_len]; simp; omega
        exact ⟨_, List.getElem?_eq_getElem hl⟩
      obtain ⟨v, hv⟩ := hcx
      have hst := hown.stored j (.int .u8 ((m : Int) % 256))
      have HST := Hid.mk' hst
      have HB := Hid.mk' hb
      clear hc hst hown hb
      go_wp2_with fail
      go_roundw
      case rel =>
        refine ⟨j + 1, m / 256, by go_num, by omega, by simp, by have := HM.out; omega, ?_, ?_, HB.out.setCell (Nat.le_refl _) _⟩
        · rw [HJ.out, Nat.pow_succ, Nat.div_div_eq_div_mul]
        · have h := HST.out.1
          rw [show k - j = (k - (j + 1)) + 1 by omega, set_at _ _ _ _ j (by rw [byv_len, fixL_len]), show [Value.int IntKind.u8 ((m : Int) % 256)] = byv [n / 256 ^ j % 256] by rw [← HJ.out]; unfold byv; simp, ← byv_append, ← fixL_step] at h
          exact h
      case measure => simp [intOf]; omega
    · obtain rfl : j = k := by omega
      have hlt' : ¬ (j : Int) < (j : Int) := by omega
      rw [Nat.sub_self, List.replicate_zero, List.append_nil] at hown
      have hcv := conv_own w.heap.size j (fixL j n) wr _ (fixL_len _ _) hown
      by_cases h0 : m = 0
      · have HR : Hid (fixR n j = .returned (.tuple #[.string (nums (fixL j n)), .int .i64 0])) := by
          unfold fixR
          rw [if_neg (by omega), Int.toNat_natCast, if_neg (by rw [← HJ.out]; omega)]
          rfl
        have hm0 : ¬ (0 : Int) < (m : Int) := by omega
        clear hown
        go_wp2_with fail
        go_ret2
        exact ⟨HR.out.symm, hb⟩
      · have HR : Hid (fixR n j = .returned (.tuple #[.string ByteArray.empty, .int .i64 32])) := by
          unfold fixR
          rw [if_neg (by omega), Int.toNat_natCast, if_pos (by rw [← HJ.out]; omega)]
          rfl
        have hm0 : decide ((0 : Int) < (m : Int)) = true := decide_eq_true (by omega)
        have hm1 : 0 < m := by omega
        clear hown h0 hcv hm2 h1 h8 hlt
        go_wp2_with fail
        go_ret2
        exact ⟨HR.out.symm, hb⟩
theorem fixed_any (n : Nat) (k : Int) (w : World) (hn : n < 18446744073709551616) :
    Calls Tryz.prog 96 #[.int .u64 (n : Int), .int .i64 k] w fun e w' => e = fixR n k ∧ Below w.heap.size w w' := by
  by_cases h : k < 1 ∨ 8 < k
  · refine (fixed_bad n k w h).mono ?_
    rintro e w' ⟨rfl, rfl⟩
    refine ⟨?_, Below.refl _ _⟩
    unfold fixR
    rw [if_pos h]
  · obtain ⟨q, rfl⟩ := Int.eq_ofNat_of_zero_le (show 0 ≤ k by omega)
    exact fixed_in n q w hn (by omega) (by omega)
end Go.Proofs.YtlplbnlfajdcbaaGreatDoor

namespace Sums
def P : Nat := 2197175160
def step (c : Nat) : Nat := if c % 2 = 1 then c / 2 ^^^ P else c / 2
def stepN : Nat → Nat → Nat
  | 0, c => c
  | n + 1, c => stepN n (step c)
theorem step_lt (c : Nat) (h : c < 4294967296) : step c < 4294967296 := by
  unfold step P
  split
  · exact Nat.xor_lt_two_pow (n := 32) (by omega) (by decide)
  · omega
theorem stepN_lt : ∀ n c, c < 4294967296 → stepN n c < 4294967296
  | 0, _, h => h
  | n + 1, c, h => stepN_lt n _ (step_lt c h)
theorem half_xor (a b : Nat) : (a ^^^ b) / 2 = a / 2 ^^^ b / 2 := by
  have := Nat.shiftRight_xor_distrib (a := a) (b := b) (i := 1)
  simpa [Nat.shiftRight_eq_div_pow] using this
theorem xor_xor (a b c d : Nat) : (a ^^^ b) ^^^ (c ^^^ d) = (a ^^^ c) ^^^ (b ^^^ d) := by
  rw [Nat.xor_assoc, ← Nat.xor_assoc b c d, Nat.xor_comm b c, Nat.xor_assoc c b d, ← Nat.xor_assoc]
theorem step_xor (a b : Nat) : step (a ^^^ b) = step a ^^^ step b := by
  unfold step
  have hm : (a ^^^ b) % 2 = (a + b) % 2 := by
    have h := Nat.testBit_xor a b 0
    simp only [Nat.testBit_zero] at h
    by_cases h1 : (a ^^^ b) % 2 = 1 <;> by_cases ha : a % 2 = 1 <;> by_cases hb : b % 2 = 1 <;> simp [h1, ha, hb] at h <;> omega
  rw [hm, half_xor]
  by_cases ha : a % 2 = 1 <;> by_cases hb : b % 2 = 1
  · rw [if_neg (by omega), if_pos ha, if_pos hb, xor_xor, Nat.xor_self, Nat.xor_zero]
  · rw [if_pos (by omega), if_pos ha, if_neg hb, Nat.xor_assoc, Nat.xor_assoc, Nat.xor_comm (b / 2)]
  · rw [if_pos (by omega), if_neg ha, if_pos hb, Nat.xor_assoc]
  · rw [if_neg (by omega), if_neg ha, if_neg hb]
theorem stepN_xor : ∀ n a b, stepN n (a ^^^ b) = stepN n a ^^^ stepN n b
  | 0, _, _ => rfl
  | n + 1, a, b => by simp only [stepN]; rw [step_xor, stepN_xor n]
theorem stepN_zero : ∀ n, stepN n 0 = 0
  | 0 => rfl
  | n + 1 => by simp only [stepN]; rw [show step 0 = 0 from rfl, stepN_zero n]
theorem stepN_add : ∀ n m c, stepN (n + m) c = stepN m (stepN n c)
  | 0, m, c => by simp [stepN]
  | n + 1, m, c => by rw [Nat.succ_add]; simp only [stepN]; exact stepN_add n m _
theorem stepN_succ' (n c : Nat) : stepN (n + 1) c = step (stepN n c) := stepN_add n 1 c
theorem xor_join (k q r : Nat) (h : r < 2 ^ k) : 2 ^ k * q ^^^ r = 2 ^ k * q + r := by
  apply Nat.eq_of_testBit_eq
  intro i
  rw [Nat.testBit_xor, Nat.testBit_two_pow_mul_add _ h, Nat.testBit_two_pow_mul]
  by_cases hi : i < k
  · simp [hi, Nat.not_le.2 hi]
  · have : r.testBit i = false := Nat.testBit_lt_two_pow (Nat.lt_of_lt_of_le h (Nat.pow_le_pow_right (by omega) (by omega)))
    simp [hi, this, Nat.le_of_not_lt hi]
theorem step_double (q : Nat) : step (2 * q) = q := by
  unfold step
  rw [if_neg (by omega)]; omega
theorem stepN_up : ∀ n q, stepN n (2 ^ n * q) = q
  | 0, q => by simp [stepN]
  | n + 1, q => by
      simp only [stepN]
      rw [show 2 ^ (n + 1) * q = 2 * (2 ^ n * q) by rw [Nat.pow_succ, Nat.mul_comm (2 ^ n) 2, Nat.mul_assoc], step_double, stepN_up n]
theorem stepN_split (n c : Nat) : stepN n c = stepN n (c % 2 ^ n) ^^^ c / 2 ^ n := by
  have h : c = 2 ^ n * (c / 2 ^ n) ^^^ c % 2 ^ n := by
    rw [xor_join _ _ _ (Nat.mod_lt _ (Nat.two_pow_pos n))]; exact (Nat.div_add_mod _ _).symm
  conv => lhs; rw [h]
  rw [stepN_xor, stepN_up, Nat.xor_comm]
/-! the table -/
def tab4 : List Nat := [0, 274646895, 549293790, 820201905, 1098587580, 1361435347, 1640403810, 1905808397, 2197175160, 2460548119, 2722870694, 2987750089, 3280807620, 3553878443, 3811616794, 4084100981]
theorem tab4_get : ∀ r < 16, tab4.getD r 0 = stepN 4 r := by decide +kernel
theorem four (c : Nat) : tab4.getD (c % 16) 0 ^^^ c / 16 = stepN 4 c := by
  rw [tab4_get _ (by omega)]
  exact (stepN_split 4 c).symm
/-! step has a way back -/
theorem step_inj (a b : Nat) (ha : a < 4294967296) (hb : b < 4294967296) (h : step a = step b) : a = b := by
  have key : ∀ c, c < 4294967296 → step c = 0 → c = 0 := by
    intro c hc h
    unfold step at h
    split at h
    · exfalso
      have e : c / 2 = P := by
        have := congrArg (· ^^^ P) h
        simpa [Nat.xor_assoc] using this
      unfold P at e; omega
    · omega
  have h1 : step (a ^^^ b) = 0 := by rw [step_xor, h, Nat.xor_self]
  have h2 := key _ (Nat.xor_lt_two_pow (n := 32) ha hb) h1
  have := congrArg (· ^^^ b) h2
  simpa [Nat.xor_assoc] using this
theorem stepN_inj : ∀ n a b, a < 4294967296 → b < 4294967296 → stepN n a = stepN n b → a = b
  | 0, _, _, _, _, h => h
  | n + 1, a, b, ha, hb, h => step_inj a b ha hb (stepN_inj n _ _ (step_lt a ha) (step_lt b hb) h)
/-! the product -/
def mulF : Nat → Nat → Nat → Nat
  | 0, _, _ => 0
  | k + 1, a, b => (if a / 2147483648 = 1 then b else 0) ^^^ mulF k (a * 2 % 4294967296) (step b)
theorem mulF_lt : ∀ k a b, b < 4294967296 → mulF k a b < 4294967296
  | 0, _, _, _ => by simp [mulF]
  | k + 1, a, b, h => by
      simp only [mulF]
      refine Nat.xor_lt_two_pow (n := 32) ?_ (mulF_lt k _ _ (step_lt b h))
      split <;> omega
theorem mulF_zero : ∀ k b, mulF k 0 b = 0
  | 0, _ => rfl
  | k + 1, b => by simp [mulF, mulF_zero k]
theorem mulF_xor : ∀ k a b c, mulF k a (b ^^^ c) = mulF k a b ^^^ mulF k a c
  | 0, _, _, _ => by simp [mulF]
  | k + 1, a, b, c => by
      simp only [mulF]
      rw [step_xor, mulF_xor k]
      split
      · rw [xor_xor]
      · simp
theorem mulF_step : ∀ k a b, mulF k a (step b) = step (mulF k a b)
  | 0, _, _ => by simp [mulF, step]
  | k + 1, a, b => by
      simp only [mulF]
      rw [step_xor, mulF_step k]
      congr 1
      split
      · rfl
      · rfl
theorem mulF_stepN : ∀ n k a b, mulF k a (stepN n b) = stepN n (mulF k a b)
  | 0, _, _, _ => rfl
  | n + 1, k, a, b => by simp only [stepN]; rw [mulF_stepN n, mulF_step]
theorem mulF_one : ∀ k a, k < 32 → a < 4294967296 → mulF (k + 1) a (2 ^ k) = a / 2 ^ (31 - k)
  | 0, a, _, ha => by
      simp only [mulF, Nat.xor_zero]
      have h1 : a / 2147483648 ≤ 1 := by omega
      simp only [Nat.pow_zero, Nat.sub_zero, Nat.reducePow]
      split <;> omega
  | k + 1, a, hk, ha => by
      rw [mulF, show step (2 ^ (k + 1)) = 2 ^ k by rw [Nat.pow_succ, Nat.mul_comm]; exact step_double _, mulF_one k _ (by omega) (Nat.mod_lt _ (by decide))]
      obtain ⟨e, he⟩ : ∃ e, 31 - k = e + 1 := ⟨30 - k, by omega⟩
      have he2 : 31 - (k + 1) = e := by omega
      rw [he, he2]
      have hke : 2 ^ (k + 1) * 2 ^ e = 2147483648 := by rw [← Nat.pow_add, show k + 1 + e = 31 by omega]
      have hr : a * 2 % 4294967296 / 2 ^ (e + 1) = a % 2147483648 / 2 ^ e := by
        rw [show a * 2 % 4294967296 = a % 2147483648 * 2 by omega, Nat.pow_succ, Nat.mul_comm (2 ^ e) 2, ← Nat.div_div_eq_div_mul]
        congr 1; omega
      rw [hr]
      have hlt : a % 2147483648 / 2 ^ e < 2 ^ (k + 1) := by
        rw [Nat.div_lt_iff_lt_mul (Nat.two_pow_pos e), hke]
        exact Nat.mod_lt _ (by decide)
      have hd : a / 2 ^ e = 2 ^ (k + 1) * (a / 2147483648) + a % 2147483648 / 2 ^ e := by
        have h := Nat.div_add_mod a 2147483648
        conv => lhs; rw [← h, ← hke, Nat.mul_comm (2 ^ (k + 1)) (2 ^ e), Nat.mul_assoc, Nat.mul_add_div (Nat.two_pow_pos e)]
        rw [Nat.mul_comm (2 ^ e) (2 ^ (k + 1)), hke]
      rw [hd]
      by_cases h1 : a / 2147483648 = 1
      · rw [if_pos h1, h1, Nat.mul_one]
        have := xor_join (k + 1) 1 _ hlt
        simpa using this
      · have h0 : a / 2147483648 = 0 := by omega
        rw [if_neg h1, h0]; simp
theorem mul_pow (a m : Nat) (ha : a < 4294967296) : mulF 32 a (stepN m 2147483648) = stepN m a := by
  rw [mulF_stepN]
  congr 1
  have := mulF_one 31 a (by decide) ha
  simpa using this
/-! how often a number can be doubled -/
def cnt : Nat → Nat → Nat
  | 0, _ => 0
  | n + 1, a => cnt n a + (if a * 2 ^ n % 4294967296 = 0 then 0 else 1)
theorem cnt_shift (a : Nat) : ∀ n, cnt n (a * 2 % 4294967296) + (if a % 4294967296 = 0 then 0 else 1) = cnt n a + (if a * 2 ^ n % 4294967296 = 0 then 0 else 1)
  | 0 => by simp [cnt]
  | n + 1 => by
      have ih := cnt_shift a n
      have e : a * 2 % 4294967296 * 2 ^ n % 4294967296 = a * 2 ^ (n + 1) % 4294967296 := by
        rw [Nat.mod_mul_mod, Nat.mul_assoc, Nat.pow_succ, Nat.mul_comm 2]
      simp only [cnt]
      rw [e]
      omega
theorem cnt_less (a : Nat) (h0 : a ≠ 0) (h : a < 4294967296) : cnt 32 (a * 2 % 4294967296) < cnt 32 a := by
  have h1 := cnt_shift a 32
  rw [if_neg (by omega), if_pos (show a * 2 ^ 32 % 4294967296 = 0 by omega)] at h1
  omega
/-! the sum of a text -/
def crcF (c : Nat) (l : List Nat) : Nat := l.foldl (fun c b => stepN 8 (c ^^^ b)) c
theorem crcF_nil (c : Nat) : crcF c [] = c := rfl
theorem crcF_cons (c b : Nat) (l : List Nat) : crcF c (b :: l) = crcF (stepN 8 (c ^^^ b)) l := by unfold crcF; rw [List.foldl_cons]
def crcL (l : List Nat) : Nat := crcF 4294967295 l ^^^ 4294967295
def Byt (l : List Nat) : Prop := ∀ b ∈ l, b < 256
theorem crcF_lt (l : List Nat) (c : Nat) (hb : Byt l) (h : c < 4294967296) : crcF c l < 4294967296 := by
  induction l generalizing c with
  | nil => exact h
  | cons b l ih =>
      rw [crcF_cons]
      exact ih _ (fun x hx => hb x (List.mem_cons_of_mem _ hx)) (stepN_lt 8 _ (Nat.xor_lt_two_pow (n := 32) h (by have := hb b (List.mem_cons_self ..); omega)))
theorem crcL_lt (l : List Nat) (h : Byt l) : crcL l < 4294967296 := Nat.xor_lt_two_pow (n := 32) (crcF_lt l _ h (by decide)) (by decide)
theorem crcF_append (a b : List Nat) (c : Nat) : crcF c (a ++ b) = crcF (crcF c a) b := by
  unfold crcF; rw [List.foldl_append]
theorem crcF_from (l : List Nat) (c : Nat) : crcF c l = stepN (8 * l.length) c ^^^ crcF 0 l := by
  induction l generalizing c with
  | nil => rw [crcF_nil, crcF_nil, Nat.xor_zero]; rfl
  | cons b l ih =>
      rw [crcF_cons, crcF_cons, List.length_cons, ih, ih (stepN 8 (0 ^^^ b)), Nat.zero_xor, stepN_xor, stepN_xor, ← stepN_add, show 8 * (l.length + 1) = 8 + 8 * l.length by omega, Nat.xor_assoc]
theorem crc_join (a b : List Nat) : stepN (8 * b.length) (crcL a) ^^^ crcL b = crcL (a ++ b) := by
  unfold crcL
  rw [crcF_append, crcF_from b (crcF _ a), crcF_from b 4294967295, stepN_xor]
  generalize stepN (8 * b.length) (crcF 4294967295 a) = x
  generalize stepN (8 * b.length) 4294967295 = y
  generalize crcF 0 b = z
  rw [Nat.xor_assoc x y, ← Nat.xor_assoc y (y ^^^ z), ← Nat.xor_assoc y y z, Nat.xor_self, Nat.zero_xor, ← Nat.xor_assoc]
end Sums

namespace Go.Proofs.YtlplbnlfajdcbaaGreatDoor
open Go.RowKit
set_option linter.unusedVariables false
theorem ret_u32 {a b : Int} (h : a = b) : Ending.returned (.int .u32 a) = .returned (.int .u32 b) := by rw [h]
theorem int_u32 {a b : Int} (h : a = b) : Value.int .u32 a = Value.int .u32 b := by rw [h]
theorem Hid.mk' {p : Prop} (h : p) : Hid p := h
theorem wrap32 (n : Nat) : IntKind.u32.wrap (n : Int) = ((n % 4294967296 : Nat) : Int) := by rw [IntKind.wrap_u32]; omega
theorem and_one (c : Nat) (hc : c < 4294967296) : bits .and .u32 (c : Int) 1 = ((c % 2 : Nat) : Int) := by
  rw [show (1 : Int) = ((1 : Nat) : Int) from rfl, u32_and_nat c 1 hc (by omega), Nat.and_one_is_mod]
theorem step_odd (c : Nat) (hc : c < 4294967296) (h : c % 2 = 1) : bits .xor .u32 ((c : Int) / 2) 2197175160 = ((Sums.step c : Nat) : Int) := by
  rw [show (2197175160 : Int) = ((2197175160 : Nat) : Int) from rfl, show ((c : Int) / 2) = ((c / 2 : Nat) : Int) by omega, u32_xor_nat _ _ (by omega) (by omega)]
  unfold Sums.step Sums.P
  rw [if_pos h]
theorem step_even (c : Nat) (h : c % 2 ≠ 1) : ((c : Int) / 2) = ((Sums.step c : Nat) : Int) := by
  unfold Sums.step
  rw [if_neg h]; omega
end Go.Proofs.YtlplbnlfajdcbaaGreatDoor

namespace Go.Proofs.YtlplbnlfajdcbaaGreatDoor
open Go.RowKit
set_option linter.unusedVariables false
/-- the table lies as its text lays it -/
def Tab (w : World) : Prop := ∀ i : Nat, i < 16 → w.cell? ⟨1, i, none⟩ = some (.int .u32 ((Sums.tab4.getD i 0 : Nat) : Int))
theorem and_15 (c : Nat) (hc : c < 4294967296) : bits .and .u32 (c : Int) 15 = ((c % 16 : Nat) : Int) := by
  rw [show (15 : Int) = ((15 : Nat) : Int) from rfl, u32_and_nat c 15 hc (by omega)]
  congr 1
  exact Nat.and_two_pow_sub_one_eq_mod c 4
theorem four_bits (c : Nat) (hc : c < 4294967296) : bits .xor .u32 ((Sums.tab4.getD (c % 16) 0 : Nat) : Int) ((c : Int) / 16) = ((Sums.stepN 4 c : Nat) : Int) := by
  have h : Sums.tab4.getD (c % 16) 0 < 4294967296 := by
    rw [Sums.tab4_get _ (by omega)]; exact Sums.stepN_lt 4 _ (by omega)
  rw [show ((c : Int) / 16) = ((c / 16 : Nat) : Int) by omega, u32_xor_nat _ _ h (by omega), Sums.four]
theorem not32 (c : Nat) (hc : c < 4294967296) : bits .xor .u32 IntKind.u32.max (c : Int) = ((c ^^^ 4294967295 : Nat) : Int) := by
  rw [show IntKind.u32.max = ((4294967295 : Nat) : Int) by rfl, u32_xor_nat _ _ (by omega) hc, Nat.xor_comm]
theorem crcF_on (s : ByteArray) (i : Nat) (hi : i < s.size) (c : Nat) : Sums.crcF c ((Sums.bl s).take (i + 1)) = Sums.stepN 8 (Sums.crcF c ((Sums.bl s).take i) ^^^ s[i].toNat) := by
  have hl : i < (Sums.bl s).length := by rw [Sums.bl_length]; exact hi
  rw [List.take_add_one, Sums.crcF_append, List.getElem?_eq_getElem hl, ← Sums.bl_get s i hi, List.getD_eq_getElem?_getD, List.getElem?_eq_getElem hl]
  simp only [Option.toList_some, Option.getD_some]
  rw [Sums.crcF_cons, Sums.crcF_nil]
theorem take_byt (l : List Nat) (h : ∀ b ∈ l, b < 256) (i : Nat) : Sums.Byt (l.take i) := fun b hb => h b (List.mem_of_mem_take hb)
set_option maxHeartbeats 1000000 in
theorem crc_any (s : ByteArray) (w : World) (hs : s.size ≤ maxLen) (ht : Tab w) :
    Calls Tryz.prog 95 #[.string s] w fun e w' => e = .returned (.int .u32 (Sums.crcL (Sums.bl s) : Nat)) ∧ w' = w := by
  unfold maxLen at hs
  go_enter Tryz.func95, Tryz.ntmps95
  go_wp2_with fail
  go_loop [3, 7] (fun c i => ∃ j C : Nat, j ≤ s.size ∧ C < 4294967296 ∧ i = .int .i64 (j : Int) ∧ c = .int .u32 (C : Int) ∧ Hid (C = Sums.crcF 4294967295 ((Sums.bl s).take j))) (fun _ i => s.size - (intOf i).toNat)
  case atStart => exact ⟨0, 4294967295, by omega, by omega, rfl, rfl, by show _ = _; rw [List.take_zero, Sums.crcF_nil]⟩
  case round =>
    obtain ⟨j, C, hj, hC, rfl, rfl, HC⟩ := hrel
    by_cases hlt : j < s.size
    · have hj3 : (j : Int) < (s.size : Int) := by omega
      have hby := UInt8.toNat_lt s[j]
      have hx : C ^^^ s[j].toNat < 4294967296 := Nat.xor_lt_two_pow (n := 32) hC (by omega)
      have h4 := Sums.stepN_lt 4 _ hx
      have c1 := ht ((C ^^^ s[j].toNat) % 16) (by omega)
      have c2 := ht (Sums.stepN 4 (C ^^^ s[j].toNat) % 16) (by omega)
      have X1 : bits .xor .u32 (C : Int) (s[j].toNat : Int) = ((C ^^^ s[j].toNat : Nat) : Int) := u32_xor_nat _ _ hC (by omega)
      have A1 := and_15 _ hx
      have A2 := and_15 _ h4
      have F1 := four_bits _ hx
      have F2 := four_bits _ h4
      have HN : Hid (Sums.stepN 4 (Sums.stepN 4 (C ^^^ s[j].toNat)) = Sums.crcF 4294967295 ((Sums.bl s).take (j + 1))) := by
        show _ = _
        rw [crcF_on s j hlt, ← HC.out, ← Sums.stepN_add]
      have hN := Sums.stepN_lt 4 _ h4
      clear HC
      generalize Sums.stepN 4 (Sums.stepN 4 (C ^^^ s[j].toNat)) = D at *
      generalize Sums.stepN 4 (C ^^^ s[j].toNat) = E at *
      generalize (C ^^^ s[j].toNat) = G at *
      generalize Sums.tab4.getD (E % 16) 0 = t2 at *
      generalize Sums.tab4.getD (G % 16) 0 = t1 at *
      clear ht
      go_wp2_with fail
      go_round
      case rel => exact ⟨j + 1, D, by omega, hN, by go_num, rfl, HN⟩
      case measure => simp [intOf]; omega
    · obtain rfl : j = s.size := by omega
      have hlt' : ¬ (s.size : Int) < (s.size : Int) := by omega
      have HE : Hid (bits .xor .u32 IntKind.u32.max (C : Int) = ((Sums.crcL (Sums.bl s) : Nat) : Int)) := by
        show _ = _
        rw [not32 C hC, HC.out, ← Sums.bl_length, List.take_length]
        rfl
      go_wp2_with fail
      go_ret
      exact ⟨ret_u32 HE.out, rfl⟩
end Go.Proofs.YtlplbnlfajdcbaaGreatDoor
