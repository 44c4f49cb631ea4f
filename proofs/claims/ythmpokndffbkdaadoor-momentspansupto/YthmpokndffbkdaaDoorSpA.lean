/-
  strings.TrimLeft and strings.IndexAny at the ten digits, strings.HasPrefix at a nought. Conditions: as each says.
-/
import Derived.Test.YthmpokndffbkdaaDoorMoS
import Derived.Test.YthmpokndffbkdaaDoorShL
namespace Go.Proofs.YthmpokndffbkdaaDoor
open Go.RowKit
set_option linter.unusedVariables false
def dig (x : Nat) : Bool := decide (48 ≤ x ∧ x ≤ 57)
def digits10 : ByteArray := ⟨#[48, 49, 50, 51, 52, 53, 54, 55, 56, 57]⟩
theorem dig_in (b : UInt8) : digits10.data.toList.contains b = dig b.toNat := by
  have h : ∀ n : Fin 256, digits10.data.toList.contains (UInt8.ofNat n.val) = dig n.val := by decide +kernel
  have := h ⟨b.toNat, UInt8.toNat_lt b⟩
  simpa using this
theorem digits_ascii : ∀ (j : Nat) b, digits10.data.toList[j]? = some b → b.toNat < 128 := by
  intro j b h
  have hm := List.mem_of_getElem? h
  have : ∀ b ∈ digits10.data.toList, b.toNat < 128 := by decide
  exact this b hm
theorem map_dropWhile (l : List UInt8) : (l.dropWhile (digits10.data.toList.contains ·)).map UInt8.toNat = (l.map UInt8.toNat).dropWhile dig := by
  induction l with
  | nil => rfl
  | cons b l ih =>
    rw [List.map_cons, List.dropWhile_cons, List.dropWhile_cons, dig_in]
    split
    · exact ih
    · rfl
theorem trimL_any (s : ByteArray) (w : World) : Calls Tryd.prog 61 #[.string s, .string ⟨#[48, 49, 50, 51, 52, 53, 54, 55, 56, 57]⟩] w fun e w' => (∃ t, Sums.bl t = (Sums.bl s).dropWhile dig ∧ e = .returned (.string t)) ∧ Below w.heap.size w w' := by
  have := Any.strings_TrimLeft_laid YthmpokndffbkdaaDoor.lays161 YthmpokndffbkdaaDoor.set161 s digits10 w (by decide) digits_ascii
  refine Calls.mono this ?_
  rintro e w' ⟨rfl, hb⟩
  refine ⟨⟨⟨(Lib.trimLeftS s.data.toList digits10.data.toList).toArray⟩, ?_, rfl⟩, hb⟩
  have h := map_dropWhile s.data.toList
  show List.map UInt8.toNat ((Lib.trimLeftS s.data.toList digits10.data.toList).toArray).toList = _
  rw [List.toList_toArray]
  exact h
/-- where the first digit stands; -1: nowhere -/
def ixA : List Nat → Int
  | [] => -1
  | x :: l => if dig x = true then 0 else if ixA l == -1 then -1 else ixA l + 1
theorem ixA_is (l : List UInt8) : Lib.indexAny l digits10.data.toList = ixA (l.map UInt8.toNat) := by
  induction l with
  | nil => rfl
  | cons b l ih => rw [Lib.indexAny, List.map_cons, ixA, dig_in, ih]
theorem idxAny_any (s : ByteArray) (w : World) (hs : s.size ≤ 4000000000) (ha : ∀ z ∈ Sums.bl s, z < 128) : Calls Tryd.prog 62 #[.string s, .string ⟨#[48, 49, 50, 51, 52, 53, 54, 55, 56, 57]⟩] w fun e w' => e = .returned (.int .i64 (ixA (Sums.bl s))) ∧ Below w.heap.size w w' := by
  have := Any.strings_IndexAny_laid YthmpokndffbkdaaDoor.lays153 YthmpokndffbkdaaDoor.set153 s digits10 w (by omega) (by decide) (fun j b hb => ha b.toNat (List.mem_map.2 ⟨b, List.mem_of_getElem? hb, rfl⟩)) digits_ascii
  rw [ixA_is] at this
  exact this
theorem hasNought_any (s : ByteArray) (w : World) : Calls Tryd.prog 63 #[.string s, .string ⟨#[48]⟩] w fun e w' => e = .returned (.bool (hasF 48 (Sums.bl s))) ∧ w' = w := by
  have := Any.strings_HasPrefix YthmpokndffbkdaaDoor.lays99 s ⟨#[48]⟩ w
  refine Calls.mono this ?_
  rintro e w' ⟨rfl, hw⟩
  refine ⟨ret_b ?_, hw⟩
  unfold Sums.bl
  cases s.data.toList with
  | nil => rfl
  | cons b l =>
    rw [List.map_cons]
    simp only [Lib.hasPrefix, hasF, List.isPrefixOf, Bool.and_true]
    rw [Bool.eq_iff_iff]
    simp only [beq_iff_eq]
    constructor
    · intro e; rw [← e]; rfl
    · intro e; exact UInt8.toNat_inj.1 e.symm
end Go.Proofs.YthmpokndffbkdaaDoor
