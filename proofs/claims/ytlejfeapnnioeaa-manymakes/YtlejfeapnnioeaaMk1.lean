/-
  What New answers, the program's and the document's, for every list of texts. Conditions: as each says.
-/
import Derived.Test.YtlejfeapnnioeaaMnZ
namespace Mn
/-- the number that New tells of a list that is no set -/
def badN (fold : Bool) (L : List ByteArray) (k : Nat) : Prop := ((L.length = 0 ∨ 64 < L.length) ∧ k = 0) ∨ (¬ (L.length = 0 ∨ 64 < L.length) ∧ k < L.length ∧ bad fold L k = true ∧ ∀ j, j < k → bad fold L j = false)
theorem badN_one {fold : Bool} {L : List ByteArray} {k k' : Nat} (h : badN fold L k) (h' : badN fold L k') : k = k' := by
  rcases h with ⟨h1, rfl⟩ | ⟨h1, h2, h3, h4⟩
  · rcases h' with ⟨_, rfl⟩ | ⟨h5, _⟩
    · rfl
    · exact absurd h1 h5
  · rcases h' with ⟨h5, _⟩ | ⟨_, h6, h7, h8⟩
    · exact absurd h5 h1
    · rcases Nat.lt_trichotomy k k' with h9 | h9 | h9
      · rw [h8 k h9] at h3
        cases h3
      · exact h9
      · rw [h4 k' h9] at h7
        cases h7
theorem badN_not {fold : Bool} {L : List ByteArray} {k : Nat} (h : badN fold L k) (hg : Good fold L) : False := by
  have h1 := hg.some_
  have h2 := hg.few
  rcases h with ⟨h3, _⟩ | ⟨_, h4, h5, _⟩
  · omega
  · rw [hg.none_ k h4] at h5
    cases h5
theorem bad_first {fold : Bool} {L : List ByteArray} : ∀ n, n ≤ L.length → (∀ j, j < n → bad fold L j = false) ∨ ∃ k, k < n ∧ bad fold L k = true ∧ ∀ j, j < k → bad fold L j = false
  | 0, _ => .inl (fun j hj => by omega)
  | n + 1, hn => by
    rcases bad_first (fold := fold) (L := L) n (by omega) with h | ⟨k, h1, h2, h3⟩
    · by_cases hb : bad fold L n = true
      · exact .inr ⟨n, by omega, hb, h⟩
      · refine .inl (fun j hj => ?_)
        by_cases e : j = n
        · subst e
          simpa using hb
        · exact h j (by omega)
    · exact .inr ⟨k, by omega, h2, h3⟩
theorem good_or (fold : Bool) (L : List ByteArray) : Good fold L ∨ ∃ k, badN fold L k := by
  by_cases h : L.length = 0 ∨ 64 < L.length
  · exact .inr ⟨0, .inl ⟨h, rfl⟩⟩
  · rcases bad_first (fold := fold) L.length (Nat.le_refl _) with h1 | ⟨k, h1, h2, h3⟩
    · exact .inl ⟨by omega, by omega, h1⟩
    · exact .inr ⟨k, .inr ⟨h, h1, h2, h3⟩⟩
end Mn
namespace Go.Proofs.Ytlejfeapnnioeaa
open Go.RowKit Go.Shelf
set_option linter.unusedVariables false
theorem new_good (p : Option Addr) (cap : Nat) (L : List ByteArray) (fold : Bool) (w : World) (h : StrAt w p L) (hg : Mn.Good fold L) (hcap : L.length ≤ cap) (hcm : cap ≤ 9223372036854775807) (hsz : ∀ x ∈ L, x.size ≤ 140737488351232) :
    Calls Try.prog 9 #[.slice p L.length cap, .bool fold] w fun e w' => ∃ sb, e = .returned (.tuple #[.pointer (some ⟨sb, 0, none⟩), .int .i64 0, .int .i64 0]) ∧ ManyM w.heap.size sb (Mn.wds fold L) fold w' ∧ Below w.heap.size w w' := by
  refine (new_any p cap L fold w h hg.some_ hg.few hcap hcm (fun x hx => by have := hsz x hx; omega)).mono ?_
  rintro e w' ⟨hB, h⟩
  rcases h with ⟨k, hk, h1, _⟩ | ⟨_, sb, rfl, hm⟩
  · rw [hg.none_ k hk] at h1
    cases h1
  · exact ⟨sb, rfl, hm, hB⟩
theorem new_bad (p : Option Addr) (cap : Nat) (L : List ByteArray) (fold : Bool) (w : World) (k : Nat) (h : StrAt w p L) (hk : Mn.badN fold L k) (hl : L.length ≤ 8796093022208) (hcap : L.length ≤ cap) (hcm : cap ≤ 9223372036854775807) (hsz : ∀ x ∈ L, x.size ≤ 140737488351232) :
    Calls Try.prog 9 #[.slice p L.length cap, .bool fold] w fun e w' => e = .returned (.tuple #[.pointer none, .int .i64 70, .int .i64 (k : Int)]) ∧ Below w.heap.size w w' := by
  by_cases hf : L.length = 0 ∨ 64 < L.length
  · have hk0 : k = 0 := Mn.badN_one hk (.inl ⟨hf, rfl⟩)
    subst hk0
    refine (new_few p L.length cap fold w hf (by omega)).mono ?_
    rintro e w' ⟨rfl, rfl⟩
    exact ⟨rfl, Below.refl _ _⟩
  · refine (new_any p cap L fold w h (by omega) (by omega) hcap hcm (fun x hx => by have := hsz x hx; omega)).mono ?_
    rintro e w' ⟨hB, h⟩
    rcases h with ⟨k', h1, h2, h3, rfl⟩ | ⟨hg, _⟩
    · rw [Mn.badN_one hk (.inr ⟨hf, h1, h2, h3⟩)]
      exact ⟨rfl, hB⟩
    · exact (Mn.badN_not hk hg).elim
theorem ref_good (p : Option Addr) (cap : Nat) (L : List ByteArray) (fold : Bool) (w : World) (h : StrAt w p L) (hg : Mn.Good fold L) (hsz : ∀ x ∈ L, x.size ≤ 140737488351232) :
    Calls Try.prog 10 #[.slice p L.length cap, .bool fold] w fun e w' => ∃ g q c, e = .returned (.tuple #[.pointer (some ⟨g, 0, none⟩), .int .i64 0, .int .i64 0]) ∧ RefM w.heap.size g L.length fold L q c w w' := by
  refine (refNew_any p cap L fold w h hg.some_ hg.few hsz).mono ?_
  rintro e w' ⟨hB, h⟩
  rcases h with ⟨k, hk, h1, _⟩ | ⟨_, g, q, c, rfl, hm⟩
  · rw [hg.none_ k hk] at h1
    cases h1
  · exact ⟨g, q, c, rfl, hm⟩
theorem ref_bad (p : Option Addr) (cap : Nat) (L : List ByteArray) (fold : Bool) (w : World) (k : Nat) (h : StrAt w p L) (hk : Mn.badN fold L k) (hl : L.length ≤ 8796093022208) (hsz : ∀ x ∈ L, x.size ≤ 140737488351232) :
    Calls Try.prog 10 #[.slice p L.length cap, .bool fold] w fun e w' => e = .returned (.tuple #[.pointer none, .int .i64 70, .int .i64 (k : Int)]) ∧ Below w.heap.size w w' := by
  by_cases hf : L.length = 0 ∨ 64 < L.length
  · have hk0 : k = 0 := Mn.badN_one hk (.inl ⟨hf, rfl⟩)
    subst hk0
    refine (refNew_few p L.length cap fold w hf (by omega)).mono ?_
    rintro e w' ⟨rfl, rfl⟩
    exact ⟨rfl, Below.refl _ _⟩
  · refine (refNew_any p cap L fold w h (by omega) (by omega) hsz).mono ?_
    rintro e w' ⟨hB, h⟩
    rcases h with ⟨k', h1, h2, h3, rfl⟩ | ⟨hg, _⟩
    · rw [Mn.badN_one hk (.inr ⟨hf, h1, h2, h3⟩)]
      exact ⟨rfl, hB⟩
    · exact (Mn.badN_not hk hg).elim
/-- States of the document's set, as the program's -/
theorem refStates_good (b g n : Nat) (fold : Bool) (L : List ByteArray) (q : Option Addr) (c : Nat) (w0 w : World) (h : RefM b g n fold L q c w0 w) (hg : Mn.Good fold L) :
    Calls Try.prog 13 #[.pointer (some ⟨g, 0, none⟩)] w fun e w' => e = .returned (.int .i64 ((Mn.nsOf (Mn.wds fold L)).length : Int)) ∧ ∃ j, w' = w.drewN j := by
  have hl : n = (L.map (Mn.fd fold)).length := by rw [List.length_map]; exact h.len
  have hst := h.st
  have hat := str_at h.row hl
  rw [hl] at hst
  rw [← Mn.states_same]
  refine refStates_any g q c fold (L.map (Mn.fd fold)) w hst hat (by rw [List.length_map]; exact hg.few) ?_
  intro x hx
  obtain ⟨y, hy, rfl⟩ := List.mem_map.1 hx
  rw [Mn.fd_size]
  obtain ⟨i, hi, rfl⟩ := List.mem_iff_getElem.1 hy
  have := (hg.fits i hi).2.1
  rw [List.getD_eq_getElem?_getD, List.getElem?_eq_getElem hi] at this
  exact this
end Go.Proofs.Ytlejfeapnnioeaa
