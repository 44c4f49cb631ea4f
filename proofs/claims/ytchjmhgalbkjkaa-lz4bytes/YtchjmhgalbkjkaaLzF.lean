/-
  What most is, is all the same to a walk over a text that can't say so much. No conditions but those that each fact names.
-/
import Derived.Test.YtchjmhgalbkjkaaLzD
set_option linter.unusedVariables false
namespace Lz
theorem lens_room : ∀ (l : List Nat) (n i r1 r2 : Nat), (∀ z ∈ l, z < 256) → n + 255 * l.length ≤ r1 → n + 255 * l.length ≤ r2 → lens l n i r1 = lens l n i r2
  | [], n, i, r1, r2, _, _, _ => rfl
  | c :: l, n, i, r1, r2, hb, h1, h2 => by
    have hc := hb c (by simp)
    simp only [List.length_cons] at h1 h2
    unfold lens
    rw [if_neg (show ¬ r1 < n + c by omega), if_neg (show ¬ r2 < n + c by omega), lens_room l (n + c) (i + 1) r1 r2 (fun z hz => hb z (by simp [hz])) (by omega) (by omega)]
theorem counted_room (bs : List Nat) (hb : ∀ z ∈ bs, z < 256) (i n : Nat) (more : Bool) (r1 r2 : Nat) (h1 : n + 255 * bs.length ≤ r1) (h2 : n + 255 * bs.length ≤ r2) : counted bs i n more r1 = counted bs i n more r2 := by
  have hl : (bs.drop i).length ≤ bs.length := by simp
  unfold counted
  rw [if_neg (show ¬ r1 < n by omega), if_neg (show ¬ r2 < n by omega), lens_room (bs.drop i) n i r1 r2 (fun z hz => hb z (List.mem_of_mem_drop hz)) (by omega) (by omega)]
theorem next_room (bs : List Nat) (hb : ∀ z ∈ bs, z < 256) (i said ahead m1 m2 : Nat) (h1 : said + 40 + 766 * bs.length ≤ m1) (h2 : said + 40 + 766 * bs.length ≤ m2) : next bs i said ahead m1 = next bs i said ahead m2 := by
  unfold next
  by_cases hi : bs.length ≤ i
  · rw [if_pos hi, if_pos hi]
  · rw [if_neg hi, if_neg hi]
    have hx := getD_byte bs hb i
    rw [counted_room bs hb (i + 1) (bs.getD i 0 / 16) (bs.getD i 0 / 16 == 15) (m1 - said) (m2 - said) (by omega) (by omega)]
    obtain ⟨c, hc⟩ : ∃ c, counted bs (i + 1) (bs.getD i 0 / 16) (bs.getD i 0 / 16 == 15) (m2 - said) = c := ⟨_, rfl⟩
    rw [hc]
    obtain ⟨c1, c2, c3⟩ := c
    by_cases h0 : c1 = 0
    · subst h0
      have hok := counted_ok bs hb (i + 1) _ _ _ c2 c3 (by omega) hc
      unfold nextB
      rw [counted_room bs hb (c3 + c2 + 2) (bs.getD i 0 % 16 + 4) (bs.getD i 0 % 16 == 15) (m1 - said - c2) (m2 - said - c2) (by omega) (by omega)]
    · unfold nextB
      by_cases h41 : c1 = 41
      · simp [h41]
      · simp [h41, h0]
theorem walk_room (bs : List Nat) (hb : ∀ z ∈ bs, z < 256) (ahead m1 m2 : Nat) (h1 : 40 + 1022 * bs.length ≤ m1) (h2 : 40 + 1022 * bs.length ≤ m2) : ∀ (f i said : Nat), said ≤ 256 * i → i ≤ bs.length → walk bs ahead m1 f i said = walk bs ahead m2 f i said
  | 0, i, said, _, _ => rfl
  | f + 1, i, said, hs, hi => by
    have e := next_room bs hb i said ahead m1 m2 (by omega) (by omega)
    have hok := next_ok bs hb i said ahead m2 (by omega) hs hi
    unfold walk
    rw [e]
    by_cases hc : (next bs i said ahead m2).code = 0
    · by_cases hl : (next bs i said ahead m2).len = 0
      · simp [hc, hl]
      · obtain ⟨_, h6⟩ := hok hc
        obtain ⟨_, n2, n3⟩ := h6 (by omega)
        rw [walk_room bs hb ahead m1 m2 h1 h2 f _ _ n3 n2]
    · simp [hc]
end Lz
