/-
  Plain facts on bytes as 64 characters: no Go in sight. No conditions but those that each fact names.
-/
namespace Code
def tab : List Nat := [65, 66, 67, 68, 69, 70, 71, 72, 73, 74, 75, 76, 77, 78, 79, 80, 81, 82, 83, 84, 85, 86, 87, 88, 89, 90, 97, 98, 99, 100, 101, 102, 103, 104, 105, 106, 107, 108, 109, 110, 111, 112, 113, 114, 115, 116, 117, 118, 119, 120, 121, 122, 48, 49, 50, 51, 52, 53, 54, 55, 56, 57, 45, 95]
def ch (n : Nat) : Nat := tab.getD n 0
def num (c : Nat) : Nat := tab.findIdx (fun x => x == c)
theorem ch_lt : ∀ n < 64, ch n < 256 := by decide +kernel
theorem num_ch : ∀ n < 64, num (ch n) = n := by decide +kernel
theorem ch_num : ∀ c < 256, num c < 64 → ch (num c) = c := by decide +kernel
theorem num_le (c : Nat) : num c ≤ 64 := List.findIdx_le_length
theorem ch_is : ∀ n < 64, (65 ≤ ch n ∧ ch n ≤ 90) ∨ (97 ≤ ch n ∧ ch n ≤ 122) ∨ (48 ≤ ch n ∧ ch n ≤ 57) ∨ ch n = 45 ∨ ch n = 95 := by decide +kernel
/-- the characters of bytes; r of three have been seen, v: what waits of them -/
def arm : Nat → Nat → List Nat → List Nat
  | 0, _, [] => []
  | 1, v, [] => [ch (v * 16)]
  | _ + 2, v, [] => [ch (v * 4)]
  | 0, _, c :: l => ch (c / 4) :: arm 1 (c % 4) l
  | 1, v, c :: l => ch (v * 16 + c / 16) :: arm 2 (c % 16) l
  | _ + 2, v, c :: l => ch (v * 4 + c / 64) :: ch (c % 64) :: arm 0 0 l
def wide : Nat → Nat
  | 0 => 1
  | 1 => 4
  | _ => 16
theorem arm_byt : ∀ (l : List Nat) (r v : Nat), v < wide r → (∀ z ∈ l, z < 256) → ∀ z ∈ arm r v l, ∃ n, n < 64 ∧ z = ch n
  | [], 0, v, hv, hl, z, hz => by simp [arm] at hz
  | [], 1, v, hv, hl, z, hz => by
      have hv' : v < 4 := hv
      exact ⟨v * 16, by omega, by simpa [arm] using hz⟩
  | [], r + 2, v, hv, hl, z, hz => by
      have hv' : v < 16 := hv
      exact ⟨v * 4, by omega, by simpa [arm] using hz⟩
  | c :: l, 0, v, hv, hl, z, hz => by
      have hc := hl c (List.mem_cons_self ..)
      rw [arm] at hz
      rcases List.mem_cons.1 hz with rfl | hz
      · exact ⟨c / 4, by omega, rfl⟩
      · exact arm_byt l 1 (c % 4) (by show c % 4 < 4; omega) (fun z hz => hl z (List.mem_cons_of_mem _ hz)) z hz
  | c :: l, 1, v, hv, hl, z, hz => by
      have hc := hl c (List.mem_cons_self ..)
      have hv' : v < 4 := hv
      rw [arm] at hz
      rcases List.mem_cons.1 hz with rfl | hz
      · exact ⟨v * 16 + c / 16, by omega, rfl⟩
      · exact arm_byt l 2 (c % 16) (by show c % 16 < 16; omega) (fun z hz => hl z (List.mem_cons_of_mem _ hz)) z hz
  | c :: l, r + 2, v, hv, hl, z, hz => by
      have hc := hl c (List.mem_cons_self ..)
      have hv' : v < 16 := hv
      rw [arm] at hz
      rcases List.mem_cons.1 hz with rfl | hz
      · exact ⟨v * 4 + c / 64, by omega, rfl⟩
      · rcases List.mem_cons.1 hz with rfl | hz
        · exact ⟨c % 64, by omega, rfl⟩
        · exact arm_byt l 0 0 (by decide) (fun z hz => hl z (List.mem_cons_of_mem _ hz)) z hz
theorem arm_len : ∀ (l : List Nat) (r v : Nat), (arm r v l).length ≤ 2 * l.length + 1
  | [], 0, v => by simp [arm]
  | [], 1, v => by simp [arm]
  | [], r + 2, v => by simp [arm]
  | c :: l, 0, v => by
      have := arm_len l 1 (c % 4)
      rw [arm, List.length_cons, List.length_cons]; omega
  | c :: l, 1, v => by
      have := arm_len l 2 (c % 16)
      rw [arm, List.length_cons, List.length_cons]; omega
  | c :: l, r + 2, v => by
      have := arm_len l 0 0
      rw [arm, List.length_cons, List.length_cons, List.length_cons]; omega
/-- the bytes of characters' numbers: r of four have been seen, v: what waits of them; and what waits behind the last -/
def pln : Nat → Nat → List Nat → List Nat × Nat
  | _, v, [] => ([], v)
  | 0, _, x :: l => pln 1 x l
  | 1, v, x :: l => ((v * 64 + x) / 16 :: (pln 2 ((v * 64 + x) % 16) l).1, (pln 2 ((v * 64 + x) % 16) l).2)
  | 2, v, x :: l => ((v * 64 + x) / 4 :: (pln 3 ((v * 64 + x) % 4) l).1, (pln 3 ((v * 64 + x) % 4) l).2)
  | _ + 3, v, x :: l => ((v * 64 + x) :: (pln 0 0 l).1, (pln 0 0 l).2)
def widp : Nat → Nat
  | 0 => 1
  | 1 => 64
  | 2 => 16
  | _ => 4
/-- Plain: the text, the error, its place -/
def plain (l : List Nat) : List Nat × Nat × Nat :=
  if (l.findIdx fun c => decide (64 ≤ num c)) < l.length then ([], 33, l.findIdx fun c => decide (64 ≤ num c))
  else if l.length % 4 = 1 then ([], 30, l.length)
  else if 0 < (pln 0 0 (l.map num)).2 then ([], 31, l.length - 1)
  else ((pln 0 0 (l.map num)).1, 0, 0)
end Code
