/-
  What XX32 and XX64 are of a list of bytes: no Go in sight. No conditions but those that each fact names.
-/
namespace Sums
def rot32 (x n : Nat) : Nat := x * 2 ^ n % 4294967296 + x / 2 ^ (32 - n)
def rot64 (x n : Nat) : Nat := x * 2 ^ n % 18446744073709551616 + x / 2 ^ (64 - n)
def w4 (l : List Nat) : Nat := l.getD 0 0 + 256 * l.getD 1 0 + 65536 * l.getD 2 0 + 16777216 * l.getD 3 0
def w8 (l : List Nat) : Nat := w4 l + 4294967296 * w4 (l.drop 4)
def mix4 (h x : Nat) : Nat := rot32 ((h + x * 3266489917) % 4294967296) 17 * 668265263 % 4294967296
def mix1 (h x : Nat) : Nat := rot32 ((h + x * 374761393) % 4294967296) 11 * 2654435761 % 4294967296
def stirA (h : Nat) : Nat := (h ^^^ h / 32768) * 2246822519 % 4294967296
def stirB (h : Nat) : Nat := (h ^^^ h / 8192) * 3266489917 % 4294967296
def stir32 (h : Nat) : Nat := stirB (stirA h) ^^^ stirB (stirA h) / 65536
def bytes32 (h : Nat) (l : List Nat) : Nat := l.foldl mix1 h
def tail32F : Nat → Nat → List Nat → Nat
  | 0, h, l => bytes32 h l
  | n + 1, h, l => if 4 ≤ l.length then tail32F n (mix4 h (w4 l)) (l.drop 4) else bytes32 h l
def tail32 (h : Nat) (l : List Nat) : Nat := tail32F l.length h l
def last32 (h n : Nat) (l : List Nat) : Nat := stir32 (tail32 ((h + n) % 4294967296) l)
def lane (x n : Nat) : Nat := rot32 ((x + n * 2246822519) % 4294967296) 13 * 2654435761 % 4294967296
structure Four where
  a : Nat
  b : Nat
  c : Nat
  d : Nat
def take32 (f : Four) (l : List Nat) : Four := ⟨lane f.a (w4 l), lane f.b (w4 (l.drop 4)), lane f.c (w4 (l.drop 8)), lane f.d (w4 (l.drop 12))⟩
def rows32F : Nat → Four → List Nat → Four × List Nat
  | 0, f, l => (f, l)
  | n + 1, f, l => if 16 ≤ l.length then rows32F n (take32 f l) (l.drop 16) else (f, l)
def rows32 (f : Four) (l : List Nat) : Four × List Nat := rows32F l.length f l
def begin32 (seed : Nat) : Four := ⟨(seed + 606290984) % 4294967296, (seed + 2246822519) % 4294967296, seed, (seed + 1640531535) % 4294967296⟩
def merged32 (f : Four) : Nat := (rot32 f.a 1 + rot32 f.b 7 + rot32 f.c 12 + rot32 f.d 18) % 4294967296
def xx32 (seed : Nat) (l : List Nat) : Nat :=
  if l.length < 16 then last32 ((seed + 374761393) % 4294967296) l.length l
  else last32 (merged32 (rows32 (begin32 seed) l).1) l.length (rows32 (begin32 seed) l).2
def round64 (a x : Nat) : Nat := rot64 ((a + x * 14029467366897019727) % 18446744073709551616) 31 * 11400714785074694791 % 18446744073709551616
def mixW8 (h x : Nat) : Nat := (rot64 (h ^^^ round64 0 x) 27 * 11400714785074694791 + 9650029242287828579) % 18446744073709551616
def mixW4 (h x : Nat) : Nat := (rot64 (h ^^^ x * 11400714785074694791 % 18446744073709551616) 23 * 14029467366897019727 + 1609587929392839161) % 18446744073709551616
def mixW1 (h x : Nat) : Nat := rot64 (h ^^^ x * 2870177450012600261 % 18446744073709551616) 11 * 11400714785074694791 % 18446744073709551616
def stirWA (h : Nat) : Nat := (h ^^^ h / 8589934592) * 14029467366897019727 % 18446744073709551616
def stirWB (h : Nat) : Nat := (h ^^^ h / 536870912) * 1609587929392839161 % 18446744073709551616
def stir64 (h : Nat) : Nat := stirWB (stirWA h) ^^^ stirWB (stirWA h) / 4294967296
def bytes64 (h : Nat) (l : List Nat) : Nat := l.foldl mixW1 h
def four64 (h : Nat) (l : List Nat) : Nat := if 4 ≤ l.length then bytes64 (mixW4 h (w4 l)) (l.drop 4) else bytes64 h l
def tail64F : Nat → Nat → List Nat → Nat
  | 0, h, l => four64 h l
  | n + 1, h, l => if 8 ≤ l.length then tail64F n (mixW8 h (w8 l)) (l.drop 8) else four64 h l
def tail64 (h : Nat) (l : List Nat) : Nat := tail64F l.length h l
def last64 (h n : Nat) (l : List Nat) : Nat := stir64 (tail64 ((h + n) % 18446744073709551616) l)
def take64 (f : Four) (l : List Nat) : Four := ⟨round64 f.a (w8 l), round64 f.b (w8 (l.drop 8)), round64 f.c (w8 (l.drop 16)), round64 f.d (w8 (l.drop 24))⟩
def rows64F : Nat → Four → List Nat → Four × List Nat
  | 0, f, l => (f, l)
  | n + 1, f, l => if 32 ≤ l.length then rows64F n (take64 f l) (l.drop 32) else (f, l)
def rows64 (f : Four) (l : List Nat) : Four × List Nat := rows64F l.length f l
def begin64 (seed : Nat) : Four := ⟨(seed + 6983438078262162902) % 18446744073709551616, (seed + 14029467366897019727) % 18446744073709551616, seed, (seed + 7046029288634856825) % 18446744073709551616⟩
def mergeOne (h x : Nat) : Nat := ((h ^^^ round64 0 x) * 11400714785074694791 + 9650029242287828579) % 18446744073709551616
def merged64 (f : Four) : Nat := mergeOne (mergeOne (mergeOne (mergeOne ((rot64 f.a 1 + rot64 f.b 7 + rot64 f.c 12 + rot64 f.d 18) % 18446744073709551616) f.a) f.b) f.c) f.d
def xx64 (seed : Nat) (l : List Nat) : Nat :=
  if l.length < 32 then last64 ((seed + 2870177450012600261) % 18446744073709551616) l.length l
  else last64 (merged64 (rows64 (begin64 seed) l).1) l.length (rows64 (begin64 seed) l).2
def Byt' (l : List Nat) : Prop := ∀ b ∈ l, b < 256
theorem getD_lt (l : List Nat) (h : ∀ b ∈ l, b < 256) (i : Nat) : l.getD i 0 < 256 := by
  rw [List.getD_eq_getElem?_getD]
  by_cases hi : i < l.length
  · rw [List.getElem?_eq_getElem hi]; exact h _ (List.getElem_mem hi)
  · rw [List.getElem?_eq_none (by omega)]; simp
theorem w4_lt (l : List Nat) (h : ∀ b ∈ l, b < 256) : w4 l < 4294967296 := by
  have h0 := getD_lt l h 0
  have h1 := getD_lt l h 1
  have h2 := getD_lt l h 2
  have h3 := getD_lt l h 3
  unfold w4; omega
theorem w8_lt (l : List Nat) (h : ∀ b ∈ l, b < 256) : w8 l < 18446744073709551616 := by
  have h0 := w4_lt l h
  have h1 := w4_lt (l.drop 4) (fun b hb => h b (List.mem_of_mem_drop hb))
  unfold w8; omega
theorem xor32_lt {a b : Nat} (ha : a < 4294967296) (hb : b < 4294967296) : a ^^^ b < 4294967296 := Nat.xor_lt_two_pow (n := 32) ha hb
theorem xor64_lt {a b : Nat} (ha : a < 18446744073709551616) (hb : b < 18446744073709551616) : a ^^^ b < 18446744073709551616 := Nat.xor_lt_two_pow (n := 64) ha hb
theorem mix4_lt (h x : Nat) : mix4 h x < 4294967296 := Nat.mod_lt _ (by decide)
theorem mix1_lt (h x : Nat) : mix1 h x < 4294967296 := Nat.mod_lt _ (by decide)
theorem lane_lt (h x : Nat) : lane h x < 4294967296 := Nat.mod_lt _ (by decide)
theorem round64_lt (h x : Nat) : round64 h x < 18446744073709551616 := Nat.mod_lt _ (by decide)
theorem mixW8_lt (h x : Nat) : mixW8 h x < 18446744073709551616 := Nat.mod_lt _ (by decide)
theorem mixW4_lt (h x : Nat) : mixW4 h x < 18446744073709551616 := Nat.mod_lt _ (by decide)
theorem mixW1_lt (h x : Nat) : mixW1 h x < 18446744073709551616 := Nat.mod_lt _ (by decide)
theorem stirA_lt (h : Nat) : stirA h < 4294967296 := Nat.mod_lt _ (by decide)
theorem stirB_lt (h : Nat) : stirB h < 4294967296 := Nat.mod_lt _ (by decide)
theorem stirWA_lt (h : Nat) : stirWA h < 18446744073709551616 := Nat.mod_lt _ (by decide)
theorem stirWB_lt (h : Nat) : stirWB h < 18446744073709551616 := Nat.mod_lt _ (by decide)
theorem stir32_lt (h : Nat) : stir32 h < 4294967296 := xor32_lt (stirB_lt _) (by have := stirB_lt (stirA h); omega)
theorem stir64_lt (h : Nat) : stir64 h < 18446744073709551616 := xor64_lt (stirWB_lt _) (by have := stirWB_lt (stirWA h); omega)
theorem tail32F_any (n : Nat) : ∀ (m : Nat) (h : Nat) (l : List Nat), l.length ≤ n → l.length ≤ m → tail32F n h l = tail32F m h l := by
  induction n with
  | zero =>
      intro m h l h1 h2
      cases m with
      | zero => rfl
      | succ m => rw [tail32F, tail32F, if_neg (by omega)]
  | succ n ih =>
      intro m h l h1 h2
      cases m with
      | zero => rw [tail32F, tail32F, if_neg (by omega)]
      | succ m =>
          rw [tail32F, tail32F]
          by_cases hl : 4 ≤ l.length
          · rw [if_pos hl, if_pos hl]
            exact ih m _ _ (by rw [List.length_drop]; omega) (by rw [List.length_drop]; omega)
          · rw [if_neg hl, if_neg hl]
theorem tail32_more (h : Nat) (l : List Nat) (hl : 4 ≤ l.length) : tail32 h l = tail32 (mix4 h (w4 l)) (l.drop 4) := by
  obtain ⟨n, hn⟩ : ∃ n, l.length = n + 1 := ⟨l.length - 1, by omega⟩
  rw [tail32, tail32, hn, tail32F, if_pos hl]
  exact tail32F_any n _ _ _ (by rw [List.length_drop]; omega) (Nat.le_refl _)
theorem tail32_end (h : Nat) (l : List Nat) (hl : ¬ 4 ≤ l.length) : tail32 h l = bytes32 h l := by
  rw [tail32]
  cases h : l.length with
  | zero => rw [tail32F]
  | succ n => rw [tail32F, if_neg hl]
theorem tail64F_any (n : Nat) : ∀ (m : Nat) (h : Nat) (l : List Nat), l.length ≤ n → l.length ≤ m → tail64F n h l = tail64F m h l := by
  induction n with
  | zero =>
      intro m h l h1 h2
      cases m with
      | zero => rfl
      | succ m => rw [tail64F, tail64F, if_neg (by omega)]
  | succ n ih =>
      intro m h l h1 h2
      cases m with
      | zero => rw [tail64F, tail64F, if_neg (by omega)]
      | succ m =>
          rw [tail64F, tail64F]
          by_cases hl : 8 ≤ l.length
          · rw [if_pos hl, if_pos hl]
            exact ih m _ _ (by rw [List.length_drop]; omega) (by rw [List.length_drop]; omega)
          · rw [if_neg hl, if_neg hl]
theorem tail64_more (h : Nat) (l : List Nat) (hl : 8 ≤ l.length) : tail64 h l = tail64 (mixW8 h (w8 l)) (l.drop 8) := by
  obtain ⟨n, hn⟩ : ∃ n, l.length = n + 1 := ⟨l.length - 1, by omega⟩
  rw [tail64, tail64, hn, tail64F, if_pos hl]
  exact tail64F_any n _ _ _ (by rw [List.length_drop]; omega) (Nat.le_refl _)
theorem tail64_end (h : Nat) (l : List Nat) (hl : ¬ 8 ≤ l.length) : tail64 h l = four64 h l := by
  rw [tail64]
  cases h : l.length with
  | zero => rw [tail64F]
  | succ n => rw [tail64F, if_neg hl]
theorem rows32F_any (n : Nat) : ∀ (m : Nat) (f : Four) (l : List Nat), l.length ≤ n → l.length ≤ m → rows32F n f l = rows32F m f l := by
  induction n with
  | zero =>
      intro m f l h1 h2
      cases m with
      | zero => rfl
      | succ m => rw [rows32F, rows32F, if_neg (by omega)]
  | succ n ih =>
      intro m f l h1 h2
      cases m with
      | zero => rw [rows32F, rows32F, if_neg (by omega)]
      | succ m =>
          rw [rows32F, rows32F]
          by_cases hl : 16 ≤ l.length
          · rw [if_pos hl, if_pos hl]
            exact ih m _ _ (by rw [List.length_drop]; omega) (by rw [List.length_drop]; omega)
          · rw [if_neg hl, if_neg hl]
theorem rows32_more (f : Four) (l : List Nat) (hl : 16 ≤ l.length) : rows32 f l = rows32 (take32 f l) (l.drop 16) := by
  obtain ⟨n, hn⟩ : ∃ n, l.length = n + 1 := ⟨l.length - 1, by omega⟩
  rw [rows32, rows32, hn, rows32F, if_pos hl]
  exact rows32F_any n _ _ _ (by rw [List.length_drop]; omega) (Nat.le_refl _)
theorem rows32_end (f : Four) (l : List Nat) (hl : ¬ 16 ≤ l.length) : rows32 f l = (f, l) := by
  rw [rows32]
  cases h : l.length with
  | zero => rw [rows32F]
  | succ n => rw [rows32F, if_neg hl]
theorem rows64F_any (n : Nat) : ∀ (m : Nat) (f : Four) (l : List Nat), l.length ≤ n → l.length ≤ m → rows64F n f l = rows64F m f l := by
  induction n with
  | zero =>
      intro m f l h1 h2
      cases m with
      | zero => rfl
      | succ m => rw [rows64F, rows64F, if_neg (by omega)]
  | succ n ih =>
      intro m f l h1 h2
      cases m with
      | zero => rw [rows64F, rows64F, if_neg (by omega)]
      | succ m =>
          rw [rows64F, rows64F]
          by_cases hl : 32 ≤ l.length
          · rw [if_pos hl, if_pos hl]
            exact ih m _ _ (by rw [List.length_drop]; omega) (by rw [List.length_drop]; omega)
          · rw [if_neg hl, if_neg hl]
theorem rows64_more (f : Four) (l : List Nat) (hl : 32 ≤ l.length) : rows64 f l = rows64 (take64 f l) (l.drop 32) := by
  obtain ⟨n, hn⟩ : ∃ n, l.length = n + 1 := ⟨l.length - 1, by omega⟩
  rw [rows64, rows64, hn, rows64F, if_pos hl]
  exact rows64F_any n _ _ _ (by rw [List.length_drop]; omega) (Nat.le_refl _)
theorem rows64_end (f : Four) (l : List Nat) (hl : ¬ 32 ≤ l.length) : rows64 f l = (f, l) := by
  rw [rows64]
  cases h : l.length with
  | zero => rw [rows64F]
  | succ n => rw [rows64F, if_neg hl]
theorem foldl_on (f : Nat → Nat → Nat) (h : Nat) (l : List Nat) (i : Nat) (hi : i < l.length) : (l.take (i + 1)).foldl f h = f ((l.take i).foldl f h) (l.getD i 0) := by
  rw [List.take_add_one, List.foldl_append, List.getElem?_eq_getElem hi, List.getD_eq_getElem?_getD, List.getElem?_eq_getElem hi]
  rfl
theorem foldl_lt (f : Nat → Nat → Nat) (m : Nat) (hf : ∀ a b, f a b < m) (h : Nat) (l : List Nat) (hh : h < m) : l.foldl f h < m := by
  induction l generalizing h with
  | nil => exact hh
  | cons b l ih => rw [List.foldl_cons]; exact ih _ (hf _ _)
theorem bytes32_on (h : Nat) (l : List Nat) (i : Nat) (hi : i < l.length) : bytes32 h (l.take (i + 1)) = mix1 (bytes32 h (l.take i)) (l.getD i 0) := foldl_on mix1 h l i hi
theorem bytes64_on (h : Nat) (l : List Nat) (i : Nat) (hi : i < l.length) : bytes64 h (l.take (i + 1)) = mixW1 (bytes64 h (l.take i)) (l.getD i 0) := foldl_on mixW1 h l i hi
theorem bytes32_lt (h : Nat) (l : List Nat) (hh : h < 4294967296) : bytes32 h l < 4294967296 := foldl_lt mix1 _ mix1_lt h l hh
theorem bytes64_lt (h : Nat) (l : List Nat) (hh : h < 18446744073709551616) : bytes64 h l < 18446744073709551616 := foldl_lt mixW1 _ mixW1_lt h l hh
/-! the chapter's examples -/
theorem ex32 : xx32 0 [97, 98, 99] = 852579327 := by
  unfold xx32
  rw [if_pos (by decide)]
  unfold last32
  rw [tail32_end _ _ (by decide)]
  decide +kernel
theorem ex64 : xx64 0 [97, 98, 99] = 4952883123889572249 := by
  unfold xx64
  rw [if_pos (by decide)]
  unfold last64
  rw [tail64_end _ _ (by decide)]
  decide +kernel
end Sums
