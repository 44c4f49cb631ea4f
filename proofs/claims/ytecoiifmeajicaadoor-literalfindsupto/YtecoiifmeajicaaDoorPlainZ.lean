/-
  Plain facts of words, numbers, texts and patterns. No program is named here.
-/
namespace Swar

/-- bytes, the lowest first, as one number -/
def jn : List Nat → Nat
  | [] => 0
  | b :: l => b + 256 * jn l

def Byt (l : List Nat) : Prop := ∀ b ∈ l, b < 256

theorem jn_lt : ∀ (l : List Nat), Byt l → jn l < 256 ^ l.length
  | [], _ => by simp [jn]
  | b :: l, h => by
      have h1 := jn_lt l (fun x hx => h x (List.mem_cons_of_mem _ hx))
      have h2 := h b (List.mem_cons_self ..)
      simp only [jn, List.length_cons, Nat.pow_succ]
      omega

/-- the bytes of a number -/
def cut : Nat → Nat → List Nat
  | 0, _ => []
  | n + 1, w => w % 256 :: cut n (w / 256)

theorem cut_length : ∀ (n w : Nat), (cut n w).length = n
  | 0, _ => rfl
  | n + 1, w => by simp [cut, cut_length n]

theorem cut_byt : ∀ (n w : Nat), Byt (cut n w)
  | 0, _ => by intro b h; simp [cut] at h
  | n + 1, w => by
      intro b h
      simp only [cut, List.mem_cons] at h
      rcases h with rfl | h
      · omega
      · exact cut_byt n _ b h

theorem jn_cut : ∀ (n w : Nat), w < 256 ^ n → jn (cut n w) = w
  | 0, w, h => by simp at h; simp [cut, jn, h]
  | n + 1, w, h => by
      simp only [cut, jn]
      rw [jn_cut n (w / 256) (by rw [Nat.pow_succ] at h; omega)]
      omega

theorem bit_lane (op : Nat → Nat → Nat) (f : Bool → Bool → Bool)
    (hop : ∀ a b i, (op a b).testBit i = f (a.testBit i) (b.testBit i)) (hlt : ∀ a b, a < 256 → b < 256 → op a b < 256)
    (x y X Y : Nat) (hx : x < 256) (hy : y < 256) :
    op (x + 256 * X) (y + 256 * Y) = op x y + 256 * op X Y := by
  apply Nat.eq_of_testBit_eq
  intro i
  have e1 : x + 256 * X = 2 ^ 8 * X + x := by omega
  have e2 : y + 256 * Y = 2 ^ 8 * Y + y := by omega
  have e3 : op x y + 256 * op X Y = 2 ^ 8 * op X Y + op x y := by omega
  rw [hop, e1, e2, e3, Nat.testBit_two_pow_mul_add _ (by simpa using hx), Nat.testBit_two_pow_mul_add _ (by simpa using hy),
    Nat.testBit_two_pow_mul_add _ (by simpa using hlt x y hx hy)]
  split <;> simp [hop]

theorem and_lane (x y X Y : Nat) (hx : x < 256) (hy : y < 256) : (x + 256 * X) &&& (y + 256 * Y) = (x &&& y) + 256 * (X &&& Y) :=
  bit_lane (· &&& ·) (· && ·) (fun a b i => Nat.testBit_and a b i) (fun _ _ ha _ => Nat.lt_of_le_of_lt Nat.and_le_left ha) x y X Y hx hy
theorem or_lane (x y X Y : Nat) (hx : x < 256) (hy : y < 256) : (x + 256 * X) ||| (y + 256 * Y) = (x ||| y) + 256 * (X ||| Y) :=
  bit_lane (· ||| ·) (· || ·) (fun a b i => Nat.testBit_or a b i) (fun _ _ ha hb => Nat.or_lt_two_pow (n := 8) ha hb) x y X Y hx hy
theorem xor_lane (x y X Y : Nat) (hx : x < 256) (hy : y < 256) : (x + 256 * X) ^^^ (y + 256 * Y) = (x ^^^ y) + 256 * (X ^^^ Y) :=
  bit_lane (· ^^^ ·) (· ^^ ·) (fun a b i => Nat.testBit_xor a b i) (fun _ _ ha hb => Nat.xor_lt_two_pow (n := 8) ha hb) x y X Y hx hy

theorem jn_and : ∀ (a b : List Nat), a.length = b.length → Byt a → Byt b → jn a &&& jn b = jn (List.zipWith (· &&& ·) a b)
  | [], [], _, _, _ => by simp [jn]
  | x :: a, y :: b, h, ha, hb => by
      simp only [jn, List.zipWith_cons_cons]
      rw [and_lane _ _ _ _ (ha x (List.mem_cons_self ..)) (hb y (List.mem_cons_self ..)), jn_and a b (by simpa using h) (fun z hz => ha z (List.mem_cons_of_mem _ hz)) (fun z hz => hb z (List.mem_cons_of_mem _ hz))]
theorem jn_or : ∀ (a b : List Nat), a.length = b.length → Byt a → Byt b → jn a ||| jn b = jn (List.zipWith (· ||| ·) a b)
  | [], [], _, _, _ => by simp [jn]
  | x :: a, y :: b, h, ha, hb => by
      simp only [jn, List.zipWith_cons_cons]
      rw [or_lane _ _ _ _ (ha x (List.mem_cons_self ..)) (hb y (List.mem_cons_self ..)), jn_or a b (by simpa using h) (fun z hz => ha z (List.mem_cons_of_mem _ hz)) (fun z hz => hb z (List.mem_cons_of_mem _ hz))]
theorem jn_xor : ∀ (a b : List Nat), a.length = b.length → Byt a → Byt b → jn a ^^^ jn b = jn (List.zipWith (· ^^^ ·) a b)
  | [], [], _, _, _ => by simp [jn]
  | x :: a, y :: b, h, ha, hb => by
      simp only [jn, List.zipWith_cons_cons]
      rw [xor_lane _ _ _ _ (ha x (List.mem_cons_self ..)) (hb y (List.mem_cons_self ..)), jn_xor a b (by simpa using h) (fun z hz => ha z (List.mem_cons_of_mem _ hz)) (fun z hz => hb z (List.mem_cons_of_mem _ hz))]

theorem Byt.map {l : List Nat} {f : Nat → Nat} (h : ∀ b ∈ l, f b < 256) : Byt (l.map f) := by
  intro b hb
  obtain ⟨x, hx, rfl⟩ := List.mem_map.1 hb
  exact h x hx
theorem zip_map (op : Nat → Nat → Nat) (f g : Nat → Nat) : ∀ l : List Nat, List.zipWith op (l.map f) (l.map g) = l.map (fun b => op (f b) (g b))
  | [] => rfl
  | b :: l => by simp [zip_map op f g l]
theorem jn_map_and (l : List Nat) (f g : Nat → Nat) (hf : ∀ b ∈ l, f b < 256) (hg : ∀ b ∈ l, g b < 256) :
    jn (l.map f) &&& jn (l.map g) = jn (l.map fun b => f b &&& g b) := by
  rw [jn_and _ _ (by simp) (Byt.map hf) (Byt.map hg), zip_map]
theorem jn_map_or (l : List Nat) (f g : Nat → Nat) (hf : ∀ b ∈ l, f b < 256) (hg : ∀ b ∈ l, g b < 256) :
    jn (l.map f) ||| jn (l.map g) = jn (l.map fun b => f b ||| g b) := by
  rw [jn_or _ _ (by simp) (Byt.map hf) (Byt.map hg), zip_map]
theorem jn_map_xor (l : List Nat) (f g : Nat → Nat) (hf : ∀ b ∈ l, f b < 256) (hg : ∀ b ∈ l, g b < 256) :
    jn (l.map f) ^^^ jn (l.map g) = jn (l.map fun b => f b ^^^ g b) := by
  rw [jn_xor _ _ (by simp) (Byt.map hf) (Byt.map hg), zip_map]
theorem jn_map_add (f g : Nat → Nat) : ∀ l : List Nat, jn (l.map f) + jn (l.map g) = jn (l.map fun b => f b + g b)
  | [] => rfl
  | b :: l => by
      have := jn_map_add f g l
      simp only [List.map_cons, jn]; omega
theorem jn_map_sub (f g : Nat → Nat) : ∀ l : List Nat, (∀ b ∈ l, g b ≤ f b) → jn (l.map f) - jn (l.map g) = jn (l.map fun b => f b - g b) ∧ jn (l.map g) ≤ jn (l.map f)
  | [], _ => by simp [jn]
  | b :: l, h => by
      have h1 := jn_map_sub f g l (fun x hx => h x (List.mem_cons_of_mem _ hx))
      have h2 := h b (List.mem_cons_self ..)
      simp only [List.map_cons, jn]; omega
theorem jn_const (l : List Nat) (h : l.length = 8) (c : Nat) : jn (l.map fun _ => c) = c * 72340172838076673 := by
  match l, h with
  | [a, b, d, e, f, g, i, j], _ => simp only [List.map, jn]; omega
theorem jn_congr {l : List Nat} {f g : Nat → Nat} (h : ∀ b ∈ l, f b = g b) : jn (l.map f) = jn (l.map g) := by
  rw [List.map_congr_left h]
theorem jn_id (l : List Nat) : jn (l.map fun b => b) = jn l := by simp


/-! what the words say, byte by byte -/
def zerosL (w : Nat) : Nat := jn ((cut 8 w).map fun b => if b = 0 then 128 else 0)
def belowL (w c : Nat) : Nat := jn ((cut 8 w).map fun b => if b < c then 128 else 0)
def equalL (a b : Nat) : Nat := jn (List.zipWith (fun x y => if x = y then 128 else 0) (cut 8 a) (cut 8 b))
def small (b : Nat) : Nat := if 65 ≤ b ∧ b ≤ 90 then b + 32 else b
def lowerL (w : Nat) : Nat := jn ((cut 8 w).map small)
def spreadL (c : Nat) : Nat := jn (List.replicate 8 c)
def firstL (m : Nat) : Nat := (cut 8 m).findIdx (fun b => 128 ≤ b)
def onesL (m : Nat) : Nat := (cut 8 m).countP (fun b => 128 ≤ b)

theorem spread_eq (c : Nat) : c * 72340172838076673 = spreadL c := by
  simp only [spreadL, List.replicate, jn]; omega

theorem lane_zeros : ∀ b < 256, (255 - (((b &&& 127) + 127) ||| b)) &&& 128 = if b = 0 then 128 else 0 := by decide +kernel
theorem lane_fill : ∀ b < 256, (b &&& 127) + 127 < 256 := by decide +kernel
theorem lane_or : ∀ b < 256, ((b &&& 127) + 127) ||| b < 256 := by decide +kernel

theorem zeros_eq (w : Nat) (hw : w < 18446744073709551616) : (18446744073709551615 - (((w &&& 9187201950435737471) + 9187201950435737471) ||| w)) &&& 9259542123273814144 = zerosL w := by
  have hl := cut_length 8 w
  have hb := cut_byt 8 w
  have hj : jn (cut 8 w) = w := jn_cut 8 w hw
  unfold zerosL
  generalize cut 8 w = l at hl hb hj
  have e7 : 9187201950435737471 = jn (l.map fun _ => 127) := by rw [jn_const l hl]
  have e8 : 9259542123273814144 = jn (l.map fun _ => 128) := by rw [jn_const l hl]
  have e9 : 18446744073709551615 = jn (l.map fun _ => 255) := by rw [jn_const l hl]
  have ew : w = jn (l.map fun b => b) := by rw [jn_id, hj]
  rw [e7, e8, e9, ew]
  rw [jn_map_and l _ _ (fun b h => hb b h) (fun _ _ => by omega), jn_map_add,
    jn_map_or l _ _ (fun b h => lane_fill b (hb b h)) (fun b h => hb b h),
    (jn_map_sub _ _ l (fun b h => by have := lane_or b (hb b h); omega)).1,
    jn_map_and l _ _ (fun b h => by omega) (fun _ _ => by omega)]
  exact jn_congr (fun b h => lane_zeros b (hb b h))

theorem cut_xor (n : Nat) : ∀ (a b : Nat), cut n (a ^^^ b) = List.zipWith (· ^^^ ·) (cut n a) (cut n b) := by
  induction n with
  | zero => intro a b; rfl
  | succ n ih =>
    intro a b
    have ea : a = a % 256 + 256 * (a / 256) := by omega
    have eb : b = b % 256 + 256 * (b / 256) := by omega
    have h := xor_lane (a % 256) (b % 256) (a / 256) (b / 256) (by omega) (by omega)
    rw [← ea, ← eb] at h
    have hlt : a % 256 ^^^ b % 256 < 256 := Nat.xor_lt_two_pow (n := 8) (by omega) (by omega)
    simp only [cut, List.zipWith_cons_cons]
    rw [← ih]
    congr 1 <;> (try congr 1) <;> omega

theorem xor_zero_iff (x y : Nat) : x ^^^ y = 0 ↔ x = y := by
  constructor
  · intro h
    apply Nat.eq_of_testBit_eq
    intro i
    have := congrArg (fun n => n.testBit i) h
    simpa using this
  · rintro rfl; simp

theorem equal_eq (a b : Nat) : zerosL (a ^^^ b) = equalL a b := by
  unfold zerosL equalL
  rw [cut_xor, List.map_zipWith]
  simp only [xor_zero_iff]

def belowChk (b c : Nat) : Bool := Nat.beq ((((255 - b) &&& c) ||| ((255 - (b ^^^ c)) &&& (255 - ((b ||| 128) - (c &&& 127))))) &&& 128) (bif Nat.blt b c then 128 else 0)
theorem belowChk_all : ((List.range 256).all fun b => (List.range 256).all fun c => belowChk b c) = true := by decide +kernel
theorem lane_below (b c : Nat) (hb : b < 256) (hc : c < 256) : (((255 - b) &&& c) ||| ((255 - (b ^^^ c)) &&& (255 - ((b ||| 128) - (c &&& 127))))) &&& 128 = if b < c then 128 else 0 := by
  have h := belowChk_all
  rw [List.all_eq_true] at h
  have h1 := h b (by simpa using hb)
  rw [List.all_eq_true] at h1
  have h2 := h1 c (by simpa using hc)
  unfold belowChk at h2
  rw [Nat.eq_of_beq_eq_true h2]
  by_cases hbc : b < c
  · have h3 : Nat.blt b c = true := by rw [Nat.blt_eq]; exact hbc
    simp [hbc, h3]
  · have : Nat.blt b c = false := by rw [Bool.eq_false_iff]; intro h4; rw [Nat.blt_eq] at h4; exact hbc h4
    simp [hbc, this]
theorem lane_borrow (b c : Nat) : (c &&& 127) ≤ (b ||| 128) := by
  have h1 : c &&& 127 ≤ 127 := Nat.and_le_right
  have h2 : 128 ≤ b ||| 128 := Nat.right_le_or
  omega

theorem below_eq (w c : Nat) (hw : w < 18446744073709551616) (hc : c < 256) :
    (((18446744073709551615 - w) &&& spreadL c) ||| ((18446744073709551615 - (w ^^^ spreadL c)) &&& (18446744073709551615 - ((w ||| 9259542123273814144) - (spreadL c &&& 9187201950435737471))))) &&& 9259542123273814144 = belowL w c := by
  have hl := cut_length 8 w
  have hb := cut_byt 8 w
  have hj : jn (cut 8 w) = w := jn_cut 8 w hw
  unfold belowL
  generalize cut 8 w = l at hl hb hj
  have e7 : 9187201950435737471 = jn (l.map fun _ => 127) := by rw [jn_const l hl]
  have e8 : 9259542123273814144 = jn (l.map fun _ => 128) := by rw [jn_const l hl]
  have e9 : 18446744073709551615 = jn (l.map fun _ => 255) := by rw [jn_const l hl]
  have es : spreadL c = jn (l.map fun _ => c) := by rw [jn_const l hl, spread_eq]
  have ew : w = jn (l.map fun b => b) := by rw [jn_id, hj]
  rw [e7, e8, e9, es, ew]
  have o1 : ∀ b ∈ l, b ||| 128 < 256 := fun b h => Nat.or_lt_two_pow (n := 8) (hb b h) (by omega)
  have x1 : ∀ b ∈ l, b ^^^ c < 256 := fun b h => Nat.xor_lt_two_pow (n := 8) (hb b h) hc
  have a1 : c &&& 127 < 256 := Nat.lt_of_le_of_lt Nat.and_le_right (by omega)
  rw [jn_map_or l _ _ (fun b h => hb b h) (fun _ _ => by omega),
    jn_map_and l (fun _ => c) _ (fun b h => hc) (fun _ _ => by omega),
    (jn_map_sub (fun b => b ||| 128) (fun _ => c &&& 127) l (fun b _ => lane_borrow b c)).1,
    (jn_map_sub (fun _ => 255) (fun b => (b ||| 128) - (c &&& 127)) l (fun b h => by have := o1 b h; omega)).1,
    jn_map_xor l _ _ (fun b h => hb b h) (fun _ _ => hc),
    (jn_map_sub (fun _ => 255) (fun b => b ^^^ c) l (fun b h => by have := x1 b h; omega)).1,
    (jn_map_sub (fun _ => 255) (fun b => b) l (fun b h => by have := hb b h; omega)).1,
    jn_map_and l _ (fun _ => c) (fun b h => by omega) (fun _ _ => hc),
    jn_map_and l _ _ (fun b h => by omega) (fun _ _ => by omega),
    jn_map_or l _ _ (fun b h => Nat.lt_of_le_of_lt Nat.and_le_left (by omega)) (fun b h => Nat.lt_of_le_of_lt Nat.and_le_left (by omega)),
    jn_map_and l _ _ (fun b h => Nat.or_lt_two_pow (n := 8) (Nat.lt_of_le_of_lt Nat.and_le_left (by omega)) (Nat.lt_of_le_of_lt Nat.and_le_left (by omega))) (fun _ _ => by omega)]
  exact jn_congr (fun b h => lane_below b c (hb b h) hc)

/-! ### words out of texts -/
/-- byte i of a text; 0 behind its end -/
def bt (s : ByteArray) (i : Nat) : Nat := if h : i < s.size then s[i].toNat else 0
/-- the byte at a place that may lie ahead of the text -/
def cell (s : ByteArray) (i : Int) : Nat := if 0 ≤ i then bt s i.toNat else 0
theorem bt_lt (s : ByteArray) (i : Nat) : bt s i < 256 := by
  unfold bt; split
  · exact UInt8.toNat_lt _
  · omega
theorem bt_in {s : ByteArray} {i : Nat} (h : i < s.size) : bt s i = s[i].toNat := by unfold bt; rw [dif_pos h]
theorem bt_out {s : ByteArray} {i : Nat} (h : s.size ≤ i) : bt s i = 0 := by unfold bt; rw [dif_neg (by omega)]
theorem cell_lt (s : ByteArray) (i : Int) : cell s i < 256 := by
  unfold cell; split
  · exact bt_lt _ _
  · omega
theorem cell_nat (s : ByteArray) (i : Nat) : cell s (i : Int) = bt s i := by unfold cell; rw [if_pos (by omega)]; rfl
theorem cell_neg (s : ByteArray) (i : Int) (h : i < 0) : cell s i = 0 := by unfold cell; rw [if_neg (by omega)]
theorem cell_out (s : ByteArray) (i : Int) (h : (s.size : Int) ≤ i) : cell s i = 0 := by
  unfold cell; split
  · exact bt_out (by omega)
  · rfl
theorem cell_in (s : ByteArray) (i : Int) (h0 : 0 ≤ i) (h : i < (s.size : Int)) : cell s i = (s[i.toNat]'(by omega)).toNat := by
  unfold cell; rw [if_pos h0, bt_in]
/-- bytes j .. 7 of the word from a place on -/
def ldFrom (s : ByteArray) (a : Int) (j : Nat) : Nat := jn ((List.range' j (8 - j)).map fun k : Nat => cell s (a + (k : Int)))
def ldL (s : ByteArray) (a : Int) : Nat := ldFrom s a 0
theorem ldFrom_8 (s : ByteArray) (a : Int) : ldFrom s a 8 = 0 := by simp [ldFrom, jn]
theorem ldFrom_step (s : ByteArray) (a : Int) (j : Nat) (h : j < 8) : ldFrom s a j = cell s (a + j) + 256 * ldFrom s a (j + 1) := by
  unfold ldFrom
  obtain ⟨m, hm⟩ : ∃ m, 8 - j = m + 1 := ⟨7 - j, by omega⟩
  have hm' : 8 - (j + 1) = m := by omega
  rw [hm, hm', List.range'_succ, List.map_cons, jn]
theorem ldFrom_lt (s : ByteArray) (a : Int) (j : Nat) : ldFrom s a j < 256 ^ (8 - j) := by
  unfold ldFrom
  have := jn_lt ((List.range' j (8 - j)).map fun k : Nat => cell s (a + (k : Int))) (by
    intro b hb; obtain ⟨x, _, rfl⟩ := List.mem_map.1 hb; exact cell_lt _ _)
  simpa using this
theorem ldL_lt (s : ByteArray) (a : Int) : ldL s a < 18446744073709551616 := by unfold ldL; simpa using ldFrom_lt s a 0
theorem ldL_eq (s : ByteArray) (a : Int) : ldL s a = cell s a + 256 * (cell s (a + 1) + 256 * (cell s (a + 2) + 256 * (cell s (a + 3) + 256 * (cell s (a + 4) + 256 * (cell s (a + 5) + 256 * (cell s (a + 6) + 256 * cell s (a + 7))))))) := by
  unfold ldL
  rw [ldFrom_step _ _ 0 (by omega), ldFrom_step _ _ 1 (by omega), ldFrom_step _ _ 2 (by omega), ldFrom_step _ _ 3 (by omega), ldFrom_step _ _ 4 (by omega), ldFrom_step _ _ 5 (by omega), ldFrom_step _ _ 6 (by omega), ldFrom_step _ _ 7 (by omega), ldFrom_8]
  simp
theorem ldL_out (s : ByteArray) (a : Int) (h : a ≤ -8 ∨ (s.size : Int) ≤ a) : ldL s a = 0 := by
  have h0 : ∀ k : Nat, k < 8 → cell s (a + k) = 0 := by
    intro k hk
    rcases h with h | h
    · exact cell_neg _ _ (by omega)
    · exact cell_out _ _ (by omega)
  have e0 := h0 0; have e1 := h0 1; have e2 := h0 2; have e3 := h0 3; have e4 := h0 4; have e5 := h0 5; have e6 := h0 6; have e7 := h0 7
  simp at e0 e1 e2 e3 e4 e5 e6 e7
  rw [ldL_eq, e0, e1, e2, e3, e4, e5, e6, e7]
theorem bt_extract (s : ByteArray) (a i : Nat) (h : a ≤ s.size) : bt (s.extract a s.size) i = bt s (a + i) := by
  by_cases hi : a + i < s.size
  · have h1 : i < (s.extract a s.size).size := by simp; omega
    rw [bt_in h1, bt_in hi, ByteArray.getElem_extract]
  · rw [bt_out (by simp; omega), bt_out (by omega)]
theorem cell_extract (s : ByteArray) (a : Nat) (i : Int) (h : a ≤ s.size) (hi : 0 ≤ i) : cell (s.extract a s.size) i = cell s (a + i) := by
  obtain ⟨k, rfl⟩ := Int.eq_ofNat_of_zero_le hi
  have e : (a : Int) + (k : Int) = ((a + k : Nat) : Int) := by omega
  rw [cell_nat, e, cell_nat, bt_extract s a k h]
theorem ldL_extract (s : ByteArray) (a : Nat) (h : a ≤ s.size) : ldL (s.extract a s.size) 0 = ldL s a := by
  rw [ldL_eq, ldL_eq]
  simp only [Int.zero_add]
  rw [cell_extract s a 0 h (by omega), cell_extract s a 1 h (by omega), cell_extract s a 2 h (by omega), cell_extract s a 3 h (by omega), cell_extract s a 4 h (by omega), cell_extract s a 5 h (by omega), cell_extract s a 6 h (by omega), cell_extract s a 7 h (by omega)]
  simp
theorem ldL_zero (s : ByteArray) : ldL s 0 = bt s 0 + 256 * (bt s 1 + 256 * (bt s 2 + 256 * (bt s 3 + 256 * (bt s 4 + 256 * (bt s 5 + 256 * (bt s 6 + 256 * bt s 7)))))) := by
  rw [ldL_eq]
  have h := cell_nat s
  have e0 := h 0; have e1 := h 1; have e2 := h 2; have e3 := h 3; have e4 := h 4; have e5 := h 5; have e6 := h 6; have e7 := h 7
  simp at e0 e1 e2 e3 e4 e5 e6 e7
  simp [e0, e1, e2, e3, e4, e5, e6, e7]
/-- ahead of the text: the first word, moved up -/
theorem ldL_ahead (s : ByteArray) (j : Nat) (h1 : 1 ≤ j) (h2 : j < 8) : ldL s (-(j : Int)) = ldL s 0 * 256 ^ j % 18446744073709551616 := by
  rw [ldL_zero, ldL_eq]
  have hn : ∀ i : Int, i < 0 → cell s i = 0 := cell_neg s
  have hp : ∀ i : Nat, cell s (i : Int) = bt s i := cell_nat s
  have l0 := bt_lt s 0; have l1 := bt_lt s 1; have l2 := bt_lt s 2; have l3 := bt_lt s 3; have l4 := bt_lt s 4; have l5 := bt_lt s 5; have l6 := bt_lt s 6; have l7 := bt_lt s 7
  have e0 := hp 0; have e1 := hp 1; have e2 := hp 2; have e3 := hp 3; have e4 := hp 4; have e5 := hp 5; have e6 := hp 6; have e7 := hp 7
  simp at e0 e1 e2 e3 e4 e5 e6 e7
  have m1 := hn (-1) (by omega); have m2 := hn (-2) (by omega); have m3 := hn (-3) (by omega); have m4 := hn (-4) (by omega); have m5 := hn (-5) (by omega); have m6 := hn (-6) (by omega); have m7 := hn (-7) (by omega)
  have hj : j = 1 ∨ j = 2 ∨ j = 3 ∨ j = 4 ∨ j = 5 ∨ j = 6 ∨ j = 7 := by omega
  rcases hj with rfl | rfl | rfl | rfl | rfl | rfl | rfl <;> simp [e0, e1, e2, e3, e4, e5, e6, m1, m2, m3, m4, m5, m6, m7] <;> omega

end Swar

namespace Swar
theorem lane_lower : ∀ b < 256, (b ||| (((if b < 91 then 128 else 0) &&& (255 - (if b < 65 then 128 else 0))) / 4)) = small b := by decide +kernel
theorem jn_map_mul (c : Nat) (f : Nat → Nat) : ∀ l : List Nat, jn (l.map fun b => c * f b) = c * jn (l.map f)
  | [] => rfl
  | b :: l => by
      have := jn_map_mul c f l
      simp only [List.map_cons, jn]
      rw [this, Nat.mul_add, ← Nat.mul_assoc, ← Nat.mul_assoc, Nat.mul_comm c 256]
theorem lower_eq (w : Nat) (hw : w < 18446744073709551616) : w ||| ((belowL w 91 &&& (18446744073709551615 - belowL w 65)) / 4) = lowerL w := by
  have hl := cut_length 8 w
  have hb := cut_byt 8 w
  have hj : jn (cut 8 w) = w := jn_cut 8 w hw
  unfold belowL lowerL
  generalize cut 8 w = l at hl hb hj
  have e9 : 18446744073709551615 = jn (l.map fun _ => 255) := by rw [jn_const l hl]
  have ew : w = jn (l.map fun b => b) := by rw [jn_id, hj]
  rw [e9, ew]
  have q1 : ∀ b : Nat, (if b < 91 then 128 else 0) < 256 := fun b => by split <;> omega
  have q2 : ∀ b : Nat, (if b < 65 then 128 else 0) ≤ 255 := fun b => by split <;> omega
  rw [(jn_map_sub (fun _ => 255) (fun b => if b < 65 then 128 else 0) l (fun b _ => q2 b)).1,
    jn_map_and l _ _ (fun b _ => q1 b) (fun b _ => by omega)]
  have q3 : ∀ b : Nat, ((if b < 91 then 128 else 0) &&& (255 - (if b < 65 then 128 else 0))) = 4 * (((if b < 91 then 128 else 0) &&& (255 - (if b < 65 then 128 else 0))) / 4) := by
    intro b
    by_cases h1 : b < 91 <;> by_cases h2 : b < 65 <;> simp [h1, h2]
  have q4 : ∀ b : Nat, (((if b < 91 then 128 else 0) &&& (255 - (if b < 65 then 128 else 0))) / 4) < 256 := by
    intro b
    by_cases h1 : b < 91 <;> by_cases h2 : b < 65 <;> simp [h1, h2]
  rw [jn_congr (g := fun b => 4 * (((if b < 91 then 128 else 0) &&& (255 - (if b < 65 then 128 else 0))) / 4)) (fun b _ => q3 b), jn_map_mul,
    Nat.mul_div_cancel_left _ (by omega), jn_map_or l _ _ (fun b h => hb b h) (fun b _ => q4 b)]
  exact jn_congr (fun b h => lane_lower b (hb b h))

/-! ### the first mark -/
/-- how many noughts stand below the lowest bit that is set, of so many bits -/
def tz : Nat → Nat → Nat
  | 0, _ => 0
  | n + 1, x => if x % 2 = 1 then 0 else 1 + tz n (x / 2)
theorem tz_zero : ∀ n, tz n 0 = n
  | 0 => rfl
  | n + 1 => by simp [tz, tz_zero n]; omega
theorem and_even (a b : Nat) : (2 * a) &&& (2 * b) = 2 * (a &&& b) := by
  apply Nat.eq_of_testBit_eq
  intro i
  cases i with
  | zero => simp
  | succ i =>
    have h1 : 2 * a / 2 = a := by omega
    have h2 : 2 * b / 2 = b := by omega
    have h3 : 2 * (a &&& b) / 2 = a &&& b := by omega
    rw [Nat.testBit_and, Nat.testBit_succ, Nat.testBit_succ, Nat.testBit_succ, h1, h2, h3, Nat.testBit_and]
theorem and_odd (a b : Nat) : (2 * a + 1) &&& (2 * b + 1) = 2 * (a &&& b) + 1 := by
  apply Nat.eq_of_testBit_eq
  intro i
  cases i with
  | zero => simp
  | succ i =>
    have h1 : (2 * a + 1) / 2 = a := by omega
    have h2 : (2 * b + 1) / 2 = b := by omega
    have h3 : (2 * (a &&& b) + 1) / 2 = a &&& b := by omega
    rw [Nat.testBit_and, Nat.testBit_succ, Nat.testBit_succ, Nat.testBit_succ, h1, h2, h3, Nat.testBit_and]
theorem and_rest (n q : Nat) (h : q < 2 ^ n) : q &&& (2 ^ n - 1 - q) = 0 := by
  apply Nat.eq_of_testBit_eq
  intro i
  have e : 2 ^ n - 1 - q = 2 ^ n - (q + 1) := by omega
  rw [Nat.testBit_and, e, Nat.testBit_two_pow_sub_succ h]
  cases q.testBit i <;> simp
theorem low_bit : ∀ (n x : Nat), 0 < x → x < 2 ^ n → x &&& (2 ^ n - x) = 2 ^ tz n x ∧ tz n x < n
  | 0, x, h0, h => by simp at h; omega
  | n + 1, x, h0, h => by
      rw [Nat.pow_succ] at h ⊢
      by_cases hx : x % 2 = 1
      · obtain ⟨q, rfl⟩ : ∃ q, x = 2 * q + 1 := ⟨x / 2, by omega⟩
        have e : 2 ^ n * 2 - (2 * q + 1) = 2 * (2 ^ n - 1 - q) + 1 := by omega
        rw [e, and_odd, and_rest n q (by omega)]
        simp [tz]
      · obtain ⟨q, rfl⟩ : ∃ q, x = 2 * q := ⟨x / 2, by omega⟩
        have e : 2 ^ n * 2 - 2 * q = 2 * (2 ^ n - q) := by omega
        have ih := low_bit n q (by omega) (by omega)
        rw [e, and_even, ih.1]
        have e2 : 2 * q / 2 = q := by omega
        simp only [tz, hx, if_false, e2]
        refine ⟨?_, by omega⟩
        rw [Nat.pow_add, Nat.pow_one]
theorem tz_up : ∀ (k n x : Nat), tz (k + n) (2 ^ k * x) = k + tz n x
  | 0, n, x => by simp
  | k + 1, n, x => by
      have e : k + 1 + n = (k + n) + 1 := by omega
      have e2 : 2 ^ (k + 1) * x = 2 * (2 ^ k * x) := by rw [Nat.pow_succ, Nat.mul_comm (2 ^ k) 2, Nat.mul_assoc]
      rw [e, e2]
      have h1 : ¬ (2 * (2 ^ k * x)) % 2 = 1 := by omega
      have h2 : 2 * (2 ^ k * x) / 2 = 2 ^ k * x := by omega
      simp only [tz, h1, if_false, h2]
      rw [tz_up k n x]; omega
theorem tz_mark (n x : Nat) : tz (8 + n) (128 + 256 * x) = 7 := by
  have e : 128 + 256 * x = 2 ^ 7 * (1 + 2 * x) := by omega
  have e2 : 8 + n = 7 + (n + 1) := by omega
  rw [e, e2, tz_up]
  have : (1 + 2 * x) % 2 = 1 := by omega
  simp [tz, this]
theorem and_128 : ∀ b < 256, b &&& 128 = if 128 ≤ b then 128 else 0 := by decide +kernel
theorem tz_marks : ∀ l : List Nat, Byt l → tz (8 * l.length) (jn (l.map fun b => b &&& 128)) / 8 = l.findIdx (fun b => 128 ≤ b)
  | [], _ => by simp [tz, jn]
  | b :: l, h => by
      have hb := h b (List.mem_cons_self ..)
      have ih := tz_marks l (fun x hx => h x (List.mem_cons_of_mem _ hx))
      have e : 8 * (b :: l).length = 8 + 8 * l.length := by simp; omega
      rw [e, List.map_cons, jn, and_128 b hb, List.findIdx_cons]
      by_cases hm : 128 ≤ b
      · simp only [hm, if_true, decide_true, cond_true]
        rw [tz_mark]
      · simp only [hm, if_false, decide_false, cond_false]
        have e3 : 0 + 256 * jn (l.map fun b => b &&& 128) = 2 ^ 8 * jn (l.map fun b => b &&& 128) := by omega
        rw [e3, tz_up, ← ih]
        omega
theorem marks_eq (m : Nat) (hm : m < 18446744073709551616) : m &&& 9259542123273814144 = jn ((cut 8 m).map fun b => b &&& 128) := by
  have hl := cut_length 8 m
  have hb := cut_byt 8 m
  have hj : jn (cut 8 m) = m := jn_cut 8 m hm
  generalize cut 8 m = l at hl hb hj
  have e8 : 9259542123273814144 = jn (l.map fun _ => 128) := by rw [jn_const l hl]
  have ew : m = jn (l.map fun b => b) := by rw [jn_id, hj]
  rw [e8, ew, jn_map_and l _ _ (fun b h => hb b h) (fun _ _ => by omega)]
theorem first_eq (m : Nat) (hm : m < 18446744073709551616) : tz 64 (m &&& 9259542123273814144) / 8 = firstL m := by
  have h := tz_marks (cut 8 m) (cut_byt 8 m)
  rw [cut_length] at h
  rw [marks_eq m hm, h]
  rfl
theorem firstL_le (m : Nat) : firstL m ≤ 8 := by
  unfold firstL
  have := List.findIdx_le_length (p := fun b => decide (128 ≤ b)) (xs := cut 8 m)
  rwa [cut_length] at this

/-! ### the number of marks -/
def oc (x : Nat) : Nat :=
  let a := ((x / 2) &&& 6148914691236517205) + (x &&& 6148914691236517205)
  let b := ((a / 4) &&& 3689348814741910323) + (a &&& 3689348814741910323)
  let c := (b / 16 + b) &&& 1085102592571150095
  let d := c + c / 256
  let e := d + d / 65536
  let f := e + e / 4294967296
  f &&& 127
def ocChk (a b c d e f g h : Bool) : Bool :=
  let v := fun t : Bool => bif t then 128 else 0
  let u := fun t : Bool => bif t then 1 else 0
  Nat.beq (oc (jn [v a, v b, v c, v d, v e, v f, v g, v h])) (u a + u b + u c + u d + u e + u f + u g + u h)
theorem ocChk_all : ∀ a b c d e f g h : Bool, ocChk a b c d e f g h = true := by decide +kernel
theorem v_eq (x : Nat) (hx : x < 256) : x &&& 128 = bif decide (128 ≤ x) then 128 else 0 := by
  rw [and_128 x hx]; by_cases h : 128 ≤ x <;> simp [h]
theorem ones_eq (m : Nat) (hm : m < 18446744073709551616) : oc (m &&& 9259542123273814144) = onesL m := by
  rw [marks_eq m hm]
  unfold onesL
  have hl := cut_length 8 m
  have hb := cut_byt 8 m
  generalize cut 8 m = l at hl hb
  match l, hl with
  | [a, b, c, d, e, f, g, i], _ =>
    have h := ocChk_all (decide (128 ≤ a)) (decide (128 ≤ b)) (decide (128 ≤ c)) (decide (128 ≤ d)) (decide (128 ≤ e)) (decide (128 ≤ f)) (decide (128 ≤ g)) (decide (128 ≤ i))
    have h2 := Nat.eq_of_beq_eq_true h
    simp only [List.map_cons, List.map_nil]
    rw [v_eq a (hb a (by simp)), v_eq b (hb b (by simp)), v_eq c (hb c (by simp)), v_eq d (hb d (by simp)), v_eq e (hb e (by simp)), v_eq f (hb f (by simp)), v_eq g (hb g (by simp)), v_eq i (hb i (by simp))]
    rw [h2]
    have u : ∀ x : Nat, (bif decide (128 ≤ x) then 1 else 0) = if 128 ≤ x then 1 else 0 := fun x => by by_cases h : 128 ≤ x <;> simp [h]
    simp only [u, List.countP_cons, List.countP_nil, decide_eq_true_eq]
    omega
theorem onesL_le (m : Nat) : onesL m ≤ 8 := by
  unfold onesL
  have := List.countP_le_length (p := fun b => decide (128 ≤ b)) (l := cut 8 m)
  rwa [cut_length] at this
theorem jn_lt8 (l : List Nat) (hl : l.length = 8) (h : Byt l) : jn l < 18446744073709551616 := by
  have := jn_lt l h
  rw [hl] at this
  simpa using this
theorem zerosL_lt (w : Nat) : zerosL w < 18446744073709551616 := by
  unfold zerosL
  exact jn_lt8 _ (by simp [cut_length]) (Byt.map (fun b _ => by split <;> omega))
theorem belowL_lt (w c : Nat) : belowL w c < 18446744073709551616 := by
  unfold belowL
  exact jn_lt8 _ (by simp [cut_length]) (Byt.map (fun b _ => by split <;> omega))
theorem equalL_lt (a b : Nat) : equalL a b < 18446744073709551616 := by rw [← equal_eq]; exact zerosL_lt _
theorem small_lt (b : Nat) (h : b < 256) : small b < 256 := by unfold small; split <;> omega
theorem lowerL_lt (w : Nat) : lowerL w < 18446744073709551616 := by
  unfold lowerL
  exact jn_lt8 _ (by simp [cut_length]) (Byt.map (fun b h => small_lt b (cut_byt 8 w b h)))
theorem spreadL_lt (c : Nat) (h : c < 256) : spreadL c < 18446744073709551616 := by rw [← spread_eq]; omega
end Swar

namespace Swar
/-- byte k of a word -/
def byt (v k : Nat) : Nat := v / 256 ^ k % 256
theorem byt_lt (v k : Nat) : byt v k < 256 := Nat.mod_lt _ (by omega)
theorem cut8 (v : Nat) : cut 8 v = [byt v 0, byt v 1, byt v 2, byt v 3, byt v 4, byt v 5, byt v 6, byt v 7] := by
  simp only [cut, byt, Nat.div_div_eq_div_mul, Nat.reduceMul, Nat.reducePow, Nat.div_one]
/-- marks made of answers -/
def markL (bs : List Bool) : Nat := jn (bs.map fun b => if b then 128 else 0)
theorem markL_zeros (v : Nat) : zerosL v = markL [byt v 0 == 0, byt v 1 == 0, byt v 2 == 0, byt v 3 == 0, byt v 4 == 0, byt v 5 == 0, byt v 6 == 0, byt v 7 == 0] := by
  unfold zerosL markL; rw [cut8]; simp
theorem markL_equal (a b : Nat) : equalL a b = markL [byt a 0 == byt b 0, byt a 1 == byt b 1, byt a 2 == byt b 2, byt a 3 == byt b 3, byt a 4 == byt b 4, byt a 5 == byt b 5, byt a 6 == byt b 6, byt a 7 == byt b 7] := by
  unfold equalL markL; rw [cut8, cut8]; simp
theorem markL_below (v c : Nat) : belowL v c = markL [decide (byt v 0 < c), decide (byt v 1 < c), decide (byt v 2 < c), decide (byt v 3 < c), decide (byt v 4 < c), decide (byt v 5 < c), decide (byt v 6 < c), decide (byt v 7 < c)] := by
  unfold belowL markL; rw [cut8]; simp
/-- marks of the answers from j on -/
def markFrom (bs : List Bool) (j : Nat) : Nat := markL (bs.drop j)
theorem markFrom_step (bs : List Bool) (j : Nat) (h : j < bs.length) : markFrom bs j = (if bs.getD j false then 128 else 0) + 256 * markFrom bs (j + 1) := by
  unfold markFrom markL
  rw [List.drop_eq_getElem_cons h, List.map_cons, jn]
  have e : bs.getD j false = bs[j] := by simp [List.getD, h]
  rw [e]
theorem markFrom_all (bs : List Bool) : markFrom bs bs.length = 0 := by simp [markFrom, markL, jn]
theorem markFrom_lt (bs : List Bool) (j : Nat) : markFrom bs j < 256 ^ (bs.length - j) := by
  unfold markFrom markL
  have := jn_lt ((bs.drop j).map fun b => if b then 128 else 0) (by
    intro x hx
    obtain ⟨y, _, rfl⟩ := List.mem_map.1 hx
    split <;> omega)
  simpa using this
/-- the bytes made small, from j on -/
def lowFrom (v j : Nat) : Nat := jn (((cut 8 v).drop j).map small)
theorem lowFrom_8 (v : Nat) : lowFrom v 8 = 0 := by
  unfold lowFrom; rw [List.drop_of_length_le (by simp [cut_length])]; rfl
theorem lowFrom_0 (v : Nat) : lowFrom v 0 = lowerL v := rfl
theorem cut_get : ∀ (n v j : Nat), j < n → (cut n v)[j]? = some (byt v j)
  | 0, _, _, h => by omega
  | n + 1, v, 0, _ => by simp [cut, byt]
  | n + 1, v, j + 1, h => by
      simp only [cut, List.getElem?_cons_succ]
      rw [cut_get n (v / 256) j (by omega)]
      simp only [byt, Nat.div_div_eq_div_mul]
      rw [Nat.pow_succ, Nat.mul_comm]
theorem lowFrom_step (v j : Nat) (h : j < 8) : lowFrom v j = small (byt v j) + 256 * lowFrom v (j + 1) := by
  unfold lowFrom
  have hl : j < (cut 8 v).length := by simpa [cut_length] using h
  rw [List.drop_eq_getElem_cons hl, List.map_cons, jn]
  have e := cut_get 8 v j h
  rw [List.getElem?_eq_getElem hl] at e
  rw [Option.some.inj e]
theorem lowFrom_lt (v j : Nat) : lowFrom v j < 256 ^ (8 - j) := by
  unfold lowFrom
  have := jn_lt (((cut 8 v).drop j).map small) (Byt.map (fun b hb => small_lt b (cut_byt 8 v b (List.mem_of_mem_drop hb))))
  simpa [cut_length] using this
theorem pow_lt56 (j : Nat) (h0 : 0 < j) (h8 : j ≤ 8) (x : Nat) (hx : x < 256 ^ (8 - j)) : x < 72057594037927936 := by
  have h : 256 ^ (8 - j) ≤ 256 ^ 7 := Nat.pow_le_pow_right (by omega) (by omega)
  have e : (256 : Nat) ^ 7 = 72057594037927936 := by decide
  omega
/-- the first mark among the bytes from j on -/
theorem firstL_step (m : Nat) : firstL m = if 128 ≤ byt m 0 then 0 else if 128 ≤ byt m 1 then 1 else if 128 ≤ byt m 2 then 2 else if 128 ≤ byt m 3 then 3 else if 128 ≤ byt m 4 then 4 else if 128 ≤ byt m 5 then 5 else if 128 ≤ byt m 6 then 6 else if 128 ≤ byt m 7 then 7 else 8 := by
  unfold firstL
  rw [cut8]
  simp only [List.findIdx_cons, List.findIdx_nil]
  by_cases h0 : 128 ≤ byt m 0 <;> by_cases h1 : 128 ≤ byt m 1 <;> by_cases h2 : 128 ≤ byt m 2 <;> by_cases h3 : 128 ≤ byt m 3 <;> by_cases h4 : 128 ≤ byt m 4 <;> by_cases h5 : 128 ≤ byt m 5 <;> by_cases h6 : 128 ≤ byt m 6 <;> by_cases h7 : 128 ≤ byt m 7 <;> simp [h0, h1, h2, h3, h4, h5, h6, h7]
theorem firstL_spec (m : Nat) : firstL m ≤ 8 ∧ (∀ j, j < firstL m → byt m j < 128) ∧ (firstL m < 8 → 128 ≤ byt m (firstL m)) := by
  have hle := firstL_le m
  refine ⟨hle, ?_, ?_⟩
  · intro j hj
    unfold firstL at hj
    have hj8 : j < 8 := by
      have := List.findIdx_le_length (p := fun b => decide (128 ≤ b)) (xs := cut 8 m)
      rw [cut_length] at this; omega
    have h := List.not_of_lt_findIdx hj
    have e := cut_get 8 m j hj8
    have hl : j < (cut 8 m).length := by simpa [cut_length] using hj8
    rw [List.getElem?_eq_getElem hl] at e
    rw [Option.some.inj e] at h
    simpa using h
  · intro h8
    unfold firstL at h8 ⊢
    have hl : (cut 8 m).findIdx (fun b => 128 ≤ b) < (cut 8 m).length := by simpa [cut_length] using h8
    have h := List.findIdx_getElem (w := hl)
    have e := cut_get 8 m _ h8
    rw [List.getElem?_eq_getElem hl] at e
    rw [Option.some.inj e] at h
    simpa using h
theorem firstL_of (m j : Nat) (hj : j ≤ 8) (h1 : ∀ i, i < j → byt m i < 128) (h2 : j < 8 → 128 ≤ byt m j) : firstL m = j := by
  have s := firstL_spec m
  rcases Nat.lt_trichotomy (firstL m) j with h | h | h
  · have a := s.2.2 (by omega); have b := h1 _ h; omega
  · exact h
  · have a := s.2.1 _ h; have b := h2 (by omega); omega
/-- how many of the first j bytes are marked -/
def onesTo (m j : Nat) : Nat := ((cut 8 m).take j).countP (fun b => 128 ≤ b)
theorem onesTo_0 (m : Nat) : onesTo m 0 = 0 := rfl
theorem onesTo_8 (m : Nat) : onesTo m 8 = onesL m := by
  unfold onesTo onesL; rw [List.take_of_length_le (by simp [cut_length])]
theorem onesTo_step (m j : Nat) (h : j < 8) : onesTo m (j + 1) = onesTo m j + if 128 ≤ byt m j then 1 else 0 := by
  unfold onesTo
  have hl : j < (cut 8 m).length := by simpa [cut_length] using h
  have e := cut_get 8 m j h
  rw [List.getElem?_eq_getElem hl] at e
  rw [List.take_succ_eq_append_getElem hl, List.countP_append, Option.some.inj e]
  simp
theorem onesTo_le (m j : Nat) : onesTo m j ≤ 8 := by
  unfold onesTo
  have h1 := List.countP_le_length (p := fun b => decide (128 ≤ b)) (l := (cut 8 m).take j)
  have h2 : ((cut 8 m).take j).length ≤ 8 := by simp [cut_length]; omega
  omega
/-- so many times a byte -/
def spreadTo (c j : Nat) : Nat := jn (List.replicate j c)
theorem spreadTo_step (c j : Nat) : spreadTo c (j + 1) = c + 256 * spreadTo c j := by simp [spreadTo, List.replicate_succ, jn]
theorem spreadTo_8 (c : Nat) : spreadTo c 8 = spreadL c := rfl
theorem spreadTo_lt (c j : Nat) (h : c < 256) : spreadTo c j < 256 ^ j := by
  unfold spreadTo
  have := jn_lt (List.replicate j c) (by intro b hb; rw [List.eq_of_mem_replicate hb]; exact h)
  simpa using this
end Swar

namespace Swar
theorem cut_jn : ∀ l : List Nat, Byt l → cut l.length (jn l) = l
  | [], _ => rfl
  | b :: l, h => by
      have hb := h b (List.mem_cons_self ..)
      have ih := cut_jn l (fun x hx => h x (List.mem_cons_of_mem _ hx))
      simp only [List.length_cons, jn, cut]
      have e1 : (b + 256 * jn l) % 256 = b := by omega
      have e2 : (b + 256 * jn l) / 256 = jn l := by omega
      rw [e1, e2, ih]
theorem byt_jn (l : List Nat) (hl : l.length = 8) (h : Byt l) (j : Nat) (hj : j < 8) : l[j]? = some (byt (jn l) j) := by
  have e := cut_jn l h
  rw [hl] at e
  have g := cut_get 8 (jn l) j hj
  rw [e] at g
  exact g
theorem byt_ldL (s : ByteArray) (a : Int) (j : Nat) (hj : j < 8) : byt (ldL s a) j = cell s (a + j) := by
  have h := byt_jn ((List.range' 0 8).map fun k : Nat => cell s (a + (k : Int))) (by simp) (Byt.map fun b _ => cell_lt _ _) j hj
  rw [List.getElem?_map, List.getElem?_range' hj] at h
  simp only [Option.map_some, Option.some.injEq] at h
  have e : (0 + 1 * j : Nat) = j := by omega
  rw [e] at h
  exact h.symm
theorem byt_spread (c j : Nat) (hc : c < 256) (hj : j < 8) : byt (spreadL c) j = c := by
  have h := byt_jn (List.replicate 8 c) (by simp) (by intro b hb; rw [List.eq_of_mem_replicate hb]; exact hc) j hj
  rw [List.getElem?_replicate, if_pos hj] at h
  exact (Option.some.inj h).symm
theorem byt_equal (a b j : Nat) (hj : j < 8) : byt (equalL a b) j = if byt a j = byt b j then 128 else 0 := by
  have h := byt_jn (List.zipWith (fun x y => if x = y then 128 else 0) (cut 8 a) (cut 8 b)) (by simp [cut_length]) (by
    intro x hx
    obtain ⟨i, hi, rfl⟩ := List.getElem_of_mem hx
    rw [List.getElem_zipWith]
    split <;> omega) j hj
  rw [List.getElem?_zipWith, cut_get 8 a j hj, cut_get 8 b j hj] at h
  simp only [Option.some.injEq] at h
  exact h.symm
theorem byt_lower (v j : Nat) (hj : j < 8) : byt (lowerL v) j = small (byt v j) := by
  have h := byt_jn ((cut 8 v).map small) (by simp [cut_length]) (Byt.map fun b hb => small_lt b (cut_byt 8 v b hb)) j hj
  rw [List.getElem?_map, cut_get 8 v j hj] at h
  exact (Option.some.inj h).symm
theorem byt_zeros (v j : Nat) (hj : j < 8) : byt (zerosL v) j = if byt v j = 0 then 128 else 0 := by
  have h := byt_jn ((cut 8 v).map fun b => if b = 0 then 128 else 0) (by simp [cut_length]) (Byt.map fun b hb => by split <;> omega) j hj
  rw [List.getElem?_map, cut_get 8 v j hj] at h
  exact (Option.some.inj h).symm
theorem byt_below (v c j : Nat) (hj : j < 8) : byt (belowL v c) j = if byt v j < c then 128 else 0 := by
  have h := byt_jn ((cut 8 v).map fun b => if b < c then 128 else 0) (by simp [cut_length]) (Byt.map fun b hb => by split <;> omega) j hj
  rw [List.getElem?_map, cut_get 8 v j hj] at h
  exact (Option.some.inj h).symm
/-- words are one if their bytes are -/
theorem word_ext (a b : Nat) (ha : a < 18446744073709551616) (hb : b < 18446744073709551616) (h : ∀ j < 8, byt a j = byt b j) : a = b := by
  have ea : jn (cut 8 a) = a := jn_cut 8 a ha
  have eb : jn (cut 8 b) = b := jn_cut 8 b hb
  rw [← ea, ← eb]
  congr 1
  rw [cut8, cut8, h 0 (by omega), h 1 (by omega), h 2 (by omega), h 3 (by omega), h 4 (by omega), h 5 (by omega), h 6 (by omega), h 7 (by omega)]

/-- the first of so many places, from one on, of which it is so; -1: none -/
def fnd (P : Nat → Bool) : Nat → Nat → Int
  | _, 0 => -1
  | f, k + 1 => if P f then (f : Int) else fnd P (f + 1) k
theorem fnd_hit (P : Nat → Bool) (f k : Nat) (hk : 0 < k) (h : P f = true) : fnd P f k = f := by
  obtain ⟨m, rfl⟩ : ∃ m, k = m + 1 := ⟨k - 1, by omega⟩
  simp [fnd, h]
theorem fnd_skip (P : Nat → Bool) : ∀ (j f k : Nat), j ≤ k → (∀ i, i < j → P (f + i) = false) → fnd P f k = fnd P (f + j) (k - j)
  | 0, f, k, _, _ => by simp
  | j + 1, f, k, hk, h => by
      obtain ⟨m, rfl⟩ : ∃ m, k = m + 1 := ⟨k - 1, by omega⟩
      have h0 := h 0 (by omega)
      simp only [Nat.add_zero] at h0
      have ih := fnd_skip P j (f + 1) m (by omega) (fun i hi => by
        have := h (i + 1) (by omega)
        rwa [show f + (i + 1) = f + 1 + i by omega] at this)
      simp only [fnd, h0]
      rw [show f + (j + 1) = f + 1 + j by omega, show m + 1 - (j + 1) = m - j by omega, ← ih]
      rfl
theorem fnd_none (P : Nat → Bool) (f k : Nat) (h : ∀ i, i < k → P (f + i) = false) : fnd P f k = -1 := by
  rw [fnd_skip P k f k (Nat.le_refl _) h]
  simp [fnd]
theorem fnd_congr (P Q : Nat → Bool) : ∀ (k f : Nat), (∀ i, i < k → P (f + i) = Q (f + i)) → fnd P f k = fnd Q f k
  | 0, _, _ => rfl
  | k + 1, f, h => by
      have h0 := h 0 (by omega)
      simp only [Nat.add_zero] at h0
      have ih := fnd_congr P Q k (f + 1) (fun i hi => by
        have := h (i + 1) (by omega)
        rwa [show f + (i + 1) = f + 1 + i by omega] at this)
      simp only [fnd, h0, ih]
theorem fnd_spec (P : Nat → Bool) : ∀ (k f : Nat), (fnd P f k = -1 ∧ ∀ i, i < k → P (f + i) = false) ∨ ∃ i, i < k ∧ fnd P f k = ((f + i : Nat) : Int) ∧ P (f + i) = true ∧ ∀ j, j < i → P (f + j) = false
  | 0, f => .inl ⟨rfl, fun i hi => by omega⟩
  | k + 1, f => by
      by_cases h : P f = true
      · exact .inr ⟨0, by omega, by simp [fnd, h], by simpa using h, fun j hj => by omega⟩
      · have h' : P f = false := by simpa using h
        have e : fnd P f (k + 1) = fnd P (f + 1) k := by simp [fnd, h']
        rcases fnd_spec P k (f + 1) with ⟨h1, h2⟩ | ⟨i, hi, h1, h2, h3⟩
        · refine .inl ⟨by rw [e, h1], fun i hi => ?_⟩
          cases i with
          | zero => simpa using h'
          | succ i => have := h2 i (by omega); rwa [show f + (i + 1) = f + 1 + i by omega]
        · refine .inr ⟨i + 1, by omega, by rw [e, h1]; congr 1; omega, by rwa [show f + (i + 1) = f + 1 + i by omega], fun j hj => ?_⟩
          cases j with
          | zero => simpa using h'
          | succ j => have := h3 j (by omega); rwa [show f + (j + 1) = f + 1 + j by omega]
theorem fnd_bounds (P : Nat → Bool) (k f : Nat) : -1 ≤ fnd P f k ∧ fnd P f k < ((f + k : Nat) : Int) := by
  rcases fnd_spec P k f with ⟨h, _⟩ | ⟨i, hi, h, _⟩ <;> rw [h] <;> omega

/-- where a byte stands first, from a place on -/
def idxL (s : ByteArray) (c f : Nat) : Int := fnd (fun p => bt s p == c) f (s.size - f)
/-- what one word tells: the first of eight places that hold the byte -/
def hitL (s : ByteArray) (c a : Nat) : Nat := firstL (equalL (ldL s a) (spreadL c))
theorem mark_iff (s : ByteArray) (c a j : Nat) (hc : c < 256) (hj : j < 8) : 128 ≤ byt (equalL (ldL s a) (spreadL c)) j ↔ bt s (a + j) = c := by
  rw [byt_equal _ _ _ hj, byt_ldL s a j hj, byt_spread c j hc hj, show ((a : Int) + (j : Int)) = ((a + j : Nat) : Int) by omega, cell_nat]
  by_cases h : bt s (a + j) = c <;> simp [h]
theorem hit_le (s : ByteArray) (c a : Nat) : hitL s c a ≤ 8 := firstL_le _
theorem hit_miss (s : ByteArray) (c a : Nat) (hc : c < 256) (j : Nat) (hj : j < hitL s c a) : bt s (a + j) ≠ c := by
  have h8 := hit_le s c a
  have h := (firstL_spec (equalL (ldL s a) (spreadL c))).2.1 j hj
  intro e
  have := (mark_iff s c a j hc (by omega)).2 e
  omega
theorem hit_found (s : ByteArray) (c a : Nat) (hc : c < 256) (h : hitL s c a < 8) : bt s (a + hitL s c a) = c :=
  (mark_iff s c a _ hc h).1 ((firstL_spec (equalL (ldL s a) (spreadL c))).2.2 h)
theorem idx_found (s : ByteArray) (c a : Nat) (hc : c < 256) (h8 : hitL s c a < 8) (hn : a + hitL s c a < s.size) : idxL s c a = ((a + hitL s c a : Nat) : Int) := by
  unfold idxL
  rw [fnd_skip _ (hitL s c a) a _ (by omega) (fun i hi => by simpa using hit_miss s c a hc i hi)]
  exact fnd_hit _ _ _ (by omega) (by simpa using hit_found s c a hc h8)
theorem idx_next (s : ByteArray) (c a : Nat) (hc : c < 256) (ha : a < s.size) (h : ¬ (hitL s c a < 8 ∧ a + hitL s c a < s.size)) : idxL s c a = idxL s c (a + 8) := by
  unfold idxL
  have miss : ∀ i, i < 8 → a + i < s.size → (bt s (a + i) == c) = false := by
    intro i hi hn
    by_cases hh : i < hitL s c a
    · simpa using hit_miss s c a hc i hh
    · exfalso
      exact h ⟨by omega, by omega⟩
  by_cases h8 : a + 8 ≤ s.size
  · rw [fnd_skip _ 8 a _ (by omega) (fun i hi => miss i hi (by omega))]
    congr 1
  · rw [fnd_none _ a _ (fun i hi => miss i (by omega) (by omega)), show s.size - (a + 8) = 0 by omega]
    rfl
theorem idx_out (s : ByteArray) (c a : Nat) (h : s.size ≤ a) : idxL s c a = -1 := by
  unfold idxL; rw [show s.size - a = 0 by omega]; rfl
theorem idx_step (s : ByteArray) (c a : Nat) (h : a < s.size) : idxL s c a = if bt s a = c then (a : Int) else idxL s c (a + 1) := by
  unfold idxL
  obtain ⟨m, hm⟩ : ∃ m, s.size - a = m + 1 := ⟨s.size - a - 1, by omega⟩
  rw [hm, show s.size - (a + 1) = m by omega]
  by_cases hb : bt s a = c <;> simp [fnd, hb]
theorem idx_bounds (s : ByteArray) (c f : Nat) : -1 ≤ idxL s c f ∧ idxL s c f < (s.size : Int) ∨ s.size ≤ f := by
  have := fnd_bounds (fun p => bt s p == c) (s.size - f) f
  unfold idxL
  omega
end Swar

namespace Swar
/-! ### counting -/
def cntL (s : ByteArray) (c n : Nat) : Nat := (List.range n).countP (fun p => bt s p == c)
theorem cnt_0 (s : ByteArray) (c : Nat) : cntL s c 0 = 0 := rfl
theorem cnt_step (s : ByteArray) (c n : Nat) : cntL s c (n + 1) = cntL s c n + if bt s n = c then 1 else 0 := by
  unfold cntL
  rw [List.range_succ, List.countP_append]
  simp
theorem cnt_le (s : ByteArray) (c n : Nat) : cntL s c n ≤ n := by
  unfold cntL
  have := List.countP_le_length (p := fun p => bt s p == c) (l := List.range n)
  simpa using this
theorem ones_sum (m : Nat) : onesL m = (if 128 ≤ byt m 0 then 1 else 0) + (if 128 ≤ byt m 1 then 1 else 0) + (if 128 ≤ byt m 2 then 1 else 0) + (if 128 ≤ byt m 3 then 1 else 0) + (if 128 ≤ byt m 4 then 1 else 0) + (if 128 ≤ byt m 5 then 1 else 0) + (if 128 ≤ byt m 6 then 1 else 0) + (if 128 ≤ byt m 7 then 1 else 0) := by
  rw [← onesTo_8, onesTo_step m 7 (by omega), onesTo_step m 6 (by omega), onesTo_step m 5 (by omega), onesTo_step m 4 (by omega), onesTo_step m 3 (by omega), onesTo_step m 2 (by omega), onesTo_step m 1 (by omega), onesTo_step m 0 (by omega), onesTo_0]
  omega
theorem onesTo_cnt (s : ByteArray) (c a : Nat) (hc : c < 256) : ∀ j, j ≤ 8 → cntL s c (a + j) = cntL s c a + onesTo (equalL (ldL s a) (spreadL c)) j
  | 0, _ => by simp [onesTo_0]
  | j + 1, h => by
      have ih := onesTo_cnt s c a hc j (by omega)
      have hm := mark_iff s c a j hc (by omega)
      rw [show a + (j + 1) = a + j + 1 by omega, cnt_step, ih, onesTo_step _ _ (by omega)]
      by_cases hb : bt s (a + j) = c
      · rw [if_pos hb, if_pos (hm.2 hb)]; omega
      · rw [if_neg hb, if_neg (fun h => hb (hm.1 h))]; omega
theorem cnt_word (s : ByteArray) (c a : Nat) (hc : c < 256) : cntL s c (a + 8) = cntL s c a + onesL (equalL (ldL s a) (spreadL c)) := by
  rw [onesTo_cnt s c a hc 8 (by omega), onesTo_8]
theorem ones_shift (e m : Nat) (hm : m ≤ 8) (he : e < 18446744073709551616) : onesL (e * 256 ^ (8 - m) % 18446744073709551616) = onesTo e m := by
  have hc : m = 0 ∨ m = 1 ∨ m = 2 ∨ m = 3 ∨ m = 4 ∨ m = 5 ∨ m = 6 ∨ m = 7 ∨ m = 8 := by omega
  rw [ones_sum]
  have s0 := onesTo_step e 0 (by omega); have s1 := onesTo_step e 1 (by omega); have s2 := onesTo_step e 2 (by omega); have s3 := onesTo_step e 3 (by omega)
  have s4 := onesTo_step e 4 (by omega); have s5 := onesTo_step e 5 (by omega); have s6 := onesTo_step e 6 (by omega); have s7 := onesTo_step e 7 (by omega)
  have z := onesTo_0 e
  simp only [Nat.zero_add, Nat.reduceAdd] at s0 s1 s2 s3 s4 s5 s6 s7
  have b : ∀ j t, byt (e * 256 ^ t % 18446744073709551616) j = e * 256 ^ t % 18446744073709551616 / 256 ^ j % 256 := fun _ _ => rfl
  have d : ∀ j, byt e j = e / 256 ^ j % 256 := fun _ => rfl
  have q0 := d 0; have q1 := d 1; have q2 := d 2; have q3 := d 3; have q4 := d 4; have q5 := d 5; have q6 := d 6; have q7 := d 7
  simp only [Nat.reducePow] at q0 q1 q2 q3 q4 q5 q6 q7
  have key : ∀ t k j, (e * 256 ^ t % 18446744073709551616 / 256 ^ k % 256 = e / 256 ^ j % 256) → byt (e * 256 ^ t % 18446744073709551616) k = byt e j := fun t k j h => h
  have nul : ∀ t k, (e * 256 ^ t % 18446744073709551616 / 256 ^ k % 256 = 0) → byt (e * 256 ^ t % 18446744073709551616) k = 0 := fun t k h => h
  rcases hc with rfl | rfl | rfl | rfl | rfl | rfl | rfl | rfl | rfl
  · simp only [Nat.sub_zero]
    rw [nul 8 0 (by simp only [Nat.reducePow]; omega), nul 8 1 (by simp only [Nat.reducePow]; omega), nul 8 2 (by simp only [Nat.reducePow]; omega), nul 8 3 (by simp only [Nat.reducePow]; omega), nul 8 4 (by simp only [Nat.reducePow]; omega), nul 8 5 (by simp only [Nat.reducePow]; omega), nul 8 6 (by simp only [Nat.reducePow]; omega), nul 8 7 (by simp only [Nat.reducePow]; omega)]
    simp [z]
  · simp only [Nat.reduceSub]
    rw [nul 7 0 (by simp only [Nat.reducePow]; omega), nul 7 1 (by simp only [Nat.reducePow]; omega), nul 7 2 (by simp only [Nat.reducePow]; omega), nul 7 3 (by simp only [Nat.reducePow]; omega), nul 7 4 (by simp only [Nat.reducePow]; omega), nul 7 5 (by simp only [Nat.reducePow]; omega), nul 7 6 (by simp only [Nat.reducePow]; omega), key 7 7 0 (by simp only [Nat.reducePow]; omega)]
    simp only [Nat.reduceLeDiff, if_false]; omega
  · simp only [Nat.reduceSub]
    rw [nul 6 0 (by simp only [Nat.reducePow]; omega), nul 6 1 (by simp only [Nat.reducePow]; omega), nul 6 2 (by simp only [Nat.reducePow]; omega), nul 6 3 (by simp only [Nat.reducePow]; omega), nul 6 4 (by simp only [Nat.reducePow]; omega), nul 6 5 (by simp only [Nat.reducePow]; omega), key 6 6 0 (by simp only [Nat.reducePow]; omega), key 6 7 1 (by simp only [Nat.reducePow]; omega)]
    simp only [Nat.reduceLeDiff, if_false]; omega
  · simp only [Nat.reduceSub]
    rw [nul 5 0 (by simp only [Nat.reducePow]; omega), nul 5 1 (by simp only [Nat.reducePow]; omega), nul 5 2 (by simp only [Nat.reducePow]; omega), nul 5 3 (by simp only [Nat.reducePow]; omega), nul 5 4 (by simp only [Nat.reducePow]; omega), key 5 5 0 (by simp only [Nat.reducePow]; omega), key 5 6 1 (by simp only [Nat.reducePow]; omega), key 5 7 2 (by simp only [Nat.reducePow]; omega)]
    simp only [Nat.reduceLeDiff, if_false]; omega
  · simp only [Nat.reduceSub]
    rw [nul 4 0 (by simp only [Nat.reducePow]; omega), nul 4 1 (by simp only [Nat.reducePow]; omega), nul 4 2 (by simp only [Nat.reducePow]; omega), nul 4 3 (by simp only [Nat.reducePow]; omega), key 4 4 0 (by simp only [Nat.reducePow]; omega), key 4 5 1 (by simp only [Nat.reducePow]; omega), key 4 6 2 (by simp only [Nat.reducePow]; omega), key 4 7 3 (by simp only [Nat.reducePow]; omega)]
    simp only [Nat.reduceLeDiff, if_false]; omega
  · simp only [Nat.reduceSub]
    rw [nul 3 0 (by simp only [Nat.reducePow]; omega), nul 3 1 (by simp only [Nat.reducePow]; omega), nul 3 2 (by simp only [Nat.reducePow]; omega), key 3 3 0 (by simp only [Nat.reducePow]; omega), key 3 4 1 (by simp only [Nat.reducePow]; omega), key 3 5 2 (by simp only [Nat.reducePow]; omega), key 3 6 3 (by simp only [Nat.reducePow]; omega), key 3 7 4 (by simp only [Nat.reducePow]; omega)]
    simp only [Nat.reduceLeDiff, if_false]; omega
  · simp only [Nat.reduceSub]
    rw [nul 2 0 (by simp only [Nat.reducePow]; omega), nul 2 1 (by simp only [Nat.reducePow]; omega), key 2 2 0 (by simp only [Nat.reducePow]; omega), key 2 3 1 (by simp only [Nat.reducePow]; omega), key 2 4 2 (by simp only [Nat.reducePow]; omega), key 2 5 3 (by simp only [Nat.reducePow]; omega), key 2 6 4 (by simp only [Nat.reducePow]; omega), key 2 7 5 (by simp only [Nat.reducePow]; omega)]
    simp only [Nat.reduceLeDiff, if_false]; omega
  · simp only [Nat.reduceSub]
    rw [nul 1 0 (by simp only [Nat.reducePow]; omega), key 1 1 0 (by simp only [Nat.reducePow]; omega), key 1 2 1 (by simp only [Nat.reducePow]; omega), key 1 3 2 (by simp only [Nat.reducePow]; omega), key 1 4 3 (by simp only [Nat.reducePow]; omega), key 1 5 4 (by simp only [Nat.reducePow]; omega), key 1 6 5 (by simp only [Nat.reducePow]; omega), key 1 7 6 (by simp only [Nat.reducePow]; omega)]
    simp only [Nat.reduceLeDiff, if_false]; omega
  · simp only [Nat.sub_self]
    rw [key 0 0 0 (by simp only [Nat.reducePow]; omega), key 0 1 1 (by simp only [Nat.reducePow]; omega), key 0 2 2 (by simp only [Nat.reducePow]; omega), key 0 3 3 (by simp only [Nat.reducePow]; omega), key 0 4 4 (by simp only [Nat.reducePow]; omega), key 0 5 5 (by simp only [Nat.reducePow]; omega), key 0 6 6 (by simp only [Nat.reducePow]; omega), key 0 7 7 (by simp only [Nat.reducePow]; omega)]
    omega
theorem cnt_tail (s : ByteArray) (c a m : Nat) (hc : c < 256) (hm : m ≤ 8) : cntL s c (a + m) = cntL s c a + onesL (equalL (ldL s a) (spreadL c) * 256 ^ (8 - m) % 18446744073709551616) := by
  rw [ones_shift _ m hm (equalL_lt _ _), onesTo_cnt s c a hc m hm]

/-! ### bytes of two words together -/
theorem cut_and (n : Nat) : ∀ (a b : Nat), cut n (a &&& b) = List.zipWith (· &&& ·) (cut n a) (cut n b) := by
  induction n with
  | zero => intro a b; rfl
  | succ n ih =>
    intro a b
    have ea : a = a % 256 + 256 * (a / 256) := by omega
    have eb : b = b % 256 + 256 * (b / 256) := by omega
    have h := and_lane (a % 256) (b % 256) (a / 256) (b / 256) (by omega) (by omega)
    rw [← ea, ← eb] at h
    have hlt : a % 256 &&& b % 256 < 256 := Nat.lt_of_le_of_lt Nat.and_le_left (by omega)
    simp only [cut, List.zipWith_cons_cons]
    rw [← ih]
    congr 1 <;> (try congr 1) <;> omega
theorem byt_and (a b j : Nat) (hj : j < 8) : byt (a &&& b) j = byt a j &&& byt b j := by
  have h := cut_get 8 (a &&& b) j hj
  rw [cut_and, List.getElem?_zipWith, cut_get 8 a j hj, cut_get 8 b j hj] at h
  simp only [Option.some.injEq] at h
  exact h.symm
theorem byt_xor (a b j : Nat) (hj : j < 8) : byt (a ^^^ b) j = byt a j ^^^ byt b j := by
  have h := cut_get 8 (a ^^^ b) j hj
  rw [cut_xor, List.getElem?_zipWith, cut_get 8 a j hj, cut_get 8 b j hj] at h
  simp only [Option.some.injEq] at h
  exact h.symm

/-! ### pairs -/
def pairL (s : ByteArray) (x y g f : Nat) : Int := fnd (fun p => bt s p == x && bt s (p + g) == y) f (s.size - g - f)
def phitL (s : ByteArray) (x y g a : Nat) : Nat := firstL (equalL (ldL s a) (spreadL x) &&& equalL (ldL s ((a + g : Nat) : Int)) (spreadL y))
theorem pmark_iff (s : ByteArray) (x y g a j : Nat) (hx : x < 256) (hy : y < 256) (hj : j < 8) :
    128 ≤ byt (equalL (ldL s a) (spreadL x) &&& equalL (ldL s ((a + g : Nat) : Int)) (spreadL y)) j ↔ bt s (a + j) = x ∧ bt s (a + j + g) = y := by
  have h1 := mark_iff s x a j hx hj
  have h2 := mark_iff s y (a + g) j hy hj
  rw [byt_and _ _ _ hj]
  rw [byt_equal _ _ _ hj] at h1 h2 ⊢
  rw [byt_equal _ _ _ hj]
  rw [show a + g + j = a + j + g by omega] at h2
  rw [← h1, ← h2]
  generalize byt (ldL s ↑a) j = p
  generalize byt (spreadL x) j = q
  generalize byt (ldL s ((a + g : Nat) : Int)) j = r
  generalize byt (spreadL y) j = t
  by_cases e1 : p = q
  · by_cases e2 : r = t
    · simp [e1, e2]
    · simp [e1, e2]
  · simp [e1]
theorem phit_le (s : ByteArray) (x y g a : Nat) : phitL s x y g a ≤ 8 := firstL_le _
theorem phit_miss (s : ByteArray) (x y g a : Nat) (hx : x < 256) (hy : y < 256) (j : Nat) (hj : j < phitL s x y g a) : (bt s (a + j) == x && bt s (a + j + g) == y) = false := by
  have h8 := phit_le s x y g a
  have h := (firstL_spec (equalL (ldL s a) (spreadL x) &&& equalL (ldL s ((a + g : Nat) : Int)) (spreadL y))).2.1 j hj
  rw [Bool.eq_false_iff]
  intro e
  simp only [Bool.and_eq_true, beq_iff_eq] at e
  have := (pmark_iff s x y g a j hx hy (by omega)).2 e
  omega
theorem phit_found (s : ByteArray) (x y g a : Nat) (hx : x < 256) (hy : y < 256) (h : phitL s x y g a < 8) : bt s (a + phitL s x y g a) = x ∧ bt s (a + phitL s x y g a + g) = y :=
  (pmark_iff s x y g a _ hx hy h).1 ((firstL_spec _).2.2 h)
theorem pair_found (s : ByteArray) (x y g a : Nat) (hx : x < 256) (hy : y < 256) (h8 : phitL s x y g a < 8) (hn : a + phitL s x y g a + g < s.size) : pairL s x y g a = ((a + phitL s x y g a : Nat) : Int) := by
  unfold pairL
  rw [fnd_skip _ (phitL s x y g a) a _ (by omega) (fun i hi => phit_miss s x y g a hx hy i hi)]
  refine fnd_hit _ _ _ (by omega) ?_
  have := phit_found s x y g a hx hy h8
  simp only [Bool.and_eq_true, beq_iff_eq]
  exact this
theorem pair_next (s : ByteArray) (x y g a : Nat) (hx : x < 256) (hy : y < 256) (ha : a + g < s.size) (h : ¬ (phitL s x y g a < 8 ∧ a + phitL s x y g a + g < s.size)) : pairL s x y g a = pairL s x y g (a + 8) := by
  unfold pairL
  have miss : ∀ i, i < 8 → a + i + g < s.size → (bt s (a + i) == x && bt s (a + i + g) == y) = false := by
    intro i hi hn
    by_cases hh : i < phitL s x y g a
    · exact phit_miss s x y g a hx hy i hh
    · exfalso
      exact h ⟨by omega, by omega⟩
  by_cases h8 : a + 8 + g ≤ s.size
  · rw [fnd_skip _ 8 a _ (by omega) (fun i hi => miss i hi (by omega))]
    congr 1
  · rw [fnd_none _ a _ (fun i hi => miss i (by omega) (by omega)), show s.size - g - (a + 8) = 0 by omega]
    rfl
theorem pair_out (s : ByteArray) (x y g a : Nat) (h : s.size ≤ a + g) : pairL s x y g a = -1 := by
  unfold pairL; rw [show s.size - g - a = 0 by omega]; rfl
theorem pair_step (s : ByteArray) (x y g a : Nat) (h : a + g < s.size) : pairL s x y g a = if bt s a = x ∧ bt s (a + g) = y then (a : Int) else pairL s x y g (a + 1) := by
  unfold pairL
  obtain ⟨m, hm⟩ : ∃ m, s.size - g - a = m + 1 := ⟨s.size - g - a - 1, by omega⟩
  rw [hm, show s.size - g - (a + 1) = m by omega]
  by_cases hb : bt s a = x <;> by_cases hc : bt s (a + g) = y <;> simp [fnd, hb, hc]

/-! ### what two texts have in common -/
/-- how far it is so, of so many places from one on -/
def far (P : Nat → Bool) : Nat → Nat → Nat
  | f, 0 => f
  | f, k + 1 => if P f then far P (f + 1) k else f
theorem far_skip (P : Nat → Bool) : ∀ (j f k : Nat), j ≤ k → (∀ i, i < j → P (f + i) = true) → far P f k = far P (f + j) (k - j)
  | 0, f, k, _, _ => by simp
  | j + 1, f, k, hk, h => by
      obtain ⟨m, rfl⟩ : ∃ m, k = m + 1 := ⟨k - 1, by omega⟩
      have h0 := h 0 (by omega)
      simp only [Nat.add_zero] at h0
      have ih := far_skip P j (f + 1) m (by omega) (fun i hi => by
        have := h (i + 1) (by omega)
        rwa [show f + (i + 1) = f + 1 + i by omega] at this)
      simp only [far, h0, if_true]
      rw [show f + (j + 1) = f + 1 + j by omega, show m + 1 - (j + 1) = m - j by omega, ← ih]
theorem far_stop (P : Nat → Bool) (f k : Nat) (h : P f = false) : far P f k = f := by
  cases k <;> simp [far, h]
theorem far_all (P : Nat → Bool) (f k : Nat) (h : ∀ i, i < k → P (f + i) = true) : far P f k = f + k := by
  rw [far_skip P k f k (Nat.le_refl _) h]
  simp [far]
theorem far_spec (P : Nat → Bool) : ∀ (k f : Nat), f ≤ far P f k ∧ far P f k ≤ f + k ∧ (∀ i, f ≤ i → i < far P f k → P i = true) ∧ (far P f k < f + k → P (far P f k) = false)
  | 0, f => ⟨by simp [far], by simp [far], fun i h1 h2 => by simp [far] at h2; omega, fun h => by simp [far] at h⟩
  | k + 1, f => by
      by_cases h : P f = true
      · have ih := far_spec P k (f + 1)
        have e : far P f (k + 1) = far P (f + 1) k := by simp [far, h]
        rw [e]
        refine ⟨by omega, by omega, fun i h1 h2 => ?_, fun h2 => ih.2.2.2 (by omega)⟩
        by_cases hi : i = f
        · subst hi; exact h
        · exact ih.2.2.1 i (by omega) h2
      · have h' : P f = false := by simpa using h
        have e : far P f (k + 1) = f := by simp [far, h']
        rw [e]
        exact ⟨by omega, by omega, fun i h1 h2 => by omega, fun _ => h'⟩
def comL (a b : ByteArray) : Nat := far (fun p => bt a p == bt b p) 0 (min a.size b.size)
theorem com_le (a b : ByteArray) : comL a b ≤ a.size ∧ comL a b ≤ b.size := by
  have := (far_spec (fun p => bt a p == bt b p) (min a.size b.size) 0).2.1
  unfold comL; omega
theorem tz_low : ∀ (k n y : Nat), y % 2 ^ k ≠ 0 → tz (k + n) y < k
  | 0, n, y, h => by simp [Nat.mod_one] at h
  | k + 1, n, y, h => by
      rw [show k + 1 + n = (k + n) + 1 by omega]
      by_cases hy : y % 2 = 1
      · simp [tz, hy]
      · simp only [tz, hy, if_false]
        have h2 : y / 2 % 2 ^ k ≠ 0 := by
          intro e
          apply h
          obtain ⟨q, hq⟩ : ∃ q, y = 2 * q := ⟨y / 2, by omega⟩
          subst hq
          rw [show 2 * q / 2 = q by omega] at e
          rw [Nat.pow_succ, Nat.mul_comm (2 ^ k) 2, Nat.mul_mod_mul_left, e]
        have ih := tz_low k n (y / 2) h2
        omega
theorem tz_byte (x t : Nat) (ht : t < 8) (h0 : x % 256 ^ t = 0) (h1 : byt x t ≠ 0) : tz 64 x / 8 = t := by
  have e : x = 2 ^ (8 * t) * (x / 256 ^ t) := by
    rw [Nat.pow_mul, show (2 : Nat) ^ 8 = 256 by decide]
    exact (Nat.mul_div_cancel' (Nat.dvd_of_mod_eq_zero h0)).symm
  have e2 : (64 : Nat) = 8 * t + (64 - 8 * t) := by omega
  have h2 := tz_up (8 * t) (64 - 8 * t) (x / 256 ^ t)
  rw [← e, ← e2] at h2
  have h3 := tz_low 8 (56 - 8 * t) (x / 256 ^ t) (by simpa [byt] using h1)
  rw [show 8 + (56 - 8 * t) = 64 - 8 * t by omega] at h3
  omega
theorem byt_zero_mod (x t : Nat) (ht : t ≤ 8) (h : ∀ i, i < t → byt x i = 0) : x % 256 ^ t = 0 := by
  induction t with
  | zero => simp [Nat.mod_one]
  | succ t ih =>
    have h1 := ih (by omega) (fun i hi => h i (by omega))
    have h2 := h t (by omega)
    unfold byt at h2
    rw [Nat.pow_succ, Nat.mod_mul, h1, h2]
    simp
/-- the first byte in which two words differ -/
theorem differ_first (a b t : Nat) (ht : t < 8) (h0 : ∀ i, i < t → byt a i = byt b i) (h1 : byt a t ≠ byt b t) : tz 64 (a ^^^ b) / 8 = t := by
  refine tz_byte _ t ht (byt_zero_mod _ t (by omega) (fun i hi => ?_)) ?_
  · rw [byt_xor _ _ _ (by omega), h0 i hi]; simp
  · rw [byt_xor _ _ _ ht]
    intro e
    exact h1 ((xor_zero_iff _ _).1 e)
/-- either the words are one, or there is such a byte -/
theorem differ_some (a b : Nat) (ha : a < 18446744073709551616) (hb : b < 18446744073709551616) : a ^^^ b = 0 ∧ (∀ i, i < 8 → byt a i = byt b i) ∨ a ^^^ b ≠ 0 ∧ tz 64 (a ^^^ b) / 8 < 8 ∧ (∀ i, i < tz 64 (a ^^^ b) / 8 → byt a i = byt b i) ∧ byt a (tz 64 (a ^^^ b) / 8) ≠ byt b (tz 64 (a ^^^ b) / 8) := by
  by_cases h : ∀ i, i < 8 → byt a i = byt b i
  · have e := word_ext a b ha hb h
    subst e
    exact .inl ⟨by simp, h⟩
  · have s := far_spec (fun i => byt a i == byt b i) 8 0
    generalize far (fun i => byt a i == byt b i) 0 8 = t at s
    have h8 : t < 8 := by
      by_cases h8 : t < 8
      · exact h8
      · exfalso
        exact h (fun i hi => by simpa using s.2.2.1 i (by omega) (by omega))
    have d1 : byt a t ≠ byt b t := by simpa using s.2.2.2 (by omega)
    have d0 : ∀ i, i < t → byt a i = byt b i := fun i hi => by simpa using s.2.2.1 i (by omega) hi
    have e := differ_first a b t h8 d0 d1
    rw [e]
    refine .inr ⟨?_, h8, d0, d1⟩
    intro z
    exact d1 (by rw [(xor_zero_iff _ _).1 z])
theorem com_word (a b : ByteArray) (p : Nat) (hp : p < min a.size b.size) (h : far (fun p => bt a p == bt b p) 0 (min a.size b.size) = far (fun p => bt a p == bt b p) p (min a.size b.size - p)) :
    (ldL a p ^^^ ldL b p = 0 ∧ far (fun p => bt a p == bt b p) 0 (min a.size b.size) = far (fun p => bt a p == bt b p) (p + 8) (min a.size b.size - (p + 8)) ∨ p + 8 > min a.size b.size ∧ ldL a p ^^^ ldL b p = 0 ∧ comL a b = min a.size b.size) ∨
    ldL a p ^^^ ldL b p ≠ 0 ∧ tz 64 (ldL a p ^^^ ldL b p) / 8 < 8 ∧ comL a b = min (p + tz 64 (ldL a p ^^^ ldL b p) / 8) (min a.size b.size) := by
  have hb : ∀ (s : ByteArray) i, i < 8 → byt (ldL s p) i = bt s (p + i) := fun s i hi => by
    rw [byt_ldL s p i hi, show ((p : Int) + (i : Int)) = ((p + i : Nat) : Int) by omega, cell_nat]
  rcases differ_some (ldL a p) (ldL b p) (ldL_lt _ _) (ldL_lt _ _) with ⟨h0, hall⟩ | ⟨h0, h8, hlt, hne⟩
  · left
    by_cases hp8 : p + 8 ≤ min a.size b.size
    · left
      refine ⟨h0, ?_⟩
      rw [h, far_skip _ 8 p _ (by omega) (fun i hi => by have := hall i hi; rw [hb a i hi, hb b i hi] at this; simpa using this)]
      congr 1
    · right
      refine ⟨by omega, h0, ?_⟩
      unfold comL
      rw [h, far_all _ p _ (fun i hi => by have := hall i (by omega); rw [hb a i (by omega), hb b i (by omega)] at this; simpa using this)]
      omega
  · right
    refine ⟨h0, h8, ?_⟩
    generalize tz 64 (ldL a p ^^^ ldL b p) / 8 = t at *
    unfold comL
    rw [h]
    by_cases ht : p + t < min a.size b.size
    · rw [far_skip _ t p _ (by omega) (fun i hi => by have := hlt i hi; rw [hb a i (by omega), hb b i (by omega)] at this; simpa using this), far_stop _ _ _ (by rw [hb a t h8, hb b t h8] at hne; simpa using hne)]
      omega
    · rw [far_all _ p _ (fun i hi => by have := hlt i (by omega); rw [hb a i (by omega), hb b i (by omega)] at this; simpa using this)]
      omega
end Swar

namespace Swar
/-- -1, 0 or 1: who comes ahead -/
def cmpL (a b : ByteArray) : Int :=
  if comL a b = a.size ∧ comL a b = b.size then 0
  else if comL a b = a.size then -1
  else if comL a b = b.size then 1
  else if bt a (comL a b) < bt b (comL a b) then -1 else 1
theorem com_spec (a b : ByteArray) : comL a b ≤ a.size ∧ comL a b ≤ b.size ∧ (∀ i, i < comL a b → bt a i = bt b i) ∧ (comL a b < a.size → comL a b < b.size → bt a (comL a b) ≠ bt b (comL a b)) := by
  have h := far_spec (fun p => bt a p == bt b p) (min a.size b.size) 0
  have hl := com_le a b
  refine ⟨hl.1, hl.2, fun i hi => ?_, fun h1 h2 => ?_⟩
  · simpa using h.2.2.1 i (by omega) hi
  · have := h.2.2.2 (show _ < 0 + min a.size b.size by unfold comL at h1 h2; omega)
    simpa [comL] using this
theorem com_of (a b : ByteArray) (n : Nat) (h1 : n ≤ a.size) (h2 : n ≤ b.size) (h3 : ∀ i, i < n → bt a i = bt b i) (h4 : n < a.size → n < b.size → bt a n ≠ bt b n) : comL a b = n := by
  have s := com_spec a b
  rcases Nat.lt_trichotomy (comL a b) n with h | h | h
  · exfalso; exact s.2.2.2 (by omega) (by omega) (h3 _ h)
  · exact h
  · exfalso; exact h4 (by omega) (by omega) (s.2.2.1 _ h)
theorem com_swap (a b : ByteArray) : comL b a = comL a b := by
  have s := com_spec a b
  exact com_of b a _ s.2.1 s.1 (fun i hi => (s.2.2.1 i hi).symm) (fun h1 h2 h => s.2.2.2 h2 h1 h.symm)
theorem cmp_swap (a b : ByteArray) : cmpL b a = - cmpL a b := by
  have s := com_spec a b
  unfold cmpL
  rw [com_swap a b]
  generalize comL a b = n at *
  by_cases h1 : n = a.size <;> by_cases h2 : n = b.size
  · rw [if_pos ⟨h2, h1⟩, if_pos ⟨h1, h2⟩]; rfl
  · rw [if_neg (fun h => h2 h.1), if_neg h2, if_pos h1, if_neg (fun h => h2 h.2), if_pos h1]; rfl
  · rw [if_neg (fun h => h1 h.2), if_pos h2, if_neg (fun h => h1 h.1), if_neg h1, if_pos h2]
  · have hne := s.2.2.2 (by omega) (by omega)
    simp only [h1, h2, false_and, if_false]
    by_cases h3 : bt a n < bt b n
    · have h4 : ¬ bt b n < bt a n := by omega
      simp [h3, h4]
    · have h4 : bt b n < bt a n := by omega
      simp [h3, h4]
theorem cmp_bounds (a b : ByteArray) : cmpL a b = -1 ∨ cmpL a b = 0 ∨ cmpL a b = 1 := by
  unfold cmpL
  split
  · exact .inr (.inl rfl)
  · split
    · exact .inl rfl
    · split
      · exact .inr (.inr rfl)
      · split
        · exact .inl rfl
        · exact .inr (.inr rfl)
theorem bt_app (s t : ByteArray) (i : Nat) : bt (s ++ t) i = if i < s.size then bt s i else bt t (i - s.size) := by
  split
  · rename_i h
    rw [bt_in (i := i) (by simp; omega), bt_in h, ByteArray.getElem_append_left h]
  · rename_i h
    by_cases h2 : i - s.size < t.size
    · rw [bt_in (i := i) (by simp; omega), bt_in h2, ByteArray.getElem_append_right (by omega)]
    · rw [bt_out (by simp; omega), bt_out (by omega)]
theorem com_app (c a b : ByteArray) : comL (c ++ a) (c ++ b) = c.size + comL a b := by
  have s := com_spec a b
  refine com_of _ _ _ (by simp; omega) (by simp; omega) (fun i hi => ?_) (fun h1 h2 => ?_)
  · rw [bt_app, bt_app]
    split
    · rfl
    · exact s.2.2.1 _ (by omega)
  · simp at h1 h2
    rw [bt_app, bt_app, if_neg (by omega), if_neg (by omega), Nat.add_sub_cancel_left]
    exact s.2.2.2 (by omega) (by omega)
theorem cmp_app (c a b : ByteArray) : cmpL (c ++ a) (c ++ b) = cmpL a b := by
  unfold cmpL
  rw [com_app]
  have e1 : (c ++ a).size = c.size + a.size := by simp
  have e2 : (c ++ b).size = c.size + b.size := by simp
  have e3 : bt (c ++ a) (c.size + comL a b) = bt a (comL a b) := by rw [bt_app, if_neg (by omega), Nat.add_sub_cancel_left]
  have e4 : bt (c ++ b) (c.size + comL a b) = bt b (comL a b) := by rw [bt_app, if_neg (by omega), Nat.add_sub_cancel_left]
  rw [e1, e2, e3, e4]
  simp only [Nat.add_left_cancel_iff]
theorem com_more (a t : ByteArray) : comL a (a ++ t) = a.size := by
  refine com_of _ _ _ (Nat.le_refl _) (by simp) (fun i hi => ?_) (fun h => by omega)
  rw [bt_app, if_pos hi]
theorem cmp_more (a t : ByteArray) (ht : 0 < t.size) : cmpL a (a ++ t) = -1 := by
  unfold cmpL
  rw [com_more]
  have e : (a ++ t).size = a.size + t.size := by simp
  rw [e, if_neg (by omega), if_pos rfl]
theorem ext_bt (a b : ByteArray) (h : a.size = b.size) (hb : ∀ i, i < a.size → bt a i = bt b i) : a = b := by
  apply ByteArray.ext
  apply Array.ext
  · simpa using h
  · intro i h1 h2
    have h1' : i < a.size := by simpa using h1
    have h2' : i < b.size := by simpa using h2
    have := hb i h1'
    rw [bt_in h1', bt_in h2'] at this
    exact UInt8.toNat_inj.1 this
theorem take_eq (a b : ByteArray) (n : Nat) (h1 : n ≤ a.size) (h2 : n ≤ b.size) (h : ∀ i, i < n → bt a i = bt b i) : a.extract 0 n = b.extract 0 n := by
  refine ext_bt _ _ (by simp; omega) (fun i hi => ?_)
  have hi' : i < n := by simp at hi; omega
  have e : ∀ (s : ByteArray), n ≤ s.size → bt (s.extract 0 n) i = bt s i := fun s hs => by
    have h1 : i < (s.extract 0 n).size := by simp; omega
    rw [bt_in h1, bt_in (show i < s.size by omega), ByteArray.getElem_extract]
    simp
  rw [e a h1, e b h2]
  exact h i hi'
end Swar

namespace Swar
/-- The texts are one but for capitals. -/
abbrev SameP (a b : ByteArray) : Prop := a.size = b.size ∧ ∀ i, i < a.size → small (bt a i) = small (bt b i)
def sameL (a b : ByteArray) : Bool := decide (SameP a b)
theorem byt_ext : ∀ n x y : Nat, x < 256 ^ n → y < 256 ^ n → (∀ j, j < n → byt x j = byt y j) → x = y := by
  intro n
  induction n with
  | zero => intro x y hx hy _; simp at hx hy; omega
  | succ n ih =>
    intro x y hx hy h
    have h0 := h 0 (by omega)
    have e : x / 256 = y / 256 := by
      refine ih _ _ ?_ ?_ (fun j hj => ?_)
      · rw [Nat.pow_succ] at hx; omega
      · rw [Nat.pow_succ] at hy; omega
      · have := h (j + 1) (by omega)
        unfold byt at this ⊢
        rw [Nat.pow_succ, Nat.mul_comm, ← Nat.div_div_eq_div_mul, ← Nat.div_div_eq_div_mul] at this
        exact this
    unfold byt at h0
    simp at h0
    omega
theorem byt_at (s : ByteArray) (p i : Nat) (hi : i < 8) : byt (ldL s p) i = bt s (p + i) := by
  rw [byt_ldL s p i hi, show ((p : Int) + (i : Int)) = ((p + i : Nat) : Int) by omega, cell_nat]
/-- Words of eight bytes made small are one just if the bytes are. -/
theorem low_word (a b : ByteArray) (p : Nat) : lowerL (ldL a p) = lowerL (ldL b p) ↔ ∀ i, i < 8 → small (bt a (p + i)) = small (bt b (p + i)) := by
  constructor
  · intro h i hi
    have := congrArg (fun v => byt v i) h
    simp only [byt_lower _ i hi, byt_at _ p i hi] at this
    exact this
  · intro h
    refine byt_ext 8 _ _ (lowerL_lt _) (lowerL_lt _) (fun j hj => ?_)
    rw [byt_lower _ j hj, byt_lower _ j hj, byt_at _ p j hj, byt_at _ p j hj]
    exact h j hj
theorem same_size (a b : ByteArray) (h : a.size ≠ b.size) : sameL a b = false := by
  unfold sameL; exact decide_eq_false (fun hs => h hs.1)
/-- one round: the words differ -/
theorem same_off (a b : ByteArray) (p : Nat) (hn : a.size = b.size) (hw : lowerL (ldL a p) ≠ lowerL (ldL b p)) : sameL a b = false := by
  unfold sameL
  refine decide_eq_false (fun hs => hw ((low_word a b p).2 fun i _ => ?_))
  by_cases h : p + i < a.size
  · exact hs.2 _ h
  · rw [bt_out (by omega), bt_out (by omega)]
def SameTo (a b : ByteArray) (p : Nat) : Prop := ∀ i, i < p → small (bt a i) = small (bt b i)
theorem same_on (a b : ByteArray) (p : Nat) (h : SameTo a b p) (hw : lowerL (ldL a p) = lowerL (ldL b p)) : SameTo a b (p + 8) := by
  intro i hi
  by_cases h1 : i < p
  · exact h i h1
  · have := (low_word a b p).1 hw (i - p) (by omega)
    rwa [show p + (i - p) = i by omega] at this
theorem same_end (a b : ByteArray) (p : Nat) (hn : a.size = b.size) (h : SameTo a b p) (hp : a.size ≤ p) : sameL a b = true := by
  unfold sameL
  exact decide_eq_true ⟨hn, fun i hi => h i (by omega)⟩
/-- The text made small. -/
def foldL (s : ByteArray) : ByteArray := ⟨s.data.map fun b => UInt8.ofNat (small b.toNat)⟩
theorem fold_size (s : ByteArray) : (foldL s).size = s.size := by
  show (s.data.map _).size = s.data.size
  simp
theorem bt_fold (s : ByteArray) (i : Nat) : bt (foldL s) i = small (bt s i) := by
  by_cases h : i < s.size
  · have h' : i < (foldL s).size := by rw [fold_size]; exact h
    rw [bt_in h, bt_in h']
    have hlt := small_lt s[i].toNat (by have := s[i].toNat_lt; omega)
    have e : (foldL s)[i] = UInt8.ofNat (small s[i].toNat) := by
      have hd : i < (s.data.map fun b => UInt8.ofNat (small b.toNat)).size := by simpa using h
      show (s.data.map fun b => UInt8.ofNat (small b.toNat))[i]'hd = UInt8.ofNat (small (s.data[i]'(by simpa using h)).toNat)
      exact Array.getElem_map ..
    rw [e]
    exact UInt8.toNat_ofNat_of_lt hlt
  · rw [bt_out (by rw [fold_size]; omega), bt_out (by omega)]; rfl
theorem fold_same (a b : ByteArray) : foldL a = foldL b ↔ SameP a b := by
  constructor
  · intro h
    refine ⟨by rw [← fold_size a, h, fold_size], fun i _ => ?_⟩
    rw [← bt_fold, h, bt_fold]
  · intro h
    refine ext_bt _ _ (by rw [fold_size, fold_size, h.1]) (fun i hi => ?_)
    rw [bt_fold, bt_fold]
    exact h.2 i (by rwa [fold_size] at hi)
theorem same_eq (a b : ByteArray) : sameL a b = decide (foldL a = foldL b) := by
  unfold sameL; exact decide_eq_decide.2 (fold_same a b).symm
end Swar


set_option linter.unusedVariables false
namespace Lit
open Swar
/-- a byte as it counts: with its case gone, or as it is -/
def cs (fold : Bool) (b : Nat) : Nat := if fold then small b else b
theorem cs_lt (fold : Bool) (b : Nat) (h : b < 256) : cs fold b < 256 := by
  unfold cs; split
  · exact small_lt b h
  · exact h
theorem small_small (b : Nat) : small (small b) = small b := by
  unfold small
  by_cases h : 65 ≤ b ∧ b ≤ 90
  · rw [if_pos h, if_neg (by omega)]
  · rw [if_neg h, if_neg h]
theorem cs_cs (fold : Bool) (b : Nat) : cs fold (cs fold b) = cs fold b := by
  unfold cs; split
  · exact small_small b
  · rfl
/-- the pattern stands at a place -/
abbrev St (fold : Bool) (p s : ByteArray) (k : Nat) : Prop := k + p.size ≤ s.size ∧ ∀ i, i < p.size → cs fold (bt s (k + i)) = cs fold (bt p i)
def stB (fold : Bool) (p s : ByteArray) (k : Nat) : Bool := decide (St fold p s k)
theorem stB_iff (fold : Bool) (p s : ByteArray) (k : Nat) : stB fold p s k = true ↔ St fold p s k := by unfold stB; exact decide_eq_true_iff
theorem stB_no (fold : Bool) (p s : ByteArray) (k : Nat) : stB fold p s k = false ↔ ¬ St fold p s k := by unfold stB; exact decide_eq_false_iff_not
/-- where it stands first, from a place on -/
def fndL (fold : Bool) (p s : ByteArray) (a : Nat) : Int := fnd (stB fold p s) a (s.size + 1 - a)
/-- the needle's own text: without capitals where case does not count -/
def ndl (fold : Bool) (p : ByteArray) : ByteArray := if fold then foldL p else p
theorem ndl_size (fold : Bool) (p : ByteArray) : (ndl fold p).size = p.size := by
  unfold ndl; split
  · exact fold_size p
  · rfl
theorem bt_ndl (fold : Bool) (p : ByteArray) (i : Nat) : bt (ndl fold p) i = cs fold (bt p i) := by
  unfold ndl cs; split
  · exact bt_fold p i
  · rfl
theorem st_ndl (fold : Bool) (p s : ByteArray) (k : Nat) : stB fold (ndl fold p) s k = stB fold p s k := by
  rw [Bool.eq_iff_iff, stB_iff, stB_iff]
  unfold St
  rw [ndl_size]
  simp only [bt_ndl, cs_cs]
theorem fndL_ndl (fold : Bool) (p s : ByteArray) (a : Nat) : fndL fold (ndl fold p) s a = fndL fold p s a := by
  unfold fndL
  exact fnd_congr _ _ _ _ (fun i _ => st_ndl fold p s (a + i))
theorem fndL_hit (fold : Bool) (p s : ByteArray) (a : Nat) (h : stB fold p s a = true) : fndL fold p s a = a := by
  unfold fndL
  have := (stB_iff fold p s a).1 h
  unfold St at this
  exact fnd_hit _ _ _ (by omega) h
theorem fndL_skip (fold : Bool) (p s : ByteArray) (a j : Nat) (h : ∀ i, i < j → stB fold p s (a + i) = false) : fndL fold p s a = fndL fold p s (a + j) := by
  unfold fndL
  by_cases hj : j ≤ s.size + 1 - a
  · rw [fnd_skip _ j a _ hj h, Nat.sub_sub]
  · rw [fnd_none _ _ _ (fun i hi => h i (by omega)), show s.size + 1 - (a + j) = 0 by omega]
    rfl
theorem fndL_out (fold : Bool) (p s : ByteArray) (a : Nat) (h : s.size < a + p.size) : fndL fold p s a = -1 := by
  unfold fndL
  refine fnd_none _ _ _ (fun i _ => ?_)
  rw [stB_no]
  unfold St
  omega
theorem fndL_spec (fold : Bool) (p s : ByteArray) (a : Nat) : (fndL fold p s a = -1 ∧ ∀ k, a ≤ k → stB fold p s k = false) ∨ ∃ k, a ≤ k ∧ fndL fold p s a = (k : Int) ∧ stB fold p s k = true ∧ ∀ j, a ≤ j → j < k → stB fold p s j = false := by
  unfold fndL
  rcases fnd_spec (stB fold p s) (s.size + 1 - a) a with ⟨h1, h2⟩ | ⟨i, h1, h2, h3, h4⟩
  · left
    refine ⟨h1, fun k hk => ?_⟩
    by_cases hl : k ≤ s.size
    · have := h2 (k - a) (by omega)
      rwa [show a + (k - a) = k by omega] at this
    · rw [stB_no]; unfold St; omega
  · right
    refine ⟨a + i, by omega, h2, h3, fun j hj hl => ?_⟩
    have := h4 (j - a) (by omega)
    rwa [show a + (j - a) = j by omega] at this
theorem fndL_of (fold : Bool) (p s : ByteArray) (a k : Nat) (hk : a ≤ k) (h : stB fold p s k = true) (hl : ∀ j, a ≤ j → j < k → stB fold p s j = false) : fndL fold p s a = (k : Int) := by
  rw [fndL_skip fold p s a (k - a) (fun i hi => hl _ (by omega) (by omega)), show a + (k - a) = k by omega]
  exact fndL_hit fold p s k h
theorem fndL_none (fold : Bool) (p s : ByteArray) (a : Nat) (h : ∀ k, a ≤ k → stB fold p s k = false) : fndL fold p s a = -1 := by
  unfold fndL
  exact fnd_none _ _ _ (fun i _ => h _ (by omega))
theorem fndL_bounds (fold : Bool) (p s : ByteArray) (a : Nat) : -1 ≤ fndL fold p s a ∧ fndL fold p s a ≤ (s.size : Int) ∧ (0 ≤ fndL fold p s a → (a : Int) ≤ fndL fold p s a ∧ fndL fold p s a + (p.size : Int) ≤ (s.size : Int)) := by
  rcases fndL_spec fold p s a with ⟨h1, _⟩ | ⟨k, h1, h2, h3, _⟩
  · omega
  · have := (stB_iff fold p s k).1 h3
    unfold St at this
    omega
/-- all places -/
def plc (fold : Bool) (p s : ByteArray) : List Nat := (List.range (s.size + 1)).filter (stB fold p s)
/-- all places from one on, with fuel -/
def plcF (fold : Bool) (p s : ByteArray) : Nat → Nat → List Nat
  | 0, _ => []
  | f + 1, a => if 0 ≤ fndL fold p s a then (fndL fold p s a).toNat :: plcF fold p s f ((fndL fold p s a).toNat + 1) else []
end Lit


set_option linter.unusedVariables false
namespace Lit
open Swar
/-- the marks from a byte on -/
def mkl (f : Nat → Bool) (j : Nat) : List Nat := (List.range 8).map fun i => if j ≤ i ∧ f i = true then 128 else 0
def mkw (f : Nat → Bool) (j : Nat) : Nat := jn (mkl f j)
theorem mkl_len (f : Nat → Bool) (j : Nat) : (mkl f j).length = 8 := by simp [mkl]
theorem mkl_byt (f : Nat → Bool) (j : Nat) : Byt (mkl f j) := by
  intro b hb
  obtain ⟨i, _, rfl⟩ := List.mem_map.1 hb
  split <;> omega
theorem mkl_get (f : Nat → Bool) (j i : Nat) (hi : i < 8) : (mkl f j)[i]? = some (if j ≤ i ∧ f i = true then 128 else 0) := by
  simp [mkl, hi]
theorem byt_mkw (f : Nat → Bool) (j i : Nat) (hi : i < 8) : byt (mkw f j) i = if j ≤ i ∧ f i = true then 128 else 0 := by
  have h := byt_jn (mkl f j) (mkl_len f j) (mkl_byt f j) i hi
  rw [mkl_get f j i hi] at h
  exact (Option.some.inj h).symm
theorem mkw_lt (f : Nat → Bool) (j : Nat) : mkw f j < 18446744073709551616 := jn_lt8 _ (mkl_len f j) (mkl_byt f j)
theorem mkw_of (m : Nat) (f : Nat → Bool) (hm : m < 18446744073709551616) (h : ∀ i, i < 8 → byt m i = if f i = true then 128 else 0) : m = mkw f 0 := by
  refine word_ext _ _ hm (mkw_lt f 0) (fun i hi => ?_)
  rw [h i hi, byt_mkw f 0 i hi]
  simp
theorem jn_clear : ∀ l : List Nat, (∀ b ∈ l, b = 0 ∨ b = 128) → jn l ≠ 0 → l.findIdx (fun b => decide (128 ≤ b)) < l.length ∧ jn l &&& (jn l - 1) = jn (l.set (l.findIdx (fun b => decide (128 ≤ b))) 0)
  | [], _, h => by simp [jn] at h
  | b :: l, hb, h => by
    have hl : ∀ x ∈ l, x = 0 ∨ x = 128 := fun x hx => hb x (List.mem_cons_of_mem _ hx)
    rcases hb b (List.mem_cons_self ..) with rfl | rfl
    · have h0 : jn l ≠ 0 := by intro e; apply h; simp [jn, e]
      obtain ⟨i1, i2⟩ := jn_clear l hl h0
      rw [List.findIdx_cons]
      simp only [show (decide (128 ≤ 0)) = false from rfl, cond_false, List.length_cons, List.set_cons_succ]
      refine ⟨by omega, ?_⟩
      show (0 + 256 * jn l) &&& (0 + 256 * jn l - 1) = 0 + 256 * jn _
      rw [show 0 + 256 * jn l - 1 = 255 + 256 * (jn l - 1) by omega, and_lane _ _ _ _ (by omega) (by omega), i2]
      simp
    · rw [List.findIdx_cons]
      simp only [show (decide (128 ≤ 128)) = true from rfl, cond_true, List.length_cons, List.set_cons_zero]
      refine ⟨by omega, ?_⟩
      show (128 + 256 * jn l) &&& (128 + 256 * jn l - 1) = 0 + 256 * jn l
      rw [show 128 + 256 * jn l - 1 = 127 + 256 * jn l by omega, and_lane _ _ _ _ (by omega) (by omega), Nat.and_self]
      rfl
theorem first_jn (l : List Nat) (hl : l.length = 8) (hb : Byt l) : firstL (jn l) = l.findIdx (fun b => decide (128 ≤ b)) := by
  unfold firstL
  have := cut_jn l hb
  rw [hl] at this
  rw [this]
theorem mkl_set (f : Nat → Bool) (j t : Nat) (i1 : t < 8) (hno : ∀ i, j ≤ i → i < t → f i = false) (hj : j ≤ t) : (mkl f j).set t 0 = mkl f (t + 1) := by
  apply List.ext_getElem?
  intro i
  by_cases hi : i < 8
  · rw [mkl_get f (t + 1) i hi, List.getElem?_set]
    by_cases e : t = i
    · subst e
      rw [if_pos rfl, if_pos (by rw [mkl_len]; exact hi), if_neg (by omega)]
    · rw [if_neg e, mkl_get f j i hi]
      by_cases hlt : i < t
      · rw [if_neg (by omega : ¬ (t + 1 ≤ i ∧ f i = true))]
        by_cases hji : j ≤ i
        · rw [if_neg (by rw [hno i hji hlt]; simp)]
        · rw [if_neg (by omega)]
      · have h1 : j ≤ i := by omega
        have h2 : t + 1 ≤ i := by omega
        simp [h1, h2]
  · rw [List.getElem?_eq_none (by rw [List.length_set, mkl_len]; omega), List.getElem?_eq_none (by rw [mkl_len]; omega)]
theorem mkw_step (f : Nat → Bool) (j : Nat) (h : mkw f j ≠ 0) :
    ∃ t, firstL (mkw f j) = t ∧ t < 8 ∧ j ≤ t ∧ f t = true ∧ (∀ i, j ≤ i → i < t → f i = false) ∧ mkw f j &&& (mkw f j - 1) = mkw f (t + 1) := by
  have h01 : ∀ b ∈ mkl f j, b = 0 ∨ b = 128 := by
    intro b hb
    obtain ⟨i, _, rfl⟩ := List.mem_map.1 hb
    split <;> omega
  obtain ⟨i1, i2⟩ := jn_clear (mkl f j) h01 h
  have hf := first_jn (mkl f j) (mkl_len f j) (mkl_byt f j)
  rw [show jn (mkl f j) = mkw f j from rfl] at hf i2
  rw [← hf] at i1 i2
  have hs := firstL_spec (mkw f j)
  obtain ⟨t, ht⟩ : ∃ t, firstL (mkw f j) = t := ⟨_, rfl⟩
  rw [ht] at i1 i2 hs
  rw [mkl_len] at i1
  have hb := hs.2.2 i1
  rw [byt_mkw f j t i1] at hb
  have hjt : j ≤ t ∧ f t = true := by
    by_cases hc : j ≤ t ∧ f t = true
    · exact hc
    · rw [if_neg hc] at hb; omega
  have hno : ∀ i, j ≤ i → i < t → f i = false := by
    intro i h1 h2
    have hc := hs.2.1 i h2
    rw [byt_mkw f j i (by omega)] at hc
    cases hfi : f i with
    | false => rfl
    | true => rw [if_pos ⟨h1, hfi⟩] at hc; omega
  refine ⟨t, ht, i1, hjt.1, hjt.2, hno, ?_⟩
  exact i2.trans (by rw [mkl_set f j t i1 hno hjt.1]; rfl)
theorem mkw_zero (f : Nat → Bool) (j : Nat) (h : mkw f j = 0) (i : Nat) (hi : i < 8) (hj : j ≤ i) : f i = false := by
  have hb := byt_mkw f j i hi
  rw [h] at hb
  cases hf : f i with
  | false => rfl
  | true => rw [if_pos ⟨hj, hf⟩] at hb; simp [byt] at hb
/-- the text of a pattern's length is the pattern -/
def isL (fold : Bool) (p t : ByteArray) : Bool := if fold then sameL t p else decide (t = p)
theorem bt_cut (s : ByteArray) (a b i : Nat) (h : b ≤ s.size) (hi : a + i < b) : bt (s.extract a b) i = bt s (a + i) := by
  have h1 : i < (s.extract a b).size := by rw [ByteArray.size_extract]; omega
  rw [bt_in h1, bt_in (by omega), ByteArray.getElem_extract]
theorem is_st (fold : Bool) (p s : ByteArray) (k : Nat) (hk : k + p.size ≤ s.size) : isL fold p (s.extract k (k + p.size)) = stB fold p s k := by
  have hz : (s.extract k (k + p.size)).size = p.size := by rw [ByteArray.size_extract]; omega
  rw [Bool.eq_iff_iff, stB_iff]
  unfold isL St
  cases fold with
  | true =>
    simp only [if_pos]
    unfold sameL
    rw [decide_eq_true_iff]
    constructor
    · intro h
      refine ⟨hk, fun i hi => ?_⟩
      have := h.2 i (by omega)
      rw [bt_cut s k _ i hk (by omega)] at this
      exact this
    · intro h
      refine ⟨hz, fun i hi => ?_⟩
      rw [bt_cut s k _ i hk (by omega)]
      exact h.2 i (by omega)
  | false =>
    simp only [Bool.false_eq_true, if_false, decide_eq_true_iff]
    constructor
    · intro h
      refine ⟨hk, fun i hi => ?_⟩
      show bt s (k + i) = bt p i
      rw [← bt_cut s k _ i hk (by omega), h]
    · intro h
      refine ext_bt _ _ hz (fun i hi => ?_)
      rw [bt_cut s k _ i hk (by omega)]
      exact h.2 i (by omega)
/-- a byte's second form -/
def fm2 (fold : Bool) (c : Nat) : Nat := if fold = true ∧ 97 ≤ c ∧ c ≤ 122 then c - 97 + 65 else c
theorem fm2_lt (fold : Bool) (c : Nat) (h : c < 256) : fm2 fold c < 256 := by unfold fm2; split <;> omega
theorem fm_iff (fold : Bool) (c b : Nat) (hc : cs fold c = c) : (b = c ∨ b = fm2 fold c) ↔ cs fold b = c := by
  unfold cs fm2 small at *
  cases fold with
  | false => simp
  | true =>
    simp only [if_true, true_and] at *
    by_cases h : 65 ≤ c ∧ c ≤ 90
    · rw [if_pos h] at hc; omega
    · by_cases h1 : 65 ≤ b ∧ b ≤ 90
      · rw [if_pos h1]
        by_cases h2 : 97 ≤ c ∧ c ≤ 122
        · rw [if_pos h2]; omega
        · rw [if_neg h2]; omega
      · rw [if_neg h1]
        by_cases h2 : 97 ≤ c ∧ c ≤ 122
        · rw [if_pos h2]; omega
        · rw [if_neg h2]; omega
/-- the table of jumps behind so many bytes of the pattern -/
def jmT (fold : Bool) (p : ByteArray) : Nat → Nat → Nat
  | 0, _ => p.size
  | k + 1, b => if cs fold b = cs fold (bt p k) then p.size - 1 - k else jmT fold p k b
theorem jmT_le (fold : Bool) (p : ByteArray) : ∀ K b, jmT fold p K b ≤ p.size
  | 0, b => Nat.le_refl _
  | k + 1, b => by
    have := jmT_le fold p k b
    unfold jmT
    split <;> omega
theorem jmT_pos (fold : Bool) (p : ByteArray) : ∀ K b, K + 1 ≤ p.size → 1 ≤ jmT fold p K b
  | 0, b, h => by unfold jmT; omega
  | k + 1, b, h => by
    have := jmT_pos fold p k b (by omega)
    unfold jmT
    split <;> omega
theorem jmT_hit (fold : Bool) (p : ByteArray) : ∀ K b k, k < K → cs fold b = cs fold (bt p k) → jmT fold p K b ≤ p.size - 1 - k
  | 0, b, k, h, _ => by omega
  | K + 1, b, k, h, hc => by
    unfold jmT
    by_cases e : cs fold b = cs fold (bt p K)
    · rw [if_pos e]; omega
    · rw [if_neg e]
      have hk : k ≠ K := by intro e2; exact e (by rw [← e2]; exact hc)
      exact jmT_hit fold p K b k (by omega) hc
theorem jump_on (fold : Bool) (p s : ByteArray) (e : Nat) (hm : 1 ≤ p.size) (he : p.size ≤ e) (hn : e ≤ s.size) (h0 : stB fold p s (e - p.size) = false) :
    fndL fold p s (e - p.size) = fndL fold p s (e + jmT fold p (p.size - 1) (bt s (e - 1)) - p.size) := by
  have hle := jmT_le fold p (p.size - 1) (bt s (e - 1))
  obtain ⟨d, hd⟩ : ∃ d, jmT fold p (p.size - 1) (bt s (e - 1)) = d := ⟨_, rfl⟩
  rw [hd] at hle
  rw [fndL_skip fold p s (e - p.size) d ?_, hd, show e + d - p.size = e - p.size + d by omega]
  intro i hi
  by_cases hz : i = 0
  · subst hz; exact h0
  · rw [stB_no]
    intro hst
    unfold St at hst
    have h1 := hst.2 (p.size - 1 - i) (by omega)
    rw [show e - p.size + i + (p.size - 1 - i) = e - 1 by omega] at h1
    have h2 := jmT_hit fold p (p.size - 1) (bt s (e - 1)) (p.size - 1 - i) (by omega) h1
    omega
end Lit

set_option linter.unusedVariables false
namespace Lit
open Swar
/-- of a byte: where it stands in the pattern, a bit each -/
def hsT (fold : Bool) (q : ByteArray) : Nat → Nat → Nat
  | 0, _ => 0
  | k + 1, b => if cs fold b = cs fold (bt q k) then hsT fold q k b ||| 2 ^ k else hsT fold q k b
theorem hsT_lt (fold : Bool) (q : ByteArray) : ∀ K b, hsT fold q K b < 2 ^ K
  | 0, b => by unfold hsT; omega
  | k + 1, b => by
    have h := hsT_lt fold q k b
    have h2 : 2 ^ (k + 1) = 2 * 2 ^ k := by rw [Nat.pow_succ]; omega
    unfold hsT
    split
    · exact Nat.or_lt_two_pow (by omega) (by omega)
    · omega
theorem hsT_bit (fold : Bool) (q : ByteArray) (b i : Nat) : ∀ K, (hsT fold q K b).testBit i = decide (i < K ∧ cs fold b = cs fold (bt q i))
  | 0 => by unfold hsT; simp
  | k + 1 => by
    have h := hsT_bit fold q b i k
    unfold hsT
    by_cases e : cs fold b = cs fold (bt q k)
    · rw [if_pos e, Nat.testBit_or, h, Nat.testBit_two_pow, Bool.eq_iff_iff]
      simp only [Bool.or_eq_true, decide_eq_true_eq]
      constructor
      · rintro (⟨h1, h2⟩ | h1)
        · exact ⟨by omega, h2⟩
        · subst h1; exact ⟨by omega, e⟩
      · rintro ⟨h1, h2⟩
        by_cases hk : k = i
        · right; exact hk
        · left; exact ⟨by omega, h2⟩
    · rw [if_neg e, h, Bool.eq_iff_iff]
      simp only [decide_eq_true_eq]
      constructor
      · rintro ⟨h1, h2⟩; exact ⟨by omega, h2⟩
      · rintro ⟨h1, h2⟩
        refine ⟨?_, h2⟩
        by_cases hk : i = k
        · subst hk; exact absurd h2 e
        · omega
/-- what has been read: of each beginning, whether it is what came last -/
def Rd (fold : Bool) (q s : ByteArray) (a at_ : Nat) (f : Nat → Bool) : Prop := ∀ i, i < q.size → (f i = true ↔ a + i < at_ ∧ ∀ j, j ≤ i → cs fold (bt s (at_ - 1 - i + j)) = cs fold (bt q j))
theorem rd_none (fold : Bool) (q s : ByteArray) (a : Nat) (f : Nat → Bool) (h : ∀ i, i < q.size → f i = false) : Rd fold q s a a f := fun i hi => by
  rw [h i hi]
  constructor
  · intro k; cases k
  · intro k; omega
theorem rd_step (fold : Bool) (q s : ByteArray) (a at_ : Nat) (f g : Nat → Bool) (ha : a ≤ at_) (h : Rd fold q s a at_ f) (hg : ∀ i, i < q.size → g i = ((decide (i = 0) || f (i - 1)) && decide (cs fold (bt s at_) = cs fold (bt q i)))) : Rd fold q s a (at_ + 1) g := by
  intro i hi
  rw [hg i hi]
  simp only [Bool.and_eq_true, Bool.or_eq_true, decide_eq_true_eq]
  by_cases h0 : i = 0
  · subst h0
    constructor
    · rintro ⟨_, h2⟩
      refine ⟨by omega, fun j hj => ?_⟩
      have : j = 0 := by omega
      subst this
      rw [show at_ + 1 - 1 - 0 + 0 = at_ by omega]
      exact h2
    · rintro ⟨_, h2⟩
      have := h2 0 (by omega)
      rw [show at_ + 1 - 1 - 0 + 0 = at_ by omega] at this
      exact ⟨.inl rfl, this⟩
  · have hp := h (i - 1) (by omega)
    constructor
    · rintro ⟨h1 | h1, h2⟩
      · exact absurd h1 h0
      · obtain ⟨h3, h4⟩ := hp.1 h1
        refine ⟨by omega, fun j hj => ?_⟩
        by_cases e : j = i
        · subst e
          rw [show at_ + 1 - 1 - j + j = at_ by omega]
          exact h2
        · have := h4 j (by omega)
          rw [show at_ + 1 - 1 - i + j = at_ - 1 - (i - 1) + j by omega]
          exact this
    · rintro ⟨h1, h2⟩
      refine ⟨.inr (hp.2 ⟨by omega, fun j hj => ?_⟩), ?_⟩
      · have := h2 j (by omega)
        rw [show at_ + 1 - 1 - i + j = at_ - 1 - (i - 1) + j by omega] at this
        exact this
      · have := h2 i (Nat.le_refl _)
        rw [show at_ + 1 - 1 - i + i = at_ by omega] at this
        exact this
theorem rd_hit (fold : Bool) (q s : ByteArray) (a at_ : Nat) (f : Nat → Bool) (hm : 1 ≤ q.size) (hs : at_ ≤ s.size) (h : Rd fold q s a at_ f) : f (q.size - 1) = true ↔ a + q.size ≤ at_ ∧ stB fold q s (at_ - q.size) = true := by
  rw [h (q.size - 1) (by omega), stB_iff]
  constructor
  · rintro ⟨h1, h2⟩
    refine ⟨by omega, by omega, fun i hi => ?_⟩
    have := h2 i (by omega)
    rw [show at_ - 1 - (q.size - 1) + i = at_ - q.size + i by omega] at this
    exact this
  · rintro ⟨h1, h2⟩
    refine ⟨by omega, fun j hj => ?_⟩
    have := h2.2 j (by omega)
    rw [show at_ - 1 - (q.size - 1) + j = at_ - q.size + j by omega]
    exact this
/-- so far it stands nowhere -/
def NoB (fold : Bool) (q s : ByteArray) (a at_ : Nat) : Prop := ∀ k, a ≤ k → k + q.size ≤ at_ → stB fold q s k = false
theorem noB_found (fold : Bool) (q s : ByteArray) (a at_ : Nat) (h : NoB fold q s a at_) (h1 : a + q.size ≤ at_ + 1) (h2 : stB fold q s (at_ + 1 - q.size) = true) : fndL fold q s a = ((at_ + 1 - q.size : Nat) : Int) :=
  fndL_of fold q s a _ (by omega) h2 (fun j hj hl => h j hj (by omega))
theorem noB_next (fold : Bool) (q s : ByteArray) (a at_ : Nat) (h : NoB fold q s a at_) (h1 : ¬ (a + q.size ≤ at_ + 1 ∧ stB fold q s (at_ + 1 - q.size) = true)) : NoB fold q s a (at_ + 1) := by
  intro k hk hl
  by_cases e : k + q.size ≤ at_
  · exact h k hk e
  · cases hs : stB fold q s k with
    | false => rfl
    | true => exact absurd ⟨by omega, by rw [show at_ + 1 - q.size = k by omega]; exact hs⟩ h1
theorem noB_end (fold : Bool) (q s : ByteArray) (a : Nat) (h : NoB fold q s a s.size) : fndL fold q s a = -1 :=
  fndL_none fold q s a (fun k hk => by
    by_cases e : k + q.size ≤ s.size
    · exact h k hk e
    · rw [stB_no]; intro hst; exact e hst.1)
/-- one word on -/
def rdW (R H : Nat) : Nat := (R * 2 % 18446744073709551616 ||| 1) &&& H
theorem rdW_lt (R H : Nat) (h : H < 18446744073709551616) : rdW R H < 18446744073709551616 := Nat.lt_of_le_of_lt Nat.and_le_right h
theorem bit_dbl (R i : Nat) (hi : i < 64) : (R * 2 % 18446744073709551616 ||| 1).testBit i = (decide (i = 0) || R.testBit (i - 1)) := by
  rw [Nat.testBit_or, show (18446744073709551616 : Nat) = 2 ^ 64 from rfl, Nat.testBit_mod_two_pow, Nat.mul_comm, show 2 * R = 2 ^ 1 * R from rfl, Nat.testBit_two_pow_mul]
  by_cases h0 : i = 0
  · subst h0; simp
  · have h1 : 1 ≤ i := by omega
    have h2 : Nat.testBit 1 i = false := by
      rw [show (1 : Nat) = 2 ^ 0 from rfl, Nat.testBit_two_pow]; simp; omega
    simp [hi, h0, h1, h2]
theorem rdW_bit (R H i : Nat) (hi : i < 64) : (rdW R H).testBit i = ((decide (i = 0) || R.testBit (i - 1)) && H.testBit i) := by
  unfold rdW
  rw [Nat.testBit_and, bit_dbl R i hi]
theorem and_pow (R k : Nat) : (R &&& 2 ^ k ≠ 0) ↔ R.testBit k = true := by
  constructor
  · intro h
    cases hb : R.testBit k with
    | true => rfl
    | false =>
      refine absurd (Nat.eq_of_testBit_eq (fun i => ?_)) h
      rw [Nat.testBit_and, Nat.testBit_two_pow, Nat.zero_testBit]
      by_cases e : k = i
      · subst e; rw [hb]; rfl
      · simp [e]
  · intro h e
    have := congrArg (fun x => Nat.testBit x k) e
    simp [Nat.testBit_and, h] at this
end Lit

set_option linter.unusedVariables false
namespace Lit
open Swar
/-- a word of a long number -/
def wd (H j : Nat) : Nat := H / 2 ^ (64 * j) % 18446744073709551616
theorem wd_lt (H j : Nat) : wd H j < 18446744073709551616 := Nat.mod_lt _ (by decide)
theorem wd_bit (H j i : Nat) (hi : i < 64) : (wd H j).testBit i = H.testBit (64 * j + i) := by
  unfold wd
  rw [show (18446744073709551616 : Nat) = 2 ^ 64 from rfl, Nat.testBit_mod_two_pow, Nat.testBit_div_two_pow]
  simp [hi, Nat.add_comm]
theorem wd_high (H j i : Nat) (hi : 64 ≤ i) : (wd H j).testBit i = false := by
  unfold wd
  rw [show (18446744073709551616 : Nat) = 2 ^ 64 from rfl, Nat.testBit_mod_two_pow]
  simp; omega
theorem wd_or (H k j : Nat) : wd (H ||| 2 ^ k) j = if j = k / 64 then wd H j ||| 2 ^ (k % 64) else wd H j := by
  apply Nat.eq_of_testBit_eq
  intro i
  by_cases hi : i < 64
  · rw [wd_bit _ _ _ hi, Nat.testBit_or, Nat.testBit_two_pow]
    split
    · rename_i h
      rw [Nat.testBit_or, wd_bit _ _ _ hi, Nat.testBit_two_pow]
      congr 1
      rw [Bool.eq_iff_iff]
      simp only [decide_eq_true_eq]
      omega
    · rename_i h
      rw [wd_bit _ _ _ hi]
      have : ¬ k = 64 * j + i := by omega
      simp [this]
  · rw [wd_high _ _ _ (by omega)]
    split
    · rw [Nat.testBit_or, wd_high _ _ _ (by omega), Nat.testBit_two_pow]
      have : ¬ k % 64 = i := by omega
      simp [this]
    · rw [wd_high _ _ _ (by omega)]
/-- a bit of four words -/
def rb (f : Nat → Nat) (i : Nat) : Bool := (f (i / 64)).testBit (i % 64)
theorem rb_wd (H i : Nat) : rb (wd H) i = H.testBit i := by
  unfold rb
  rw [wd_bit _ _ _ (Nat.mod_lt _ (by omega)), Nat.div_add_mod]
/-- what comes in at the bottom -/
def cin (f : Nat → Nat) : Nat → Nat
  | 0 => 1
  | j + 1 => f j / 9223372036854775808
/-- several words on -/
def rdN (f h : Nat → Nat) (j : Nat) : Nat := (f j * 2 % 18446744073709551616 ||| cin f j) &&& h j
theorem cin_lt (f : Nat → Nat) (hf : ∀ j, f j < 18446744073709551616) : ∀ j, cin f j < 2
  | 0 => by show 1 < 2; omega
  | j + 1 => by have := hf j; show f j / 9223372036854775808 < 2; omega
theorem rdN_lt (f h : Nat → Nat) (j : Nat) (hh : h j < 18446744073709551616) : rdN f h j < 18446744073709551616 := Nat.lt_of_le_of_lt Nat.and_le_right hh
theorem bit_one (c i : Nat) (hc : c < 2) : c.testBit i = (decide (i = 0) && decide (c = 1)) := by
  have : c = 0 ∨ c = 1 := by omega
  rcases this with rfl | rfl
  · simp
  · rw [show (1 : Nat) = 2 ^ 0 from rfl, Nat.testBit_two_pow]
    simp [eq_comm]
theorem rdN_bit (f h : Nat → Nat) (hf : ∀ j, f j < 18446744073709551616) (i : Nat) : rb (rdN f h) i = ((decide (i = 0) || rb f (i - 1)) && rb h i) := by
  unfold rb rdN
  have h64 : i % 64 < 64 := Nat.mod_lt _ (by omega)
  rw [Nat.testBit_and, Nat.testBit_or, bit_one _ _ (cin_lt f hf _), show (18446744073709551616 : Nat) = 2 ^ 64 from rfl, Nat.testBit_mod_two_pow, Nat.mul_comm, show 2 * f (i / 64) = 2 ^ 1 * f (i / 64) from rfl, Nat.testBit_two_pow_mul]
  congr 1
  by_cases h0 : i = 0
  · subst h0
    simp [cin]
  · by_cases h1 : i % 64 = 0
    · have hj : i / 64 = (i / 64 - 1) + 1 := by omega
      have e1 : (i - 1) / 64 = i / 64 - 1 := by omega
      have e2 : (i - 1) % 64 = 63 := by omega
      rw [e1, e2, h1]
      simp only [h0, decide_false, Bool.false_or, decide_true, Bool.true_and]
      rw [hj]
      show (_ || decide (f (i / 64 - 1) / 9223372036854775808 = 1)) = _
      have hlt := hf (i / 64 - 1)
      simp only [Nat.add_sub_cancel]
      generalize f (i / 64 - 1) = x at *
      have hb : x.testBit 63 = decide (x / 9223372036854775808 = 1) := by
        rw [Nat.testBit_eq_decide_div_mod_eq, show (2 : Nat) ^ 63 = 9223372036854775808 from rfl, Bool.eq_iff_iff]
        simp only [decide_eq_true_eq]
        omega
      rw [hb]
      simp
    · have e1 : (i - 1) / 64 = i / 64 := by omega
      have e2 : (i - 1) % 64 = i % 64 - 1 := by omega
      rw [e1, e2]
      have h2 : 1 ≤ i % 64 := by omega
      simp [h0, h1, h2, h64]
end Lit

set_option linter.unusedVariables false
namespace Lit
open Swar
/-- how many from a place on that do not lie within one another -/
def cntF (fold : Bool) (p s : ByteArray) : Nat → Nat → Nat
  | 0, _ => 0
  | f + 1, a => if 0 ≤ fndL fold p s a then 1 + cntF fold p s f ((fndL fold p s a).toNat + p.size) else 0
def cntL (fold : Bool) (p s : ByteArray) : Nat := cntF fold p s (s.size + 1) 0
theorem cntF_le (fold : Bool) (p s : ByteArray) : ∀ f a, cntF fold p s f a ≤ f
  | 0, a => Nat.le_refl _
  | f + 1, a => by
    unfold cntF
    split
    · have := cntF_le fold p s f ((fndL fold p s a).toNat + p.size); omega
    · omega
def plL (fold : Bool) (p s : ByteArray) : List Nat := plcF fold p s (s.size + 1) 0
theorem plcF_len (fold : Bool) (p s : ByteArray) : ∀ f a, (plcF fold p s f a).length ≤ f
  | 0, a => Nat.le_refl _
  | f + 1, a => by
    unfold plcF
    split
    · have := plcF_len fold p s f ((fndL fold p s a).toNat + 1); simp; omega
    · simp
theorem plcF_spec (fold : Bool) (p s : ByteArray) : ∀ f a, s.size + 1 ≤ a + f → plcF fold p s f a = (List.range' a (s.size + 1 - a)).filter (stB fold p s)
  | 0, a, h => by
    rw [show s.size + 1 - a = 0 by omega]; rfl
  | f + 1, a, h => by
    unfold plcF
    rcases fndL_spec fold p s a with ⟨h1, h2⟩ | ⟨k, h1, h2, h3, h4⟩
    · rw [h1, if_neg (by omega)]
      symm
      rw [List.filter_eq_nil_iff]
      intro x hx
      rw [List.mem_range'_1] at hx
      rw [h2 x hx.1]
      decide
    · have hst := (stB_iff fold p s k).1 h3
      have hk : k ≤ s.size := by have := hst.1; omega
      rw [h2, if_pos (by omega), Int.toNat_natCast, plcF_spec fold p s f (k + 1) (by omega)]
      have e1 : s.size + 1 - a = (k - a) + (1 + (s.size + 1 - (k + 1))) := by omega
      rw [e1, ← List.range'_append_1, List.filter_append, ← List.range'_append_1, List.filter_append, show a + (k - a) = k by omega]
      have e2 : (List.range' a (k - a)).filter (stB fold p s) = [] := by
        rw [List.filter_eq_nil_iff]
        intro x hx
        rw [List.mem_range'_1] at hx
        rw [h4 x hx.1 (by omega)]
        decide
      rw [e2]
      simp [List.range'_one, h3]
theorem plL_spec (fold : Bool) (p s : ByteArray) : plL fold p s = plc fold p s := by
  unfold plL plc
  rw [plcF_spec fold p s _ _ (by omega), List.range_eq_range']
  rfl
theorem plL_mem (fold : Bool) (p s : ByteArray) (x : Nat) : x ∈ plL fold p s ↔ stB fold p s x = true := by
  rw [plL_spec]
  unfold plc
  rw [List.mem_filter, List.mem_range]
  constructor
  · exact fun h => h.2
  · intro h
    have := ((stB_iff fold p s x).1 h).1
    exact ⟨by omega, h⟩
end Lit

namespace Sums
def bl (s : ByteArray) : List Nat := s.data.toList.map UInt8.toNat
theorem bl_length (s : ByteArray) : (bl s).length = s.size := by unfold bl; rw [List.length_map]; rfl
theorem bl_get (s : ByteArray) (i : Nat) (h : i < s.size) : (bl s).getD i 0 = s[i].toNat := by
  have h2 : i < s.data.toList.length := by simpa using h
  unfold bl
  rw [List.getD_eq_getElem?_getD, List.getElem?_map, List.getElem?_eq_getElem h2]
  rfl
theorem bl_byt (s : ByteArray) : ∀ b ∈ bl s, b < 256 := by
  intro b hb
  obtain ⟨x, _, rfl⟩ := List.mem_map.1 hb
  exact UInt8.toNat_lt x
theorem bl_append (a b : ByteArray) : bl (a ++ b) = bl a ++ bl b := by
  unfold bl
  rw [ByteArray.data_append, Array.toList_append, List.map_append]
theorem bl_extract (s : ByteArray) (i j : Nat) : bl (s.extract i j) = ((bl s).take j).drop i := by
  unfold bl
  rw [ByteArray.data_extract, Array.toList_extract, List.extract_eq_take_drop, List.map_take, List.map_drop, List.drop_take]
theorem bl_inj {a b : ByteArray} (h : bl a = bl b) : a = b := by
  have h1 : a.data.toList = b.data.toList := by
    have := List.map_inj_right (f := UInt8.toNat) (fun x y h => UInt8.toNat_inj.1 h) |>.1 h
    exact this
  exact ByteArray.ext (Array.toList_inj.1 h1)
theorem bl_drop (s : ByteArray) (i : Nat) : bl (s.extract i s.size) = (bl s).drop i := by
  rw [bl_extract, ← bl_length, List.take_length]
theorem bl_take (s : ByteArray) (j : Nat) : bl (s.extract 0 j) = (bl s).take j := by
  rw [bl_extract, List.drop_zero]
end Sums

namespace Code
/-- the bytes of a number, the lowest seven bits first; f: how many may follow the first -/
def enc : Nat → Nat → List Nat
  | 0, n => [n]
  | f + 1, n => if n < 128 then [n] else (n % 128 + 128) :: enc f (n / 128)
def uint (n : Nat) : List Nat := enc 10 n
theorem enc_one (f n : Nat) (h : n < 128) : enc f n = [n] := by cases f <;> simp [enc, h]
theorem enc_more (f n : Nat) (h : ¬ n < 128) : enc (f + 1) n = (n % 128 + 128) :: enc f (n / 128) := by simp [enc, h]
theorem enc_byt : ∀ f n, n < 128 ^ (f + 1) → ∀ z ∈ enc f n, z < 256
  | 0, n, h, z, hz => by
      have : z = n := by simpa [enc] using hz
      subst this
      simp at h
      omega
  | f + 1, n, h, z, hz => by
      by_cases hn : n < 128
      · rw [enc_one _ _ hn] at hz
        have : z = n := by simpa using hz
        omega
      · rw [enc_more _ _ hn] at hz
        rcases List.mem_cons.1 hz with rfl | hz
        · omega
        · exact enc_byt f (n / 128) (by rw [Nat.pow_succ] at h; exact Nat.div_lt_of_lt_mul (by rw [Nat.mul_comm]; exact h)) z hz
theorem uint_byt (n : Nat) (h : n < 18446744073709551616) : ∀ z ∈ uint n, z < 256 := enc_byt 10 n (by omega)
theorem enc_len : ∀ k f n, n < 128 ^ (k + 1) → (enc f n).length ≤ k + 1
  | 0, f, n, h => by rw [enc_one f n (by simpa using h)]; simp
  | k + 1, f, n, h => by
      cases f with
      | zero => simp [enc]
      | succ f =>
        by_cases hn : n < 128
        · rw [enc_one _ _ hn]; simp
        · rw [enc_more _ _ hn, List.length_cons]
          have := enc_len k f (n / 128) (by rw [Nat.pow_succ] at h; exact Nat.div_lt_of_lt_mul (by rw [Nat.mul_comm]; exact h))
          omega
theorem uint_len (n : Nat) (h : n < 18446744073709551616) : (uint n).length ≤ 10 := enc_len 9 10 n (by omega)
theorem enc_pos : ∀ f n, 1 ≤ (enc f n).length
  | 0, n => by simp [enc]
  | f + 1, n => by unfold enc; split <;> simp
theorem uint_pos (n : Nat) : 1 ≤ (uint n).length := enc_pos 10 n
theorem or128 : ∀ b < 256, b ||| 128 = b % 128 + 128 := by decide +kernel
/-- reading a number: the number, the error, how many bytes were read -/
def rdF : Nat → Nat → Nat → List Nat → Nat × Nat × Nat
  | 0, _, _, _ => (0, 32, 0)
  | _ + 1, _, _, [] => (0, 30, 0)
  | f + 1, i, n, b :: l => if i = 9 ∧ 1 < b then (0, 32, 0) else if 0 < i ∧ b = 0 then (0, 31, 0) else if b < 128 then (n + b % 128 * 2 ^ (7 * i), 0, i + 1) else rdF f (i + 1) (n + b % 128 * 2 ^ (7 * i)) l
def rd (l : List Nat) : Nat × Nat × Nat := rdF 10 0 0 l
theorem rdF_nil (f i n : Nat) : rdF (f + 1) i n [] = (0, 30, 0) := rfl
theorem rdF_cons (f i n b : Nat) (l : List Nat) : rdF (f + 1) i n (b :: l) = if i = 9 ∧ 1 < b then (0, 32, 0) else if 0 < i ∧ b = 0 then (0, 31, 0) else if b < 128 then (n + b % 128 * 2 ^ (7 * i), 0, i + 1) else rdF f (i + 1) (n + b % 128 * 2 ^ (7 * i)) l := rfl
theorem pow7 (i : Nat) : 2 ^ (7 * (i + 1)) = 128 * 2 ^ (7 * i) := by
  rw [Nat.mul_add, Nat.pow_add, Nat.mul_comm]
theorem split7 (m i : Nat) : m % 128 * 2 ^ (7 * i) + m / 128 * 2 ^ (7 * (i + 1)) = m * 2 ^ (7 * i) := by
  rw [pow7, ← Nat.mul_assoc, ← Nat.add_mul]
  congr 1
  omega
theorem pow64 : ∀ i, i ≤ 8 → 2 ^ (64 - 7 * i) = 128 * 2 ^ (64 - 7 * (i + 1)) := by
  intro i hi
  rw [show 64 - 7 * i = 7 + (64 - 7 * (i + 1)) by omega, Nat.pow_add]
theorem rdF_enc : ∀ (f' f i a m : Nat) (l : List Nat), f + i = 10 → i ≤ 9 → m < 2 ^ (64 - 7 * i) → m < 128 ^ (f' + 1) → (0 < i → 0 < m) →
    rdF f i a (enc f' m ++ l) = (a + m * 2 ^ (7 * i), 0, i + (enc f' m).length) := by
  intro f'
  induction f' with
  | zero =>
    intro f i a m l hf hi hm h1 h0
    obtain ⟨f, rfl⟩ : ∃ k, f = k + 1 := ⟨f - 1, by omega⟩
    have hm1 : m < 128 := by simpa using h1
    have h9 : ¬ (i = 9 ∧ 1 < m) := by rintro ⟨rfl, h⟩; simp at hm; omega
    show rdF (f + 1) i a (m :: l) = _
    rw [rdF_cons, if_neg h9, if_neg (by omega), if_pos hm1, Nat.mod_eq_of_lt hm1]
    rfl
  | succ f' ih =>
    intro f i a m l hf hi hm h1 h0
    obtain ⟨f, rfl⟩ : ∃ k, f = k + 1 := ⟨f - 1, by omega⟩
    by_cases hm1 : m < 128
    · have h9 : ¬ (i = 9 ∧ 1 < m) := by rintro ⟨rfl, h⟩; simp at hm; omega
      rw [enc_one _ _ hm1]
      show rdF (f + 1) i a (m :: l) = _
      rw [rdF_cons, if_neg h9, if_neg (by omega), if_pos hm1, Nat.mod_eq_of_lt hm1]
      rfl
    · have hi8 : i ≤ 8 := by
        by_cases h : i = 9
        · subst h; simp at hm; omega
        · omega
      rw [enc_more _ _ hm1, List.cons_append, rdF_cons, if_neg (by omega), if_neg (by omega), if_neg (by omega)]
      have hp := pow64 i hi8
      rw [ih f (i + 1) _ (m / 128) l (by omega) (by omega) (by rw [hp] at hm; exact Nat.div_lt_of_lt_mul hm) (by rw [Nat.pow_succ] at h1; exact Nat.div_lt_of_lt_mul (by rw [Nat.mul_comm]; exact h1)) (by omega)]
      have hs := split7 m i
      rw [show (m % 128 + 128) % 128 = m % 128 by omega, List.length_cons, Nat.add_assoc, hs, show i + 1 + (enc f' (m / 128)).length = i + ((enc f' (m / 128)).length + 1) by omega]
theorem rd_uint (n : Nat) (l : List Nat) (h : n < 18446744073709551616) : rd (uint n ++ l) = (n, 0, (uint n).length) := by
  unfold rd uint
  rw [rdF_enc 10 10 0 0 n l rfl (by omega) (by simpa using h) (by omega) (by omega)]
  simp
theorem rdF_inv : ∀ (f i a : Nat) (l : List Nat) (n k : Nat), f + i = 10 → (∀ z ∈ l, z < 256) → rdF f i a l = (n, 0, k) →
    ∃ m p q, l = p ++ q ∧ n = a + m * 2 ^ (7 * i) ∧ enc f m = p ∧ k = i + p.length ∧ m < 2 ^ (64 - 7 * i) ∧ (0 < i → 0 < m) := by
  intro f
  induction f with
  | zero => intro i a l n k hf hl h; simp [rdF] at h
  | succ f ih =>
    intro i a l n k hf hl h
    cases l with
    | nil => simp [rdF] at h
    | cons b l =>
      rw [rdF_cons] at h
      by_cases h9 : i = 9 ∧ 1 < b
      · rw [if_pos h9] at h; simp at h
      rw [if_neg h9] at h
      by_cases hz : 0 < i ∧ b = 0
      · rw [if_pos hz] at h; simp at h
      rw [if_neg hz] at h
      have hb : b < 256 := hl b (List.mem_cons_self ..)
      by_cases h1 : b < 128
      · rw [if_pos h1] at h
        simp only [Prod.mk.injEq] at h
        refine ⟨b, [b], l, rfl, ?_, enc_one _ _ h1, h.2.2.symm, ?_, by omega⟩
        · rw [← h.1, Nat.mod_eq_of_lt h1]
        · by_cases h8 : i ≤ 8
          · rw [pow64 i h8]
            have := Nat.one_le_two_pow (n := 64 - 7 * (i + 1))
            omega
          · have : i = 9 := by omega
            subst this
            simp
            omega
      · rw [if_neg h1] at h
        have h8 : i ≤ 8 := by omega
        obtain ⟨m, p, q, rfl, hn, he, hk, hm, hp⟩ := ih (i + 1) _ l n k (by omega) (fun z hz => hl z (List.mem_cons_of_mem _ hz)) h
        have hmp := hp (by omega)
        refine ⟨b % 128 + 128 * m, b :: p, q, rfl, ?_, ?_, ?_, ?_, by omega⟩
        · rw [hn, pow7, Nat.add_mul, Nat.add_assoc, ← Nat.mul_assoc, Nat.mul_comm m 128]
        · rw [enc_more _ _ (by omega), show (b % 128 + 128 * m) / 128 = m by omega, he]
          congr 1
          omega
        · rw [hk, List.length_cons]; omega
        · rw [pow64 i h8]
          omega
theorem rd_inv (l : List Nat) (n k : Nat) (hl : ∀ z ∈ l, z < 256) (h : rd l = (n, 0, k)) : uint n = l.take k ∧ k ≤ l.length ∧ n < 18446744073709551616 := by
  obtain ⟨m, p, q, rfl, hn, he, hk, hm, _⟩ := rdF_inv 10 0 0 l n k rfl hl h
  simp at hn hk hm
  subst hn hk
  refine ⟨?_, by simp, hm⟩
  rw [List.take_left']
  · exact he
  · rfl
theorem rdF_err : ∀ (f i a : Nat) (l : List Nat), (rdF f i a l).2.1 ≠ 0 → (rdF f i a l).1 = 0 ∧ (rdF f i a l).2.2 = 0 := by
  intro f
  induction f with
  | zero => intro i a l h; exact ⟨rfl, rfl⟩
  | succ f ih =>
    intro i a l h
    cases l with
    | nil => exact ⟨rfl, rfl⟩
    | cons b l =>
      rw [rdF_cons] at h ⊢
      split
      · exact ⟨rfl, rfl⟩
      · split
        · exact ⟨rfl, rfl⟩
        · split
          · rename_i h1 h2 h3
            rw [if_neg h1, if_neg h2, if_pos h3] at h
            exact absurd rfl h
          · rename_i h1 h2 h3
            rw [if_neg h1, if_neg h2, if_neg h3] at h
            exact ih _ _ _ h
theorem rd_err (l : List Nat) (h : (rd l).2.1 ≠ 0) : (rd l).1 = 0 ∧ (rd l).2.2 = 0 := rdF_err 10 0 0 l h
theorem rd_ok (l : List Nat) (hl : ∀ z ∈ l, z < 256) (h : (rd l).2.1 = 0) : uint (rd l).1 = l.take (rd l).2.2 ∧ (rd l).2.2 ≤ l.length ∧ (rd l).1 < 18446744073709551616 := by
  refine rd_inv l _ _ hl ?_
  rw [← h]
theorem rd_lt (l : List Nat) (hl : ∀ z ∈ l, z < 256) : (rd l).1 < 18446744073709551616 ∧ (rd l).2.2 ≤ l.length := by
  by_cases h : (rd l).2.1 = 0
  · have := rd_ok l hl h
    exact ⟨this.2.2, this.2.1⟩
  · have := rd_err l h
    omega
theorem rdF_errs : ∀ (f i a : Nat) (l : List Nat), (rdF f i a l).2.1 ≤ 32 := by
  intro f
  induction f with
  | zero => intro i a l; exact Nat.le_refl _
  | succ f ih =>
    intro i a l
    cases l with
    | nil => show 30 ≤ 32; omega
    | cons b l =>
      rw [rdF_cons]
      split
      · exact Nat.le_refl _
      · split
        · show 31 ≤ 32; omega
        · split
          · show 0 ≤ 32; omega
          · exact ih _ _ _
theorem rd_errs (l : List Nat) : (rd l).2.1 ≤ 32 := rdF_errs 10 0 0 l
/-- no number's bytes begin with another one's -/
theorem uint_pre (a b : Nat) (t : List Nat) (ha : a < 18446744073709551616) (hb : b < 18446744073709551616) (h : uint a = uint b ++ t) : a = b := by
  have h1 := rd_uint a [] ha
  rw [List.append_nil, h, rd_uint b t hb] at h1
  simp only [Prod.mk.injEq] at h1
  exact h1.1.symm
theorem uint_pre2 (a b : Nat) (s t : List Nat) (ha : a < 18446744073709551616) (hb : b < 18446744073709551616) (h : uint a ++ s = uint b ++ t) : a = b ∧ s = t := by
  have h1 := rd_uint a s ha
  rw [h, rd_uint b t hb] at h1
  simp only [Prod.mk.injEq] at h1
  obtain rfl := h1.1
  exact ⟨rfl, List.append_cancel_left h⟩
/-- the number as which an int is written -/
def zig (n : Int) : Nat := if 0 ≤ n then 2 * n.toNat else 2 * (-(n + 1)).toNat + 1
def zag (n : Nat) : Int := if n % 2 = 1 then -((n / 2 : Nat) : Int) - 1 else ((n / 2 : Nat) : Int)
theorem zag_zig (n : Int) : zag (zig n) = n := by
  unfold zag zig
  by_cases h : 0 ≤ n
  · rw [if_pos h, if_neg (by omega)]; omega
  · rw [if_neg h, if_pos (by omega)]; omega
theorem zig_zag (n : Nat) : zig (zag n) = n := by
  unfold zag zig
  by_cases h : n % 2 = 1
  · rw [if_pos h, if_neg (by omega)]; omega
  · rw [if_neg h, if_pos (by omega)]; omega
theorem zig_lt (n : Int) (h0 : -9223372036854775808 ≤ n) (h1 : n ≤ 9223372036854775807) : zig n < 18446744073709551616 := by
  unfold zig
  split <;> omega
theorem zig_inj (a b : Int) (h : zig a = zig b) : a = b := by rw [← zag_zig a, h, zag_zig]
end Code

namespace Swar
theorem idx_char (s : ByteArray) (c : Nat) : ∀ k a, s.size - a = k → (idxL s c a = -1 ∧ ∀ i, a ≤ i → i < s.size → bt s i ≠ c) ∨ (∃ e, idxL s c a = ((e : Nat) : Int) ∧ a ≤ e ∧ e < s.size ∧ bt s e = c ∧ ∀ i, a ≤ i → i < e → bt s i ≠ c)
  | 0, a, h => .inl ⟨idx_out s c a (by omega), fun i h1 h2 => by omega⟩
  | k + 1, a, h => by
    have hs := idx_step s c a (by omega)
    by_cases hb : bt s a = c
    · rw [if_pos hb] at hs
      exact .inr ⟨a, hs, Nat.le_refl _, by omega, hb, fun i h1 h2 => by omega⟩
    · rw [if_neg hb] at hs
      rcases idx_char s c k (a + 1) (by omega) with ⟨h1, h2⟩ | ⟨e, h1, h2, h3, h4, h5⟩
      · refine .inl ⟨hs.trans h1, fun i g1 g2 => ?_⟩
        by_cases hi : i = a
        · subst hi; exact hb
        · exact h2 i (by omega) g2
      · refine .inr ⟨e, hs.trans h1, by omega, h3, h4, fun i g1 g2 => ?_⟩
        by_cases hi : i = a
        · subst hi; exact hb
        · exact h5 i (by omega) g2
def endOf (s : ByteArray) (a : Nat) : Nat := if idxL s 10 a < 0 then s.size else (idxL s 10 a).toNat
theorem end_char (s : ByteArray) (a : Nat) (h : a ≤ s.size) : a ≤ endOf s a ∧ endOf s a ≤ s.size ∧ (∀ i, a ≤ i → i < endOf s a → bt s i ≠ 10) ∧ (endOf s a < s.size → bt s (endOf s a) = 10) := by
  unfold endOf
  rcases idx_char s 10 _ a rfl with ⟨h1, h2⟩ | ⟨e, h1, h2, h3, h4, h5⟩
  · rw [h1, if_pos (by omega)]
    exact ⟨h, Nat.le_refl _, h2, fun g => by omega⟩
  · rw [h1, if_neg (by omega), Int.toNat_natCast]
    exact ⟨h2, by omega, h5, fun _ => h4⟩
def linesF (s : ByteArray) : Nat → Nat → List (Nat × ByteArray)
  | 0, _ => []
  | f + 1, a => if a < s.size then (a, s.extract a (endOf s a)) :: linesF s f (endOf s a + 1) else []
def joined (l : List (Nat × ByteArray)) : List Nat := l.flatMap fun x => Sums.bl x.2 ++ [10]
theorem joined_cons (x : Nat × ByteArray) (l : List (Nat × ByteArray)) : joined (x :: l) = Sums.bl x.2 ++ [10] ++ joined l := by simp [joined]
theorem joined_snoc (l : List (Nat × ByteArray)) (x : Nat × ByteArray) : joined (l ++ [x]) = joined l ++ (Sums.bl x.2 ++ [10]) := by simp [joined]
theorem ext_len (s : ByteArray) (a e : Nat) (h1 : a ≤ e) (h2 : e ≤ s.size) : (s.extract a e).size = e - a := by rw [ByteArray.size_extract]; omega
theorem bt_ext (s : ByteArray) (a e i : Nat) (h2 : e ≤ s.size) (hi : a + i < e) : bt (s.extract a e) i = bt s (a + i) := by
  have h1 : i < (s.extract a e).size := by rw [ext_len s a e (by omega) h2]; omega
  rw [bt_in h1, bt_in (show a + i < s.size by omega), ByteArray.getElem_extract]
theorem no_feed (s : ByteArray) (a : Nat) (h : a ≤ s.size) : idxL (s.extract a (endOf s a)) 10 0 = -1 := by
  obtain ⟨h1, h2, h3, _⟩ := end_char s a h
  rcases idx_char (s.extract a (endOf s a)) 10 _ 0 rfl with ⟨g, _⟩ | ⟨e, _, _, g3, g4, _⟩
  · exact g
  · rw [ext_len s a _ h1 h2] at g3
    rw [bt_ext s a _ e h2 (by omega)] at g4
    exact (h3 (a + e) (by omega) (by omega) g4).elim
theorem lines_pre (s : ByteArray) : ∀ (f a : Nat) (q : List (Nat × ByteArray)) (x : Nat × ByteArray), q ++ [x] <+: linesF s f a → x.1 = a + (joined q).length ∧ idxL x.2 10 0 = -1 ∧ a + q.length + 1 ≤ s.size
  | 0, a, q, x, h => by
    have := List.prefix_nil.1 h
    simp at this
  | f + 1, a, q, x, h => by
    rw [linesF] at h
    by_cases ha : a < s.size
    · rw [if_pos ha] at h
      obtain ⟨h1, h2, _⟩ := end_char s a (by omega)
      cases q with
      | nil =>
        obtain ⟨t, ht⟩ := h
        simp at ht
        obtain ⟨rfl, _⟩ := ht
        refine ⟨by simp [joined], no_feed s a (by omega), by simp; omega⟩
      | cons y q =>
        rw [List.cons_append, List.cons_prefix_cons] at h
        obtain ⟨rfl, h⟩ := h
        obtain ⟨g1, g2, g3⟩ := lines_pre s f _ q x h
        refine ⟨?_, g2, by simp; omega⟩
        rw [g1, joined_cons]
        simp only [List.length_append, List.length_cons, List.length_nil, Sums.bl_length]
        rw [ext_len s a _ h1 h2]
        omega
    · rw [if_neg ha] at h
      have := List.prefix_nil.1 h
      simp at this
theorem cnt_none (s : ByteArray) (c p : Nat) : ∀ k, (∀ i, p ≤ i → i < p + k → bt s i ≠ c) → cntL s c (p + k) = cntL s c p
  | 0, _ => rfl
  | k + 1, h => by
    rw [show p + (k + 1) = (p + k) + 1 by omega, cnt_step, if_neg (h (p + k) (by omega) (by omega)), cnt_none s c p k (fun i h1 h2 => h i h1 (by omega))]
    rfl
theorem bl_drop_cons (s : ByteArray) (e : Nat) (h : e < s.size) : (Sums.bl s).drop e = bt s e :: (Sums.bl s).drop (e + 1) := by
  have hl := Sums.bl_length s
  rw [List.drop_eq_getElem_cons (by omega)]
  congr 1
  have := Sums.bl_get s e h
  rw [bt_in h, ← this]
  simp [List.getD, show e < (Sums.bl s).length by omega]
theorem bl_ext_drop (s : ByteArray) (a e : Nat) (h1 : a ≤ e) (h2 : e ≤ s.size) : (Sums.bl s).drop a = Sums.bl (s.extract a e) ++ (Sums.bl s).drop e := by
  have hl := Sums.bl_length s
  rw [Sums.bl_extract]
  conv => lhs; rw [← List.take_append_drop e (Sums.bl s)]
  rw [List.drop_append_of_le_length (by simp; omega)]
def tailOf (s : ByteArray) (a : Nat) : Nat := if a < s.size ∧ bt s (s.size - 1) ≠ 10 then 1 else 0
theorem lines_all (s : ByteArray) : ∀ (f a : Nat), s.size < a + f → joined (linesF s f a) = (Sums.bl s).drop a ++ List.replicate (tailOf s a) 10 ∧ (a ≤ s.size → (linesF s f a).length + cntL s 10 a = cntL s 10 s.size + tailOf s a)
  | 0, a, h => by
    refine ⟨?_, fun g => by omega⟩
    simp [linesF, joined, tailOf, show ¬ a < s.size by omega]
    rw [Sums.bl_length]
    omega
  | f + 1, a, h => by
    rw [linesF]
    by_cases ha : a < s.size
    · rw [if_pos ha]
      obtain ⟨h1, h2, h3, h4⟩ := end_char s a (by omega)
      obtain ⟨i1, i2⟩ := lines_all s f (endOf s a + 1) (by omega)
      obtain ⟨e, he⟩ : ∃ e, endOf s a = e := ⟨_, rfl⟩
      rw [he] at h1 h2 h3 h4 i1 i2 ⊢
      have hc : cntL s 10 e = cntL s 10 a := by
        have := cnt_none s 10 a (e - a) (fun i g1 g2 => h3 i g1 (by omega))
        rwa [show a + (e - a) = e by omega] at this
      by_cases hee : e < s.size
      · have hb := h4 hee
        have ht : tailOf s (e + 1) = tailOf s a := by
          unfold tailOf
          by_cases hl : e + 1 < s.size
          · simp [hl, ha]
          · have : s.size - 1 = e := by omega
            simp [this, hb]
        constructor
        · rw [joined_cons, i1, ht, bl_ext_drop s a e h1 h2, bl_drop_cons s e hee, hb]
          simp
        · intro _
          have := i2 (by omega)
          rw [cnt_step, if_pos hb, ht] at this
          simp only [List.length_cons]
          omega
      · obtain rfl : e = s.size := by omega
        have hlast : bt s (s.size - 1) ≠ 10 := h3 _ (by omega) (by omega)
        have hn : linesF s f (s.size + 1) = [] := by
          cases f with
          | zero => rfl
          | succ f => rw [linesF, if_neg (by omega)]
        constructor
        · rw [hn, joined_cons, bl_ext_drop s a s.size h1 h2]
          simp [joined, tailOf, ha, hlast]
          rw [Sums.bl_length]
          exact Nat.le_refl _
        · intro _
          rw [hn]
          simp [tailOf, ha, hlast]
          omega
    · rw [if_neg ha]
      refine ⟨?_, fun g => ?_⟩
      · simp [joined, tailOf, ha]
        rw [Sums.bl_length]
        omega
      · have : a = s.size := by omega
        subst this
        simp [tailOf]
end Swar
