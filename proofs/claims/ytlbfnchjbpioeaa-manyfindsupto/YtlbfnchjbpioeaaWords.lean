/-
  Plain facts on words of eight bytes, byte by byte: no Go in sight. No conditions but those that each fact names.
-/
namespace Swar

/-- bytes, the lowest first, as one number -/
def jn : List Nat → Nat
  | [] => 0
  | b :: l => b + 256 * jn l

def Byt (l : List Nat) : Prop := ∀ b ∈ l, b < 256

theorem jn_lt : ∀ (l : List Nat), Byt l → jn l < 256 ^ l.length
  | [], _ => by simp [jn]
  | b :: l, h => by
      have h1 := jn_lt l (fun x hx => h x (List.mem_cons_of_mem _ hx))
      have h2 := h b (List.mem_cons_self ..)
      simp only [jn, List.length_cons, Nat.pow_succ]
      omega

/-- the bytes of a number -/
def cut : Nat → Nat → List Nat
  | 0, _ => []
  | n + 1, w => w % 256 :: cut n (w / 256)

theorem cut_length : ∀ (n w : Nat), (cut n w).length = n
  | 0, _ => rfl
  | n + 1, w => by simp [cut, cut_length n]

theorem cut_byt : ∀ (n w : Nat), Byt (cut n w)
  | 0, _ => by intro b h; simp [cut] at h
  | n + 1, w => by
      intro b h
      simp only [cut, List.mem_cons] at h
      rcases h with rfl | h
      · omega
      · exact cut_byt n _ b h

theorem jn_cut : ∀ (n w : Nat), w < 256 ^ n → jn (cut n w) = w
  | 0, w, h => by simp at h; simp [cut, jn, h]
  | n + 1, w, h => by
      simp only [cut, jn]
      rw [jn_cut n (w / 256) (by rw [Nat.pow_succ] at h; omega)]
      omega

theorem bit_lane (op : Nat → Nat → Nat) (f : Bool → Bool → Bool)
    (hop : ∀ a b i, (op a b).testBit i = f (a.testBit i) (b.testBit i)) (hlt : ∀ a b, a < 256 → b < 256 → op a b < 256)
    (x y X Y : Nat) (hx : x < 256) (hy : y < 256) :
    op (x + 256 * X) (y + 256 * Y) = op x y + 256 * op X Y := by
  apply Nat.eq_of_testBit_eq
  intro i
  have e1 : x + 256 * X = 2 ^ 8 * X + x := by omega
  have e2 : y + 256 * Y = 2 ^ 8 * Y + y := by omega
  have e3 : op x y + 256 * op X Y = 2 ^ 8 * op X Y + op x y := by omega
  rw [hop, e1, e2, e3, Nat.testBit_two_pow_mul_add _ (by simpa using hx), Nat.testBit_two_pow_mul_add _ (by simpa using hy),
    Nat.testBit_two_pow_mul_add _ (by simpa using hlt x y hx hy)]
  split <;> simp [hop]

theorem and_lane (x y X Y : Nat) (hx : x < 256) (hy : y < 256) : (x + 256 * X) &&& (y + 256 * Y) = (x &&& y) + 256 * (X &&& Y) :=
  bit_lane (· &&& ·) (· && ·) (fun a b i => Nat.testBit_and a b i) (fun _ _ ha _ => Nat.lt_of_le_of_lt Nat.and_le_left ha) x y X Y hx hy
theorem or_lane (x y X Y : Nat) (hx : x < 256) (hy : y < 256) : (x + 256 * X) ||| (y + 256 * Y) = (x ||| y) + 256 * (X ||| Y) :=
  bit_lane (· ||| ·) (· || ·) (fun a b i => Nat.testBit_or a b i) (fun _ _ ha hb => Nat.or_lt_two_pow (n := 8) ha hb) x y X Y hx hy
theorem xor_lane (x y X Y : Nat) (hx : x < 256) (hy : y < 256) : (x + 256 * X) ^^^ (y + 256 * Y) = (x ^^^ y) + 256 * (X ^^^ Y) :=
  bit_lane (· ^^^ ·) (· ^^ ·) (fun a b i => Nat.testBit_xor a b i) (fun _ _ ha hb => Nat.xor_lt_two_pow (n := 8) ha hb) x y X Y hx hy

theorem jn_and : ∀ (a b : List Nat), a.length = b.length → Byt a → Byt b → jn a &&& jn b = jn (List.zipWith (· &&& ·) a b)
  | [], [], _, _, _ => by simp [jn]
  | x :: a, y :: b, h, ha, hb => by
      simp only [jn, List.zipWith_cons_cons]
      rw [and_lane _ _ _ _ (ha x (List.mem_cons_self ..)) (hb y (List.mem_cons_self ..)), jn_and a b (by simpa using h) (fun z hz => ha z (List.mem_cons_of_mem _ hz)) (fun z hz => hb z (List.mem_cons_of_mem _ hz))]
theorem jn_or : ∀ (a b : List Nat), a.length = b.length → Byt a → Byt b → jn a ||| jn b = jn (List.zipWith (· ||| ·) a b)
  | [], [], _, _, _ => by simp [jn]
  | x :: a, y :: b, h, ha, hb => by
      simp only [jn, List.zipWith_cons_cons]
      rw [or_lane _ _ _ _ (ha x (List.mem_cons_self ..)) (hb y (List.mem_cons_self ..)), jn_or a b (by simpa using h) (fun z hz => ha z (List.mem_cons_of_mem _ hz)) (fun z hz => hb z (List.mem_cons_of_mem _ hz))]
theorem jn_xor : ∀ (a b : List Nat), a.length = b.length → Byt a → Byt b → jn a ^^^ jn b = jn (List.zipWith (· ^^^ ·) a b)
  | [], [], _, _, _ => by simp [jn]
  | x :: a, y :: b, h, ha, hb => by
      simp only [jn, List.zipWith_cons_cons]
      rw [xor_lane _ _ _ _ (ha x (List.mem_cons_self ..)) (hb y (List.mem_cons_self ..)), jn_xor a b (by simpa using h) (fun z hz => ha z (List.mem_cons_of_mem _ hz)) (fun z hz => hb z (List.mem_cons_of_mem _ hz))]

theorem Byt.map {l : List Nat} {f : Nat → Nat} (h : ∀ b ∈ l, f b < 256) : Byt (l.map f) := by
  intro b hb
  obtain ⟨x, hx, rfl⟩ := List.mem_map.1 hb
  exact h x hx
theorem zip_map (op : Nat → Nat → Nat) (f g : Nat → Nat) : ∀ l : List Nat, List.zipWith op (l.map f) (l.map g) = l.map (fun b => op (f b) (g b))
  | [] => rfl
  | b :: l => by simp [zip_map op f g l]
theorem jn_map_and (l : List Nat) (f g : Nat → Nat) (hf : ∀ b ∈ l, f b < 256) (hg : ∀ b ∈ l, g b < 256) :
    jn (l.map f) &&& jn (l.map g) = jn (l.map fun b => f b &&& g b) := by
  rw [jn_and _ _ (by simp) (Byt.map hf) (Byt.map hg), zip_map]
theorem jn_map_or (l : List Nat) (f g : Nat → Nat) (hf : ∀ b ∈ l, f b < 256) (hg : ∀ b ∈ l, g b < 256) :
    jn (l.map f) ||| jn (l.map g) = jn (l.map fun b => f b ||| g b) := by
  rw [jn_or _ _ (by simp) (Byt.map hf) (Byt.map hg), zip_map]
theorem jn_map_xor (l : List Nat) (f g : Nat → Nat) (hf : ∀ b ∈ l, f b < 256) (hg : ∀ b ∈ l, g b < 256) :
    jn (l.map f) ^^^ jn (l.map g) = jn (l.map fun b => f b ^^^ g b) := by
  rw [jn_xor _ _ (by simp) (Byt.map hf) (Byt.map hg), zip_map]
theorem jn_map_add (f g : Nat → Nat) : ∀ l : List Nat, jn (l.map f) + jn (l.map g) = jn (l.map fun b => f b + g b)
  | [] => rfl
  | b :: l => by
      have := jn_map_add f g l
      simp only [List.map_cons, jn]; omega
theorem jn_map_sub (f g : Nat → Nat) : ∀ l : List Nat, (∀ b ∈ l, g b ≤ f b) → jn (l.map f) - jn (l.map g) = jn (l.map fun b => f b - g b) ∧ jn (l.map g) ≤ jn (l.map f)
  | [], _ => by simp [jn]
  | b :: l, h => by
      have h1 := jn_map_sub f g l (fun x hx => h x (List.mem_cons_of_mem _ hx))
      have h2 := h b (List.mem_cons_self ..)
      simp only [List.map_cons, jn]; omega
theorem jn_const (l : List Nat) (h : l.length = 8) (c : Nat) : jn (l.map fun _ => c) = c * 72340172838076673 := by
  match l, h with
  | [a, b, d, e, f, g, i, j], _ => simp only [List.map, jn]; omega
theorem jn_congr {l : List Nat} {f g : Nat → Nat} (h : ∀ b ∈ l, f b = g b) : jn (l.map f) = jn (l.map g) := by
  rw [List.map_congr_left h]
theorem jn_id (l : List Nat) : jn (l.map fun b => b) = jn l := by simp


/-! what the words say, byte by byte -/
def zerosL (w : Nat) : Nat := jn ((cut 8 w).map fun b => if b = 0 then 128 else 0)
def belowL (w c : Nat) : Nat := jn ((cut 8 w).map fun b => if b < c then 128 else 0)
def equalL (a b : Nat) : Nat := jn (List.zipWith (fun x y => if x = y then 128 else 0) (cut 8 a) (cut 8 b))
def small (b : Nat) : Nat := if 65 ≤ b ∧ b ≤ 90 then b + 32 else b
def lowerL (w : Nat) : Nat := jn ((cut 8 w).map small)
def spreadL (c : Nat) : Nat := jn (List.replicate 8 c)
def firstL (m : Nat) : Nat := (cut 8 m).findIdx (fun b => 128 ≤ b)
def onesL (m : Nat) : Nat := (cut 8 m).countP (fun b => 128 ≤ b)

theorem spread_eq (c : Nat) : c * 72340172838076673 = spreadL c := by
  simp only [spreadL, List.replicate, jn]; omega

theorem lane_zeros : ∀ b < 256, (255 - (((b &&& 127) + 127) ||| b)) &&& 128 = if b = 0 then 128 else 0 := by decide +kernel
theorem lane_fill : ∀ b < 256, (b &&& 127) + 127 < 256 := by decide +kernel
theorem lane_or : ∀ b < 256, ((b &&& 127) + 127) ||| b < 256 := by decide +kernel

theorem zeros_eq (w : Nat) (hw : w < 18446744073709551616) : (18446744073709551615 - (((w &&& 9187201950435737471) + 9187201950435737471) ||| w)) &&& 9259542123273814144 = zerosL w := by
  have hl := cut_length 8 w
  have hb := cut_byt 8 w
  have hj : jn (cut 8 w) = w := jn_cut 8 w hw
  unfold zerosL
  generalize cut 8 w = l at hl hb hj
  have e7 : 9187201950435737471 = jn (l.map fun _ => 127) := by rw [jn_const l hl]
  have e8 : 9259542123273814144 = jn (l.map fun _ => 128) := by rw [jn_const l hl]
  have e9 : 18446744073709551615 = jn (l.map fun _ => 255) := by rw [jn_const l hl]
  have ew : w = jn (l.map fun b => b) := by rw [jn_id, hj]
  rw [e7, e8, e9, ew]
  rw [jn_map_and l _ _ (fun b h => hb b h) (fun _ _ => by omega), jn_map_add,
    jn_map_or l _ _ (fun b h => lane_fill b (hb b h)) (fun b h => hb b h),
    (jn_map_sub _ _ l (fun b h => by have := lane_or b (hb b h); omega)).1,
    jn_map_and l _ _ (fun b h => by omega) (fun _ _ => by omega)]
  exact jn_congr (fun b h => lane_zeros b (hb b h))

theorem cut_xor (n : Nat) : ∀ (a b : Nat), cut n (a ^^^ b) = List.zipWith (· ^^^ ·) (cut n a) (cut n b) := by
  induction n with
  | zero => intro a b; rfl
  | succ n ih =>
    intro a b
    have ea : a = a % 256 + 256 * (a / 256) := by omega
    have eb : b = b % 256 + 256 * (b / 256) := by omega
    have h := xor_lane (a % 256) (b % 256) (a / 256) (b / 256) (by omega) (by omega)
    rw [← ea, ← eb] at h
    have hlt : a % 256 ^^^ b % 256 < 256 := Nat.xor_lt_two_pow (n := 8) (by omega) (by omega)
    simp only [cut, List.zipWith_cons_cons]
    rw [← ih]
    congr 1 <;> (try congr 1) <;> omega

theorem xor_zero_iff (x y : Nat) : x ^^^ y = 0 ↔ x = y := by
  constructor
  · intro h
    apply Nat.eq_of_testBit_eq
    intro i
    have := congrArg (fun n => n.testBit i) h
    simpa using this
  · rintro rfl; simp

theorem equal_eq (a b : Nat) : zerosL (a ^^^ b) = equalL a b := by
  unfold zerosL equalL
  rw [cut_xor, List.map_zipWith]
  simp only [xor_zero_iff]

def belowChk (b c : Nat) : Bool := Nat.beq ((((255 - b) &&& c) ||| ((255 - (b ^^^ c)) &&& (255 - ((b ||| 128) - (c &&& 127))))) &&& 128) (bif Nat.blt b c then 128 else 0)
theorem belowChk_all : ((List.range 256).all fun b => (List.range 256).all fun c => belowChk b c) = true := by decide +kernel
theorem lane_below (b c : Nat) (hb : b < 256) (hc : c < 256) : (((255 - b) &&& c) ||| ((255 - (b ^^^ c)) &&& (255 - ((b ||| 128) - (c &&& 127))))) &&& 128 = if b < c then 128 else 0 := by
  have h := belowChk_all
  rw [List.all_eq_true] at h
  have h1 := h b (by simpa using hb)
  rw [List.all_eq_true] at h1
  have h2 := h1 c (by simpa using hc)
  unfold belowChk at h2
  rw [Nat.eq_of_beq_eq_true h2]
  by_cases hbc : b < c
  · have h3 : Nat.blt b c = true := by rw [Nat.blt_eq]; exact hbc
    simp [hbc, h3]
  · have : Nat.blt b c = false := by rw [Bool.eq_false_iff]; intro h4; rw [Nat.blt_eq] at h4; exact hbc h4
    simp [hbc, this]
theorem lane_borrow (b c : Nat) : (c &&& 127) ≤ (b ||| 128) := by
  have h1 : c &&& 127 ≤ 127 := Nat.and_le_right
  have h2 : 128 ≤ b ||| 128 := Nat.right_le_or
  omega

theorem below_eq (w c : Nat) (hw : w < 18446744073709551616) (hc : c < 256) :
    (((18446744073709551615 - w) &&& spreadL c) ||| ((18446744073709551615 - (w ^^^ spreadL c)) &&& (18446744073709551615 - ((w ||| 9259542123273814144) - (spreadL c &&& 9187201950435737471))))) &&& 9259542123273814144 = belowL w c := by
  have hl := cut_length 8 w
  have hb := cut_byt 8 w
  have hj : jn (cut 8 w) = w := jn_cut 8 w hw
  unfold belowL
  generalize cut 8 w = l at hl hb hj
  have e7 : 9187201950435737471 = jn (l.map fun _ => 127) := by rw [jn_const l hl]
  have e8 : 9259542123273814144 = jn (l.map fun _ => 128) := by rw [jn_const l hl]
  have e9 : 18446744073709551615 = jn (l.map fun _ => 255) := by rw [jn_const l hl]
  have es : spreadL c = jn (l.map fun _ => c) := by rw [jn_const l hl, spread_eq]
  have ew : w = jn (l.map fun b => b) := by rw [jn_id, hj]
  rw [e7, e8, e9, es, ew]
  have o1 : ∀ b ∈ l, b ||| 128 < 256 := fun b h => Nat.or_lt_two_pow (n := 8) (hb b h) (by omega)
  have x1 : ∀ b ∈ l, b ^^^ c < 256 := fun b h => Nat.xor_lt_two_pow (n := 8) (hb b h) hc
  have a1 : c &&& 127 < 256 := Nat.lt_of_le_of_lt Nat.and_le_right (by omega)
  rw [jn_map_or l _ _ (fun b h => hb b h) (fun _ _ => by omega),
    jn_map_and l (fun _ => c) _ (fun b h => hc) (fun _ _ => by omega),
    (jn_map_sub (fun b => b ||| 128) (fun _ => c &&& 127) l (fun b _ => lane_borrow b c)).1,
    (jn_map_sub (fun _ => 255) (fun b => (b ||| 128) - (c &&& 127)) l (fun b h => by have := o1 b h; omega)).1,
    jn_map_xor l _ _ (fun b h => hb b h) (fun _ _ => hc),
    (jn_map_sub (fun _ => 255) (fun b => b ^^^ c) l (fun b h => by have := x1 b h; omega)).1,
    (jn_map_sub (fun _ => 255) (fun b => b) l (fun b h => by have := hb b h; omega)).1,
    jn_map_and l _ (fun _ => c) (fun b h => by omega) (fun _ _ => hc),
    jn_map_and l _ _ (fun b h => by omega) (fun _ _ => by omega),
    jn_map_or l _ _ (fun b h => Nat.lt_of_le_of_lt Nat.and_le_left (by omega)) (fun b h => Nat.lt_of_le_of_lt Nat.and_le_left (by omega)),
    jn_map_and l _ _ (fun b h => Nat.or_lt_two_pow (n := 8) (Nat.lt_of_le_of_lt Nat.and_le_left (by omega)) (Nat.lt_of_le_of_lt Nat.and_le_left (by omega))) (fun _ _ => by omega)]
  exact jn_congr (fun b h => lane_below b c (hb b h) hc)

/-! ### words out of texts -/
/-- byte i of a text; 0 behind its end -/
def bt (s : ByteArray) (i : Nat) : Nat := if h : i < s.size then s[i].toNat else 0
/-- the byte at a place that may lie ahead of the text -/
def cell (s : ByteArray) (i : Int) : Nat := if 0 ≤ i then bt s i.toNat else 0
theorem bt_lt (s : ByteArray) (i : Nat) : bt s i < 256 := by
  unfold bt; split
  · exact UInt8.toNat_lt _
  · omega
theorem bt_in {s : ByteArray} {i : Nat} (h : i < s.size) : bt s i = s[i].toNat := by unfold bt; rw [dif_pos h]
theorem bt_out {s : ByteArray} {i : Nat} (h : s.size ≤ i) : bt s i = 0 := by unfold bt; rw [dif_neg (by omega)]
theorem cell_lt (s : ByteArray) (i : Int) : cell s i < 256 := by
  unfold cell; split
  · exact bt_lt _ _
  · omega
theorem cell_nat (s : ByteArray) (i : Nat) : cell s (i : Int) = bt s i := by unfold cell; rw [if_pos (by omega)]; rfl
theorem cell_neg (s : ByteArray) (i : Int) (h : i < 0) : cell s i = 0 := by unfold cell; rw [if_neg (by omega)]
theorem cell_out (s : ByteArray) (i : Int) (h : (s.size : Int) ≤ i) : cell s i = 0 := by
  unfold cell; split
  · exact bt_out (by omega)
  · rfl
theorem cell_in (s : ByteArray) (i : Int) (h0 : 0 ≤ i) (h : i < (s.size : Int)) : cell s i = (s[i.toNat]'(by omega)).toNat := by
  unfold cell; rw [if_pos h0, bt_in]
/-- bytes j .. 7 of the word from a place on -/
def ldFrom (s : ByteArray) (a : Int) (j : Nat) : Nat := jn ((List.range' j (8 - j)).map fun k : Nat => cell s (a + (k : Int)))
def ldL (s : ByteArray) (a : Int) : Nat := ldFrom s a 0
theorem ldFrom_8 (s : ByteArray) (a : Int) : ldFrom s a 8 = 0 := by simp [ldFrom, jn]
theorem ldFrom_step (s : ByteArray) (a : Int) (j : Nat) (h : j < 8) : ldFrom s a j = cell s (a + j) + 256 * ldFrom s a (j + 1) := by
  unfold ldFrom
  obtain ⟨m, hm⟩ : ∃ m, 8 - j = m + 1 := ⟨7 - j, by omega⟩
  have hm' : 8 - (j + 1) = m := by omega
  rw [hm, hm', List.range'_succ, List.map_cons, jn]
theorem ldFrom_lt (s : ByteArray) (a : Int) (j : Nat) : ldFrom s a j < 256 ^ (8 - j) := by
  unfold ldFrom
  have := jn_lt ((List.range' j (8 - j)).map fun k : Nat => cell s (a + (k : Int))) (by
    intro b hb; obtain ⟨x, _, rfl⟩ := List.mem_map.1 hb; exact cell_lt _ _)
  simpa using this
theorem ldL_lt (s : ByteArray) (a : Int) : ldL s a < 18446744073709551616 := by unfold ldL; simpa using ldFrom_lt s a 0
theorem ldL_eq (s : ByteArray) (a : Int) : ldL s a = cell s a + 256 * (cell s (a + 1) + 256 * (cell s (a + 2) + 256 * (cell s (a + 3) + 256 * (cell s (a + 4) + 256 * (cell s (a + 5) + 256 * (cell s (a + 6) + 256 * cell s (a + 7))))))) := by
  unfold ldL
  rw [ldFrom_step _ _ 0 (by omega), ldFrom_step _ _ 1 (by omega), ldFrom_step _ _ 2 (by omega), ldFrom_step _ _ 3 (by omega), ldFrom_step _ _ 4 (by omega), ldFrom_step _ _ 5 (by omega), ldFrom_step _ _ 6 (by omega), ldFrom_step _ _ 7 (by omega), ldFrom_8]
  simp
theorem ldL_out (s : ByteArray) (a : Int) (h : a ≤ -8 ∨ (s.size : Int) ≤ a) : ldL s a = 0 := by
  have h0 : ∀ k : Nat, k < 8 → cell s (a + k) = 0 := by
    intro k hk
    rcases h with h | h
    · exact cell_neg _ _ (by omega)
    · exact cell_out _ _ (by omega)
  have e0 := h0 0; have e1 := h0 1; have e2 := h0 2; have e3 := h0 3; have e4 := h0 4; have e5 := h0 5; have e6 := h0 6; have e7 := h0 7
  simp at e0 e1 e2 e3 e4 e5 e6 e7
  rw [ldL_eq, e0, e1, e2, e3, e4, e5, e6, e7]
theorem bt_extract (s : ByteArray) (a i : Nat) (h : a ≤ s.size) : bt (s.extract a s.size) i = bt s (a + i) := by
  by_cases hi : a + i < s.size
  · have h1 : i < (s.extract a s.size).size := by simp; omega
    rw [bt_in h1, bt_in hi, ByteArray.getElem_extract]
  · rw [bt_out (by simp; omega), bt_out (by omega)]
theorem cell_extract (s : ByteArray) (a : Nat) (i : Int) (h : a ≤ s.size) (hi : 0 ≤ i) : cell (s.extract a s.size) i = cell s (a + i) := by
  obtain ⟨k, rfl⟩ := Int.eq_ofNat_of_zero_le hi
  have e : (a : Int) + (k : Int) = ((a + k : Nat) : Int) := by omega
  rw [cell_nat, e, cell_nat, bt_extract s a k h]
theorem ldL_extract (s : ByteArray) (a : Nat) (h : a ≤ s.size) : ldL (s.extract a s.size) 0 = ldL s a := by
  rw [ldL_eq, ldL_eq]
  simp only [Int.zero_add]
  rw [cell_extract s a 0 h (by omega), cell_extract s a 1 h (by omega), cell_extract s a 2 h (by omega), cell_extract s a 3 h (by omega), cell_extract s a 4 h (by omega), cell_extract s a 5 h (by omega), cell_extract s a 6 h (by omega), cell_extract s a 7 h (by omega)]
  simp
theorem ldL_zero (s : ByteArray) : ldL s 0 = bt s 0 + 256 * (bt s 1 + 256 * (bt s 2 + 256 * (bt s 3 + 256 * (bt s 4 + 256 * (bt s 5 + 256 * (bt s 6 + 256 * bt s 7)))))) := by
  rw [ldL_eq]
  have h := cell_nat s
  have e0 := h 0; have e1 := h 1; have e2 := h 2; have e3 := h 3; have e4 := h 4; have e5 := h 5; have e6 := h 6; have e7 := h 7
  simp at e0 e1 e2 e3 e4 e5 e6 e7
  simp [e0, e1, e2, e3, e4, e5, e6, e7]
/-- ahead of the text: the first word, moved up -/
theorem ldL_ahead (s : ByteArray) (j : Nat) (h1 : 1 ≤ j) (h2 : j < 8) : ldL s (-(j : Int)) = ldL s 0 * 256 ^ j % 18446744073709551616 := by
  rw [ldL_zero, ldL_eq]
  have hn : ∀ i : Int, i < 0 → cell s i = 0 := cell_neg s
  have hp : ∀ i : Nat, cell s (i : Int) = bt s i := cell_nat s
  have l0 := bt_lt s 0; have l1 := bt_lt s 1; have l2 := bt_lt s 2; have l3 := bt_lt s 3; have l4 := bt_lt s 4; have l5 := bt_lt s 5; have l6 := bt_lt s 6; have l7 := bt_lt s 7
  have e0 := hp 0; have e1 := hp 1; have e2 := hp 2; have e3 := hp 3; have e4 := hp 4; have e5 := hp 5; have e6 := hp 6; have e7 := hp 7
  simp at e0 e1 e2 e3 e4 e5 e6 e7
  have m1 := hn (-1) (by omega); have m2 := hn (-2) (by omega); have m3 := hn (-3) (by omega); have m4 := hn (-4) (by omega); have m5 := hn (-5) (by omega); have m6 := hn (-6) (by omega); have m7 := hn (-7) (by omega)
  have hj : j = 1 ∨ j = 2 ∨ j = 3 ∨ j = 4 ∨ j = 5 ∨ j = 6 ∨ j = 7 := by omega
  rcases hj with rfl | rfl | rfl | rfl | rfl | rfl | rfl <;> simp [e0, e1, e2, e3, e4, e5, e6, m1, m2, m3, m4, m5, m6, m7] <;> omega

end Swar
