/-
  A packed text that is laid out of pieces is read as just these. Conditions: each piece may stand where it stands, and there is room.
-/
import Derived.Test.YtchjmhgalbkjkaaLzC
import Derived.Test.YtchjmhgalbkjkaaLzG
namespace Lz
theorem lenb_length (n : Nat) : (lenb n).length = beh n := by
  unfold lenb beh
  split
  · rfl
  · simp; omega
theorem lens_rep (t : List Nat) (r room : Nat) (hr : r < 255) : ∀ (q n i : Nat), n + 255 * q + r ≤ room → lens (List.replicate q 255 ++ r :: t) n i room = (0, n + 255 * q + r, i + q + 1)
  | 0, n, i, h => by
    simp only [List.replicate_zero, List.nil_append, lens]
    rw [if_neg (by omega), if_neg (by omega)]
    simp
  | q + 1, n, i, h => by
    rw [List.replicate_succ, List.cons_append, lens, if_neg (by omega), if_pos rfl, lens_rep t r room hr q _ _ (by omega)]
    congr 2 <;> omega
theorem lens_cut (room : Nat) (r : Nat) (hr : r < 255) : ∀ (q j n i : Nat), j ≤ q → n + 255 * q + r ≤ room → lens ((List.replicate q 255 ++ [r]).take j) n i room = (30, 0, 0)
  | q, 0, n, i, _, _ => by simp [lens]
  | 0, j + 1, n, i, h, _ => by omega
  | q + 1, j + 1, n, i, h, hm => by
    rw [List.replicate_succ, List.cons_append, List.take_succ_cons, lens, if_neg (by omega), if_pos rfl]
    exact lens_cut room r hr q j _ _ (by omega) (by omega)
theorem counted_enc (bs t : List Nat) (i c d room : Nat) (hb : bs.drop i = lenb c ++ t) (hr : c + d ≤ room) : counted bs i (min c 15 + d) (min c 15 == 15) room = (0, c + d, i + beh c) := by
  unfold counted
  rw [if_neg (by omega)]
  by_cases h : c < 15
  · have : (min c 15 == 15) = false := by simp; omega
    rw [this, if_neg (by simp)]
    unfold beh
    rw [if_pos h, Nat.min_eq_left (by omega)]
    rfl
  · have : (min c 15 == 15) = true := by simp; omega
    rw [this, if_pos rfl, hb]
    unfold lenb beh
    rw [if_neg h, if_neg h, List.append_assoc, List.singleton_append, lens_rep t _ room (by omega) _ _ _ (by omega)]
    simp only [Prod.mk.injEq, true_and]
    constructor <;> omega
theorem counted_cut (bs : List Nat) (i c d room j : Nat) (hj : j < beh c) (hb : bs.drop i = (lenb c).take j) (hr : c + d ≤ room) : counted bs i (min c 15 + d) (min c 15 == 15) room = (30, 0, 0) := by
  unfold counted
  rw [if_neg (by omega)]
  unfold beh at hj
  by_cases h : c < 15
  · rw [if_pos h] at hj
    omega
  · rw [if_neg h] at hj
    have : (min c 15 == 15) = true := by simp; omega
    rw [this, if_pos rfl, hb]
    unfold lenb
    rw [if_neg h]
    exact lens_cut room _ (by omega) _ _ _ _ (by omega) (by omega)
/-- a piece: literals, offset, count -/
structure Pc where
  lit : List Nat
  off : Nat
  len : Nat
def enc1 (x : Pc) : List Nat := lits x.lit (x.len - 4) ++ ([x.off % 256, x.off / 256] ++ lenb (x.len - 4))
def enc : List Pc → List Nat
  | [] => []
  | x :: l => enc1 x ++ enc l
theorem enc_append : ∀ a b, enc (a ++ b) = enc a ++ enc b
  | [], b => rfl
  | x :: a, b => by rw [List.cons_append, enc, enc_append a b, enc, List.append_assoc]
def okP : Nat → List Pc → Prop
  | _, [] => True
  | h, x :: l => 4 ≤ x.len ∧ 1 ≤ x.off ∧ x.off ≤ 65535 ∧ x.off ≤ h + x.lit.length ∧ okP (h + x.lit.length + x.len) l
def tot : List Pc → Nat
  | [] => 0
  | x :: l => x.lit.length + x.len + tot l
theorem tot_append : ∀ a b, tot (a ++ b) = tot a + tot b
  | [], b => by simp [tot]
  | x :: a, b => by simp only [List.cons_append, tot, tot_append a b]; omega
theorem okP_append : ∀ (a b : List Pc) (h : Nat), okP h (a ++ b) ↔ okP h a ∧ okP (h + tot a) b
  | [], b, h => by simp [okP, tot]
  | x :: a, b, h => by
    simp only [List.cons_append, okP, tot, okP_append a b]
    rw [show h + x.lit.length + x.len + tot a = h + (x.lit.length + x.len + tot a) by omega]
    constructor
    · rintro ⟨a1, a2, a3, a4, a5, a6⟩; exact ⟨⟨a1, a2, a3, a4, a5⟩, a6⟩
    · rintro ⟨⟨a1, a2, a3, a4, a5⟩, a6⟩; exact ⟨a1, a2, a3, a4, a5, a6⟩
theorem lits_length (p : List Nat) (b : Nat) : (lits p b).length = 1 + beh p.length + p.length := by
  simp only [lits, List.length_cons, List.length_append, lenb_length]; omega
theorem enc1_length (x : Pc) (h : 4 ≤ x.len) : (enc1 x).length = sz x.lit.length x.len := by
  simp only [enc1, List.length_append, lits_length, List.length_cons, List.length_nil, lenb_length, sz]
  rw [if_pos (by omega)]
theorem drop_more (bs a t : List Nat) (i : Nat) (h : bs.drop i = a ++ t) : bs.drop (i + a.length) = t := by
  rw [← List.drop_drop, h, List.drop_left]
theorem drop_len (bs a : List Nat) (i : Nat) (h : bs.drop i = a) (hi : i ≤ bs.length) : bs.length = i + a.length := by
  have := congrArg List.length h
  simp at this
  omega
theorem drop_in (bs a : List Nat) (i : Nat) (h : bs.drop i = a) (ha : a ≠ []) : i < bs.length := by
  apply Nat.lt_of_not_le
  intro hh
  rw [List.drop_eq_nil_of_le hh] at h
  exact ha h.symm
theorem getD_drop (bs : List Nat) (i k : Nat) : bs.getD (i + k) 0 = (bs.drop i).getD k 0 := by
  simp [List.getD]
theorem tok_hi (a b : Nat) : (16 * min a 15 + min b 15) / 16 = min a 15 := by omega
theorem tok_lo (a b : Nat) : (16 * min a 15 + min b 15) % 16 = min b 15 := by omega
/-- the head of a sequence: its token and its literals -/
theorem head_enc (bs p t : List Nat) (b i said ahead most : Nat) (hb : bs.drop i = lits p b ++ t) (hr : p.length + said ≤ most) :
    next bs i said ahead most = nextB bs i (min b 15) said ahead most (0, p.length, i + 1 + beh p.length) ∧ bs.drop (i + 1 + beh p.length) = p ++ t ∧ i + 1 + beh p.length + p.length + t.length = bs.length := by
  have hi : i < bs.length := drop_in bs _ i hb (by simp [lits])
  have h0 : bs.getD i 0 = 16 * min p.length 15 + min b 15 := by
    have := getD_drop bs i 0
    rw [Nat.add_zero, hb] at this
    rw [this]
    rfl
  have h1 : bs.drop (i + 1) = lenb p.length ++ (p ++ t) := by
    rw [← List.drop_drop, hb]
    simp [lits]
  have h2 : bs.drop (i + 1 + beh p.length) = p ++ t := by
    have := drop_more bs _ _ _ h1
    rwa [lenb_length] at this
  refine ⟨?_, h2, ?_⟩
  · unfold next
    rw [if_neg (by omega), h0, tok_hi, tok_lo]
    have := counted_enc bs _ (i + 1) p.length 0 (most - said) h1 (by omega)
    simp only [Nat.add_zero] at this
    rw [this]
  · have := drop_len bs _ i hb (by omega)
    rw [List.length_append, lits_length] at this
    omega
theorem next_enc (bs t : List Nat) (x : Pc) (i said ahead most : Nat) (hb : bs.drop i = enc1 x ++ t) (h4 : 4 ≤ x.len) (h1 : 1 ≤ x.off) (h2 : x.off ≤ 65535) (h3 : x.off ≤ ahead + said + x.lit.length) (hr : said + x.lit.length + x.len ≤ most) :
    next bs i said ahead most = ⟨0, 0, i + 1 + beh x.lit.length, x.lit.length, x.off, x.len, i + sz x.lit.length x.len⟩ := by
  have hb2 : bs.drop i = lits x.lit (x.len - 4) ++ ([x.off % 256, x.off / 256] ++ (lenb (x.len - 4) ++ t)) := by
    rw [hb]; simp [enc1]
  obtain ⟨e1, e2, e3⟩ := head_enc bs _ _ _ i said ahead most hb2 (by omega)
  have e4 := drop_more bs _ _ _ e2
  have e5 : bs.drop (i + 1 + beh x.lit.length + x.lit.length + 2) = lenb (x.len - 4) ++ t := by
    rw [← List.drop_drop, e4]; simp
  have e6 : offAt bs (i + 1 + beh x.lit.length + x.lit.length) = x.off := by
    unfold offAt
    have a := getD_drop bs (i + 1 + beh x.lit.length + x.lit.length) 0
    have b := getD_drop bs (i + 1 + beh x.lit.length + x.lit.length) 1
    rw [e4] at a b
    rw [Nat.add_zero] at a
    rw [a, b]
    show x.off % 256 + 256 * (x.off / 256) = x.off
    omega
  simp only [List.length_append, List.length_cons, List.length_nil] at e3
  rw [e1]
  unfold nextB
  simp only
  rw [if_neg (by omega), if_neg (by simp), if_neg (by omega), if_neg (by omega), if_neg (by omega), e6, if_neg (by omega)]
  have := counted_enc bs _ _ (x.len - 4) 4 (most - said - x.lit.length) e5 (by omega)
  rw [this]
  unfold nextC
  rw [if_neg (by simp), if_neg (by simp)]
  simp only [Part.mk.injEq, true_and, sz]
  rw [if_pos (by omega)]
  constructor <;> omega
theorem next_last (bs e : List Nat) (i said ahead most : Nat) (hb : bs.drop i = lits e 0) (hr : said + e.length ≤ most) :
    next bs i said ahead most = ⟨0, 0, i + 1 + beh e.length, e.length, 0, 0, bs.length⟩ := by
  obtain ⟨e1, e2, e3⟩ := head_enc bs e [] 0 i said ahead most (by rw [hb]; simp) (by omega)
  simp only [List.length_nil] at e3
  rw [e1]
  unfold nextB
  simp only
  rw [if_neg (by omega), if_neg (by simp), if_neg (by omega), if_pos (by omega)]
  simp only [Part.mk.injEq, true_and]
  omega
/-- where the pieces come to lie -/
def sqs : Nat → List Pc → List Nat → List Sq
  | i, [], e => [⟨i, i + 1 + beh e.length, e.length, 0, 0⟩]
  | i, x :: l, e => ⟨i, i + 1 + beh x.lit.length, x.lit.length, x.off, x.len⟩ :: sqs (i + sz x.lit.length x.len) l e
theorem walk_enc (bs e : List Nat) (ahead most : Nat) : ∀ (l : List Pc) (f i said : Nat), bs.drop i = enc l ++ lits e 0 → okP (ahead + said) l → said + tot l + e.length ≤ most → l.length < f → walk bs ahead most f i said = (sqs i l e, 0, 0)
  | _, 0, _, _, _, _, _, hf => by omega
  | [], f + 1, i, said, hb, _, hr, _ => by
    rw [walk, next_last bs e i said ahead most hb (by simp [tot] at hr; omega)]
    rfl
  | x :: l, f + 1, i, said, hb, ho, hr, hf => by
    obtain ⟨o1, o2, o3, o4, o5⟩ := ho
    simp only [tot] at hr
    simp only [List.length_cons] at hf
    have hb2 : bs.drop i = enc1 x ++ (enc l ++ lits e 0) := by rw [hb, enc, List.append_assoc]
    have hn := next_enc bs _ x i said ahead most hb2 o1 o2 o3 o4 (by omega)
    have hd := drop_more bs _ _ _ hb2
    rw [enc1_length x o1] at hd
    rw [walk, hn]
    simp only
    rw [if_neg (by simp), if_neg (by omega), walk_enc bs e ahead most l f _ _ hd (by rw [show ahead + (said + x.lit.length + x.len) = ahead + said + x.lit.length + x.len by omega]; exact o5) (by omega) (by omega)]
    rfl
/-- what pieces say behind a text -/
def sayP : List Nat → List Pc → List Nat
  | b, [] => b
  | b, x :: l => sayP (grow x.off x.len (b ++ x.lit)) l
theorem sayP_append : ∀ (a b : List Pc) (t : List Nat), sayP t (a ++ b) = sayP (sayP t a) b
  | [], b, t => rfl
  | x :: a, b, t => by rw [List.cons_append, sayP, sayP_append a b, sayP]
theorem says_cons (bs bef : List Nat) (x : Sq) (l : List Sq) : says bs bef (x :: l) = says bs (say bs bef x) l := rfl
theorem says_enc (bs e : List Nat) : ∀ (l : List Pc) (i h : Nat) (bef : List Nat), bs.drop i = enc l ++ lits e 0 → okP h l → says bs bef (sqs i l e) = sayP bef l ++ e
  | [], i, h, bef, hb, _ => by
    obtain ⟨_, e2, _⟩ := head_enc bs e [] 0 i 0 0 e.length (by rw [hb]; simp [enc]) (by omega)
    simp only [sqs, says_cons, say, sayP, grow]
    rw [e2]
    simp [says]
  | x :: l, i, h, bef, hb, ho => by
    obtain ⟨o1, o2, o3, o4, o5⟩ := ho
    have hb2 : bs.drop i = enc1 x ++ (enc l ++ lits e 0) := by rw [hb, enc, List.append_assoc]
    have hb3 : bs.drop i = lits x.lit (x.len - 4) ++ ([x.off % 256, x.off / 256] ++ (lenb (x.len - 4) ++ (enc l ++ lits e 0))) := by
      rw [hb2]; simp [enc1]
    obtain ⟨_, e2, _⟩ := head_enc bs _ _ _ i 0 0 x.lit.length hb3 (by omega)
    have hd := drop_more bs _ _ _ hb2
    rw [enc1_length x o1] at hd
    rw [sqs, says_cons, says_enc bs e l _ _ _ hd o5]
    rw [sayP]
    simp only [say]
    rw [e2, List.take_left]
theorem total_sqs (e : List Nat) : ∀ (l : List Pc) (i : Nat), total (sqs i l e) = tot l + e.length
  | [], i => by simp [sqs, total, tot]
  | x :: l, i => by simp only [sqs, total, tot, total_sqs e l]; omega
theorem sayP_pre : ∀ (l : List Pc) (b : List Nat), ∃ t, sayP b l = b ++ t ∧ t.length = tot l
  | [], b => ⟨[], by simp [sayP], rfl⟩
  | x :: l, b => by
    obtain ⟨t1, h1, h2⟩ := grow_pre x.off x.len (b ++ x.lit)
    obtain ⟨t2, h3, h4⟩ := sayP_pre l (grow x.off x.len (b ++ x.lit))
    refine ⟨x.lit ++ (t1 ++ t2), ?_, by simp [tot]; omega⟩
    rw [sayP, h3, h1]
    simp
/-- an end ahead of its own -/
theorem walk_open (bs : List Nat) (ahead most : Nat) : ∀ (l : List Pc) (f i said : Nat), bs.drop i = enc l → i ≤ bs.length → okP (ahead + said) l → said + tot l ≤ most → l.length < f → (walk bs ahead most f i said).2 = (30, bs.length)
  | _, 0, _, _, _, _, _, _, hf => by omega
  | [], f + 1, i, said, hb, hi, _, hr, _ => by
    have := drop_len bs _ i hb hi
    simp only [enc, List.length_nil, Nat.add_zero] at this
    have hn : next bs i said ahead most = ⟨30, bs.length, 0, 0, 0, 0, 0⟩ := by
      unfold next
      rw [if_pos (by omega)]
    rw [walk, hn, if_pos (by simp)]
  | x :: l, f + 1, i, said, hb, hi, ho, hr, hf => by
    obtain ⟨o1, o2, o3, o4, o5⟩ := ho
    simp only [tot] at hr
    simp only [List.length_cons] at hf
    have hb2 : bs.drop i = enc1 x ++ enc l := hb
    have hn := next_enc bs _ x i said ahead most hb2 o1 o2 o3 o4 (by omega)
    have hd := drop_more bs _ _ _ hb2
    have hlen := drop_len bs _ i hb2 hi
    rw [List.length_append] at hlen
    rw [enc1_length x o1] at hd hlen
    rw [walk, hn]
    simp only
    rw [if_neg (by simp), if_neg (by omega)]
    exact walk_open bs ahead most l f _ _ hd (by omega) (by rw [show ahead + (said + x.lit.length + x.len) = ahead + said + x.lit.length + x.len by omega]; exact o5) (by omega) (by omega)
end Lz
