/-
  lz4: what is packed, and how it is walked. Conditions: as each says.
-/
import Derived.ControlIn
import Derived.Scope
import Derived.Test.YtlplbnlfajdcbaaGreatDoorMgA
import Derived.WalkMore
import Derived.Lib.EndianBits
import Derived.Lib.MinMax
import Derived.Maps.OwnSet
import Derived.Laws.ResultCell
import Derived.Lib.AppendStr
namespace Go.Proofs.YtlplbnlfajdcbaaGreatDoor
/-- As Q; by a goto to a label l: J l. -/
def jumps (J : Nat → Act → World → Prop) (Q : Exit → Act → World → Prop) : Exit → Act → World → Prop
  | .goto l, a, w => J l a w
  | e, a, w => Q e a w
theorem stepR_scope {P : Program} {b : Frame} {a : Act} {k : List Item} {cs : List Frame} {w : World} {c : Code} : step P (lone (b.atR a (.code (.scope c) :: k)) cs w) = .next (lone (b.atR a (.code c :: .inScope c :: k)) cs w) :=
  step_lone_go (by simp [stepG, stepG.exec, Frame.atR])
theorem stepR_inScope {P : Program} {b : Frame} {a : Act} {k : List Item} {cs : List Frame} {w : World} {c : Code} : step P (lone (b.atR a (.inScope c :: k)) cs w) = .next (lone (b.atR a k) cs w) :=
  step_lone_go (by simp [stepG, stepG.exec, Frame.atR])
theorem wpIn_scope_many {F : Fence} {n : Nat} {P : Program} {a : Act} {w : World} {Q : Exit → Act → World → Prop} {c : Code} (J : Nat → Act → World → Prop) (μ : Nat → Act → World → Nat)
    (rest : Nat → Code) (hf : ∀ l a w, J l a w → findLabel c l = some (rest l))
    (first : c.wpIn F n P (jumps J Q) a w)
    (pass : ∀ l a w, J l a w → (rest l).wpIn F n P (jumps (fun l' a' w' => J l' a' w' ∧ μ l' a' w' < μ l a w) Q) a w) : (Code.scope c).wpIn F n P Q a w := by
  intro b k cs hro hb hr
  have h0 : (lone (b.atR a (.code (.scope c) :: k)) cs w).fenced P F := fenced_calm hb hr rfl
  have hg : ∀ l a w, J l a w → gotoIn l (.inScope c :: k) = some (.code (rest l) :: .inScope c :: k) := by
    intro l a w h
    simp [gotoIn, hf l a w h]
  have key : ∀ m l a w, μ l a w = m → J l a w → ∃ e a' w', Q e a' w' ∧ ArrivesIn (Machine.fenced P F) P (lone (b.atR a (.code (rest l) :: .inScope c :: k)) cs w) b k cs e a' w' := by
    intro m
    induction m using Nat.strongRecOn with
    | _ m ih =>
      intro l a w hn hJ
      obtain ⟨e, a₁, w₁, hq, harr⟩ := pass l a w hJ b (.inScope c :: k) cs hro hb hr
      cases e with
      | normal => exact ⟨.normal, a₁, w₁, hq, StepsIn.trans harr (.one (fenced_calm hb hr rfl) stepR_inScope)⟩
      | exit id => exact ⟨.exit id, a₁, w₁, hq, fun k' hk => harr.1 k' (by simp [exitTo, hk]), fun hr' hk => harr.2 hr' (by simp [exitTo, hk])⟩
      | goto l' =>
        obtain ⟨hJ', hlt⟩ := hq
        obtain ⟨e₂, a₂, w₂, hq₂, harr₂⟩ := ih _ (by omega) l' a₁ w₁ rfl hJ'
        exact ⟨e₂, a₂, w₂, hq₂, .of_steps (harr.1 _ (hg l' a₁ w₁ hJ')) harr₂⟩
      | ret => exact ⟨_, a₁, w₁, hq, harr⟩
      | panic ch => exact ⟨_, a₁, w₁, hq, harr⟩
      | outgrown => exact ⟨_, a₁, w₁, hq, harr⟩
  obtain ⟨e, a₁, w₁, hq, harr⟩ := first b (.inScope c :: k) cs hro hb hr
  cases e with
  | normal => exact ⟨.normal, a₁, w₁, hq, .head h0 stepR_scope (StepsIn.trans harr (.one (fenced_calm hb hr rfl) stepR_inScope))⟩
  | exit id => exact ⟨.exit id, a₁, w₁, hq, fun k' hk => .head h0 stepR_scope (harr.1 k' (by simp [exitTo, hk])), fun hr' hk => let ⟨k₁, h1, h2⟩ := harr.2 hr' (by simp [exitTo, hk]); ⟨k₁, h1, .head h0 stepR_scope h2⟩⟩
  | goto l' =>
    obtain ⟨e₂, a₂, w₂, hq₂, harr₂⟩ := key _ l' a₁ w₁ rfl hq
    exact ⟨e₂, a₂, w₂, hq₂, .of_steps (.head h0 stepR_scope (harr.1 _ (hg l' a₁ w₁ hq))) harr₂⟩
  | ret => exact ⟨_, a₁, w₁, hq, .of_steps (.one h0 stepR_scope) harr⟩
  | panic ch => exact ⟨_, a₁, w₁, hq, .of_steps (.one h0 stepR_scope) harr⟩
  | outgrown => exact ⟨_, a₁, w₁, hq, .of_steps (.one h0 stepR_scope) harr⟩
/-- three labels, out of any fence -/
def jump3 (J0 J1 J2 : Act → World → Prop) (Q : Exit → Act → World → Prop) : Exit → Act → World → Prop
  | .goto 0, a, w => J0 a w
  | .goto 1, a, w => J1 a w
  | .goto 2, a, w => J2 a w
  | .goto _, _, _ => False
  | e, a, w => Q e a w
def pick3 (J0 J1 J2 : Act → World → Prop) : Nat → Act → World → Prop
  | 0 => J0
  | 1 => J1
  | 2 => J2
  | _ => fun _ _ => False
theorem jump3_jumps {J0 J1 J2 : Act → World → Prop} {Q : Exit → Act → World → Prop} {e : Exit} {a : Act} {w : World} (h : jump3 J0 J1 J2 Q e a w) : jumps (pick3 J0 J1 J2) Q e a w := by
  cases e with
  | goto l =>
    match l with
    | 0 => exact h
    | 1 => exact h
    | 2 => exact h
    | (n + 3) => exact h
  | normal => exact h
  | exit id => exact h
  | ret => exact h
  | panic ch => exact h
  | outgrown => exact h
theorem jump3_mono {J0 J1 J2 K0 K1 K2 : Act → World → Prop} {Q : Exit → Act → World → Prop} (h0 : ∀ a w, J0 a w → K0 a w) (h1 : ∀ a w, J1 a w → K1 a w) (h2 : ∀ a w, J2 a w → K2 a w) {e : Exit} {a : Act} {w : World} (h : jump3 J0 J1 J2 Q e a w) : jump3 K0 K1 K2 Q e a w := by
  cases e with
  | goto l =>
    match l with
    | 0 => exact h0 _ _ h
    | 1 => exact h1 _ _ h
    | 2 => exact h2 _ _ h
    | (n + 3) => exact h
  | normal => exact h
  | exit id => exact h
  | ret => exact h
  | panic ch => exact h
  | outgrown => exact h
theorem wp_jump3_mono {P : Program} {c : Code} {J0 J1 J2 K0 K1 K2 : Act → World → Prop} {Q : Exit → Act → World → Prop} (h0 : ∀ a w, J0 a w → K0 a w) (h1 : ∀ a w, J1 a w → K1 a w) (h2 : ∀ a w, J2 a w → K2 a w) {a : Act} {w : World} (h : c.wp P (jump3 J0 J1 J2 Q) a w) : c.wp P (jump3 K0 K1 K2 Q) a w :=
  wpIn_wide (n := 0).1 (wpIn_mono (wpIn_wide.2 h) fun _ _ _ h => jump3_mono h0 h1 h2 h)
theorem wp_scope_three {P : Program} {a : Act} {w : World} {Q : Exit → Act → World → Prop} {c r0 r1 r2 : Code} (J0 J1 J2 : Act → World → Prop) (m0 m1 m2 : Act → World → Nat)
    (h0 : findLabel c 0 = some (.seq .skip r0)) (h1 : findLabel c 1 = some (.seq .skip r1)) (h2 : findLabel c 2 = some (.seq .skip r2))
    (p1 : ∀ a w, J1 a w → r1.wp P (jump3 (fun a' w' => J0 a' w' ∧ m0 a' w' < m1 a w) (fun a' w' => J1 a' w' ∧ m1 a' w' < m1 a w) (fun a' w' => J2 a' w' ∧ m2 a' w' < m1 a w) Q) a w)
    (p2 : ∀ a w, J2 a w → r2.wp P (jump3 (fun a' w' => J0 a' w' ∧ m0 a' w' < m2 a w) (fun a' w' => J1 a' w' ∧ m1 a' w' < m2 a w) (fun a' w' => J2 a' w' ∧ m2 a' w' < m2 a w) Q) a w)
    (p0' : (∀ a w, J1 a w → r1.wp P (jump3 (fun a' w' => J0 a' w' ∧ m0 a' w' < m1 a w) (fun a' w' => J1 a' w' ∧ m1 a' w' < m1 a w) (fun a' w' => J2 a' w' ∧ m2 a' w' < m1 a w) Q) a w) →
      ∀ a w, J0 a w → r0.wp P (jump3 (fun a' w' => J0 a' w' ∧ m0 a' w' < m0 a w) (fun a' w' => J1 a' w' ∧ m1 a' w' < m0 a w) (fun a' w' => J2 a' w' ∧ m2 a' w' < m0 a w) Q) a w)
    (first' : (∀ a w, J0 a w → r0.wp P (jump3 J0 J1 J2 Q) a w) → c.wp P (jump3 J0 J1 J2 Q) a w) :
    (Code.scope c).wp P Q a w := by
  have p0 := p0' p1
  have first : c.wp P (jump3 J0 J1 J2 Q) a w := first' fun a w h => wpIn_wide (n := 0).1 (wpIn_mono (wpIn_wide.2 (p0 a w h)) fun e a' w' h => jump3_mono (fun _ _ h => h.1) (fun _ _ h => h.1) (fun _ _ h => h.1) h)
  refine wpIn_wide (n := 0).1 (wpIn_scope_many (pick3 J0 J1 J2) (fun l => match l with | 0 => m0 | 1 => m1 | _ => m2) (fun l => match l with | 0 => .seq .skip r0 | 1 => .seq .skip r1 | _ => .seq .skip r2) ?_ ?_ ?_)
  · intro l a w h
    match l with
    | 0 => exact h0
    | 1 => exact h1
    | 2 => exact h2
    | (n + 3) => exact h.elim
  · exact wpIn_mono (wpIn_wide.2 first) (fun _ _ _ h => jump3_jumps h)
  · intro l a w h
    match l with
    | 0 => exact wpIn_mono (wpIn_seq (wpIn_skip (wpIn_wide.2 (p0 a w h)))) (fun e a' w' h => by have := jump3_jumps h; cases e with
      | goto l => (match l with
        | 0 => exact this
        | 1 => exact this
        | 2 => exact this
        | (n + 3) => exact this.elim)
      | normal => exact this
      | exit id => exact this
      | ret => exact this
      | panic ch => exact this
      | outgrown => exact this)
    | 1 => exact wpIn_mono (wpIn_seq (wpIn_skip (wpIn_wide.2 (p1 a w h)))) (fun e a' w' h => by have := jump3_jumps h; cases e with
      | goto l => (match l with
        | 0 => exact this
        | 1 => exact this
        | 2 => exact this
        | (n + 3) => exact this.elim)
      | normal => exact this
      | exit id => exact this
      | ret => exact this
      | panic ch => exact this
      | outgrown => exact this)
    | 2 => exact wpIn_mono (wpIn_seq (wpIn_skip (wpIn_wide.2 (p2 a w h)))) (fun e a' w' h => by have := jump3_jumps h; cases e with
      | goto l => (match l with
        | 0 => exact this
        | 1 => exact this
        | 2 => exact this
        | (n + 3) => exact this.elim)
      | normal => exact this
      | exit id => exact this
      | ret => exact this
      | panic ch => exact this
      | outgrown => exact this)
    | (n + 3) => exact h.elim
end Go.Proofs.YtlplbnlfajdcbaaGreatDoor

namespace Lz
def lens : List Nat → Nat → Nat → Nat → Nat × Nat × Nat
  | [], _, _, _ => (30, 0, 0)
  | c :: l, n, i, room => if room < n + c then (41, 0, 0) else if c = 255 then lens l (n + c) (i + 1) room else (0, n + c, i + 1)
def counted (bs : List Nat) (i n : Nat) (more : Bool) (room : Nat) : Nat × Nat × Nat :=
  if room < n then (41, 0, 0) else if more then lens (bs.drop i) n i room else (0, n, i)
theorem drop_cons (bs : List Nat) (i : Nat) (h : i < bs.length) : bs.drop i = bs.getD i 0 :: bs.drop (i + 1) := by
  rw [List.drop_eq_getElem_cons h]
  simp [List.getD, h]
theorem counted_most (bs : List Nat) (i n : Nat) (more : Bool) (room : Nat) (h : room < n) : counted bs i n more room = (41, 0, 0) := by simp [counted, h]
theorem counted_done (bs : List Nat) (i n room : Nat) (h : ¬ room < n) : counted bs i n false room = (0, n, i) := by simp [counted, h]
theorem counted_short (bs : List Nat) (i n room : Nat) (h : ¬ room < n) (hi : bs.length ≤ i) : counted bs i n true room = (30, 0, 0) := by
  simp [counted, h, List.drop_eq_nil_of_le hi, lens]
theorem counted_step (bs : List Nat) (i n room : Nat) (h : ¬ room < n) (hi : i < bs.length) :
    counted bs i n true room = counted bs (i + 1) (n + bs.getD i 0) (bs.getD i 0 == 255) room := by
  unfold counted
  rw [if_neg h, if_pos rfl, drop_cons bs i hi, lens]
  simp
structure Part where
  code : Nat
  place : Nat
  frm : Nat
  many : Nat
  off : Nat
  len : Nat
  nxt : Nat
/-- what is left of a sequence behind its copy's count -/
def nextC (bs : List Nat) (token frm many off : Nat) (m : Nat × Nat × Nat) : Part :=
  if m.1 = 41 then ⟨41, token, 0, 0, 0, 0, 0⟩ else if m.1 ≠ 0 then ⟨30, bs.length, 0, 0, 0, 0, 0⟩ else ⟨0, 0, frm, many, off, m.2.1, m.2.2⟩
def offAt (bs : List Nat) (p : Nat) : Nat := bs.getD p 0 + 256 * bs.getD (p + 1) 0
/-- what is left of it behind its literals' count -/
def nextB (bs : List Nat) (token low said ahead most : Nat) (c : Nat × Nat × Nat) : Part :=
  if c.1 = 41 then ⟨41, token, 0, 0, 0, 0, 0⟩
  else if c.1 ≠ 0 then ⟨30, bs.length, 0, 0, 0, 0, 0⟩
  else if bs.length < c.2.2 + c.2.1 then ⟨30, bs.length, 0, 0, 0, 0, 0⟩
  else if c.2.2 + c.2.1 = bs.length then ⟨0, 0, c.2.2, c.2.1, 0, 0, c.2.2 + c.2.1⟩
  else if c.2.2 + c.2.1 + 1 = bs.length then ⟨30, bs.length, 0, 0, 0, 0, 0⟩
  else if offAt bs (c.2.2 + c.2.1) = 0 ∨ ahead + said + c.2.1 < offAt bs (c.2.2 + c.2.1) then ⟨40, c.2.2 + c.2.1, 0, 0, 0, 0, 0⟩
  else nextC bs token c.2.2 c.2.1 (offAt bs (c.2.2 + c.2.1)) (counted bs (c.2.2 + c.2.1 + 2) (low + 4) (low == 15) (most - said - c.2.1))
/-- the sequence at a place -/
def next (bs : List Nat) (i said ahead most : Nat) : Part :=
  if bs.length ≤ i then ⟨30, bs.length, 0, 0, 0, 0, 0⟩
  else nextB bs i (bs.getD i 0 % 16) said ahead most (counted bs (i + 1) (bs.getD i 0 / 16) (bs.getD i 0 / 16 == 15) (most - said))
structure Sq where
  token : Nat
  frm : Nat
  many : Nat
  off : Nat
  len : Nat
def seqOf (i : Nat) (p : Part) : Sq := ⟨i, p.frm, p.many, p.off, p.len⟩
/-- all sequences up to the last one, or an error and its place -/
def walk (bs : List Nat) (ahead most : Nat) : Nat → Nat → Nat → List Sq × Nat × Nat
  | 0, _, _ => ([], 30, bs.length)
  | f + 1, i, said =>
    if (next bs i said ahead most).code ≠ 0 then ([], (next bs i said ahead most).code, (next bs i said ahead most).place)
    else if (next bs i said ahead most).len = 0 then ([seqOf i (next bs i said ahead most)], 0, 0)
    else (seqOf i (next bs i said ahead most) :: (walk bs ahead most f (next bs i said ahead most).nxt (said + (next bs i said ahead most).many + (next bs i said ahead most).len)).1,
      (walk bs ahead most f (next bs i said ahead most).nxt (said + (next bs i said ahead most).many + (next bs i said ahead most).len)).2)
end Lz

namespace Go.Proofs.YtlplbnlfajdcbaaGreatDoor
open Go.RowKit
set_option linter.unusedVariables false
theorem idx_any (s : ByteArray) (i c : Nat) (hi : i < s.size) (hc : c = (Sums.bl s).getD i 0) (W : World) : (Instr.index 9 (.string s) (.int .i64 (i : Int))).run Tryz.prog W = .ok (.int .u8 (c : Int)) W := by
  have hg := Sums.bl_get s i hi
  rw [run_index_string W 9 _ .i64 (i : Int) Tryz.underlying9, dif_pos ⟨by omega, by omega⟩]
  simp only [Int.toNat_natCast]
  rw [hc, hg]
theorem byte_lt (s : ByteArray) (i c : Nat) (hc : c = (Sums.bl s).getD i 0) : c < 256 := by
  subst hc
  rw [List.getD_eq_getElem?_getD]
  cases h : (Sums.bl s)[i]? with
  | none => simp
  | some b => exact Sums.bl_byt s b (List.mem_of_getElem? h)
theorem ofInt_64 (a : Nat) (ha : a < 18446744073709551616) : (BitVec.ofInt 64 (a : Int)).toNat = a := by
  rw [BitVec.ofInt_natCast, BitVec.toNat_ofNat]
  exact Nat.mod_eq_of_lt (by omega)
theorem or_two (c d : Nat) (hc : c < 256) (hd : d < 256) : bits .or .i64 (c : Int) ((d : Int) * 256) = ((c + 256 * d : Nat) : Int) := by
  have e : c ||| (d * 256) = c + 256 * d := by
    have h := Nat.shiftLeft_add_eq_or_of_lt (i := 8) (b := c) (by omega) d
    rw [Nat.shiftLeft_eq] at h
    rw [Nat.or_comm, ← h]
    omega
  have hx : c ||| (d * 256) < 2 ^ 64 := by rw [e]; omega
  show IntKind.i64.wrap ((BitVec.ofInt 64 (c : Int) ||| BitVec.ofInt 64 ((d : Int) * 256)).toNat : Int) = _
  rw [show (d : Int) * 256 = ((d * 256 : Nat) : Int) by omega, BitVec.toNat_or, ofInt_64 c (by omega), ofInt_64 (d * 256) (by omega), e]
  rw [IntKind.wrap_i64]
  omega
theorem low_half (c : Nat) (hc : c < 256) : bits .and .u8 (c : Int) 15 = ((c % 16 : Nat) : Int) := by
  rw [show (15 : Int) = ((15 : Nat) : Int) from rfl, u8_and_nat c 15 hc (by omega)]
  congr 1
  exact Nat.and_two_pow_sub_one_eq_mod c 4
end Go.Proofs.YtlplbnlfajdcbaaGreatDoor

namespace Lz
def grow (off : Nat) : Nat → List Nat → List Nat
  | 0, l => l
  | k + 1, l => grow off k (l ++ [l.getD (l.length - off) 0])
def lap (l : List Nat) (off k : Nat) : List Nat := (List.range k).map fun i => l.getD (l.length - off + i % off) 0
theorem lap_length (l : List Nat) (off k : Nat) : (lap l off k).length = k := by simp [lap]
theorem getD_left (a b : List Nat) (i : Nat) (h : i < a.length) : (a ++ b).getD i 0 = a.getD i 0 := by
  rw [List.getD_eq_getElem?_getD, List.getD_eq_getElem?_getD, List.getElem?_append_left h]
theorem getD_right (a b : List Nat) (i : Nat) (h : a.length ≤ i) : (a ++ b).getD i 0 = b.getD (i - a.length) 0 := by
  rw [List.getD_eq_getElem?_getD, List.getD_eq_getElem?_getD, List.getElem?_append_right h]
theorem grow_eq (off : Nat) (h0 : 0 < off) : ∀ (k : Nat) (l : List Nat), off ≤ l.length → grow off k l = l ++ lap l off k
  | 0, l, _ => by simp [grow, lap]
  | k + 1, l, h => by
    rw [grow, grow_eq off h0 k _ (by simp; omega), List.append_assoc]
    congr 1
    unfold lap
    rw [List.range_succ_eq_map, List.map_cons, List.map_map, List.singleton_append]
    rw [List.cons_eq_cons]
    refine ⟨by simp, ?_⟩
    · apply List.map_congr_left
      intro i _
      simp only [Function.comp, List.length_append, List.length_cons, List.length_nil]
      have hm := Nat.mod_lt i h0
      have hs : (i + 1) % off = (i % off + 1) % off := (Nat.mod_add_mod i off 1).symm
      show (l ++ [l.getD (l.length - off) 0]).getD (l.length + (0 + 1) - off + i % off) 0 = l.getD (l.length - off + (i + 1) % off) 0
      rw [hs]
      by_cases hc : i % off + 1 < off
      · rw [Nat.mod_eq_of_lt hc, getD_left _ _ _ (by omega)]
        congr 1
        omega
      · have e : i % off + 1 = off := by omega
        rw [e, Nat.mod_self, getD_right _ _ _ (by omega)]
        rw [show l.length + (0 + 1) - off + i % off - l.length = 0 by omega]
        rfl
theorem grow_length (off : Nat) (h0 : 0 < off) (k : Nat) (l : List Nat) (h : off ≤ l.length) : (grow off k l).length = l.length + k := by
  rw [grow_eq off h0 k l h, List.length_append, lap_length]
theorem getD_map_range (f : Nat → Nat) (k i : Nat) (h : i < k) : ((List.range k).map f).getD i 0 = f i := by
  simp [List.getD, h]
theorem grow_step (off : Nat) (h0 : 0 < off) (l : List Nat) (h : off ≤ l.length) (q k : Nat) (hk : k ≤ off + off * q) :
    grow off (off * q + k) l = grow off (off * q) l ++ ((grow off (off * q) l).drop (l.length - off)).take k := by
  rw [grow_eq off h0 _ l h, grow_eq off h0 _ l h, List.append_assoc]
  congr 1
  unfold lap
  rw [List.range_add, List.map_append, List.map_map]
  congr 1
  apply List.ext_getElem
  · simp
    omega
  · intro i h1 h2
    simp only [List.length_map, List.length_range] at h1
    simp only [List.getElem_map, List.getElem_range, Function.comp, List.getElem_take, List.getElem_drop]
    rw [Nat.mul_add_mod]
    by_cases hc : i < off
    · rw [List.getElem_append_left (by omega), Nat.mod_eq_of_lt hc]
      simp [List.getD, show l.length - off + i < l.length by omega]
    · rw [List.getElem_append_right (by omega)]
      simp only [List.getElem_map, List.getElem_range]
      rw [show l.length - off + i - l.length = i - off by omega, Nat.mod_eq_sub_mod (by omega)]
theorem grow_add (off : Nat) : ∀ (a b : Nat) (l : List Nat), grow off (a + b) l = grow off b (grow off a l)
  | 0, b, l => by simp [grow]
  | a + 1, b, l => by rw [show a + 1 + b = (a + b) + 1 by omega, grow, grow_add off a b, grow]
theorem grow_behind (off : Nat) (h0 : 0 < off) (b : List Nat) : ∀ (k : Nat) (l : List Nat), off ≤ l.length → grow off k (b ++ l) = b ++ grow off k l
  | 0, l, _ => rfl
  | k + 1, l, h => by
    rw [grow, grow, getD_right b l _ (by simp; omega), show (b ++ l).length - off - b.length = l.length - off by simp; omega, List.append_assoc, grow_behind off h0 b k _ (by simp; omega)]
theorem grow_reach (off : Nat) (b l : List Nat) (k y : Nat) (hy : l.length + y = off) (hb : y ≤ b.length) (hk : k ≤ y) (h0 : 0 < y) :
    grow off k (b ++ l) = b ++ (l ++ (b.drop (b.length - y)).take k) := by
  rw [grow_eq off (by omega) k _ (by simp; omega), List.append_assoc]
  congr 2
  apply List.ext_getElem
  · simp [lap]
    omega
  · intro i h1 h2
    rw [lap_length] at h1
    simp only [lap, List.getElem_map, List.getElem_range, List.getElem_take, List.getElem_drop]
    rw [Nat.mod_eq_of_lt (by omega), getD_left _ _ _ (by simp; omega), show (b ++ l).length - off + i = b.length - y + i by simp; omega]
    simp [List.getD, show b.length - y + i < b.length by omega]
/-- what a sequence lays behind a text -/
def say (bs : List Nat) (out : List Nat) (x : Sq) : List Nat := grow x.off x.len (out ++ (bs.drop x.frm).take x.many)
def says (bs bef : List Nat) (l : List Sq) : List Nat := l.foldl (say bs) bef
theorem says_snoc (bs bef : List Nat) (l : List Sq) (x : Sq) : says bs bef (l ++ [x]) = say bs (says bs bef l) x := by simp [says]
end Lz

set_option linter.unusedVariables false
namespace Lz
theorem lens_ok : ∀ (l : List Nat) (n i room m j : Nat), (∀ z ∈ l, z < 256) → lens l n i room = (0, m, j) → n ≤ m ∧ m ≤ room ∧ i < j ∧ j ≤ i + l.length ∧ m ≤ n + 255 * (j - i)
  | [], n, i, room, m, j, _, h => by simp [lens] at h
  | c :: l, n, i, room, m, j, hb, h => by
    have hc := hb c (by simp)
    unfold lens at h
    split at h
    · simp at h
    · split at h
      · have := lens_ok l _ _ _ _ _ (fun z hz => hb z (by simp [hz])) h
        simp only [List.length_cons]
        omega
      · simp at h
        simp only [List.length_cons]
        omega
theorem counted_ok (bs : List Nat) (hb : ∀ z ∈ bs, z < 256) (i n : Nat) (more : Bool) (room m j : Nat) (hi : i ≤ bs.length) (h : counted bs i n more room = (0, m, j)) : n ≤ m ∧ m ≤ room ∧ i ≤ j ∧ j ≤ bs.length ∧ m ≤ n + 255 * (j - i) := by
  unfold counted at h
  split at h
  · simp at h
  · split at h
    · have := lens_ok _ _ _ _ _ _ (fun z hz => hb z (List.mem_of_mem_drop hz)) h
      simp at this
      omega
    · simp at h
      omega
theorem getD_byte (bs : List Nat) (hb : ∀ z ∈ bs, z < 256) (i : Nat) : bs.getD i 0 < 256 := by
  rw [List.getD_eq_getElem?_getD]
  cases h : bs[i]? with
  | none => simp
  | some b => exact hb b (List.mem_of_getElem? h)
/-- a sequence that may be -/
def Fine (bs : List Nat) (ahead said most : Nat) (x : Sq) : Prop :=
  (x.len = 0 ∧ x.off = 0 ∨ 0 < x.len ∧ 0 < x.off ∧ x.off ≤ ahead + (said + x.many)) ∧ x.off ≤ 65535 ∧ x.frm + x.many ≤ bs.length ∧ said + x.many + x.len ≤ most ∧ said + x.many + x.len ≤ 256 * bs.length
theorem next_ok (bs : List Nat) (hb : ∀ z ∈ bs, z < 256) (i said ahead most : Nat) (hs : said ≤ most) (h256 : said ≤ 256 * i) (hi : i ≤ bs.length) (hc : (next bs i said ahead most).code = 0) :
    Fine bs ahead said most (seqOf i (next bs i said ahead most)) ∧ (0 < (next bs i said ahead most).len → i < (next bs i said ahead most).nxt ∧ (next bs i said ahead most).nxt ≤ bs.length ∧ said + (next bs i said ahead most).many + (next bs i said ahead most).len ≤ 256 * (next bs i said ahead most).nxt) := by
  unfold next at hc ⊢
  split
  · rename_i h
    rw [if_pos h] at hc
    simp at hc
  · rename_i h
    rw [if_neg h] at hc
    have hB := getD_byte bs hb i
    generalize hcc : counted bs (i + 1) (bs.getD i 0 / 16) (bs.getD i 0 / 16 == 15) (most - said) = c at hc ⊢
    obtain ⟨e, n, j⟩ := c
    unfold nextB at hc ⊢
    by_cases h41 : e = 41
    · rw [if_pos h41] at hc
      simp at hc
    rw [if_neg h41] at hc ⊢
    by_cases h0 : e ≠ 0
    · rw [if_pos h0] at hc
      simp at hc
    rw [if_neg h0] at hc ⊢
    have he : e = 0 := by omega
    subst he
    obtain ⟨o1, o2, o3, o4, o5⟩ := counted_ok bs hb _ _ _ _ _ _ (by omega) hcc
    by_cases h1 : bs.length < j + n
    · rw [if_pos h1] at hc
      simp at hc
    rw [if_neg h1] at hc ⊢
    by_cases h2 : j + n = bs.length
    · rw [if_pos h2]
      refine ⟨⟨.inl ⟨rfl, rfl⟩, Nat.zero_le _, ?_, ?_, ?_⟩, fun h => absurd h (by simp)⟩ <;> simp only [seqOf] <;> omega
    rw [if_neg h2] at hc ⊢
    by_cases h3 : j + n + 1 = bs.length
    · rw [if_pos h3] at hc
      simp at hc
    rw [if_neg h3] at hc ⊢
    have hO : offAt bs (j + n) ≤ 65535 := by
      have h1 := getD_byte bs hb (j + n)
      have h2 := getD_byte bs hb (j + n + 1)
      unfold offAt
      omega
    by_cases h4 : offAt bs (j + n) = 0 ∨ ahead + said + n < offAt bs (j + n)
    · rw [if_pos h4] at hc
      simp at hc
    rw [if_neg h4] at hc ⊢
    generalize hdd : counted bs (j + n + 2) (bs.getD i 0 % 16 + 4) (bs.getD i 0 % 16 == 15) (most - said - n) = d at hc ⊢
    obtain ⟨e2, m, q⟩ := d
    unfold nextC at hc ⊢
    by_cases k41 : e2 = 41
    · rw [if_pos k41] at hc
      simp at hc
    rw [if_neg k41] at hc ⊢
    by_cases k0 : e2 ≠ 0
    · rw [if_pos k0] at hc
      simp at hc
    rw [if_neg k0]
    have he : e2 = 0 := by omega
    subst he
    obtain ⟨p1, p2, p3, p4, p5⟩ := counted_ok bs hb _ _ _ _ _ _ (by omega) hdd
    simp only [Fine, seqOf]
    omega
theorem nextC_place (bs : List Nat) (token frm many off : Nat) (m : Nat × Nat × Nat) (h : (nextC bs token frm many off m).code = 0) : (nextC bs token frm many off m).place = 0 := by
  unfold nextC at h ⊢
  split
  · rename_i h1
    rw [if_pos h1] at h
    simp at h
  · rename_i h1
    rw [if_neg h1] at h
    split
    · rename_i h2
      rw [if_pos h2] at h
      simp at h
    · rfl
theorem nextB_place (bs : List Nat) (token low said ahead most : Nat) (c : Nat × Nat × Nat) (h : (nextB bs token low said ahead most c).code = 0) : (nextB bs token low said ahead most c).place = 0 := by
  unfold nextB at h ⊢
  by_cases h1 : c.1 = 41
  · rw [if_pos h1] at h
    simp at h
  rw [if_neg h1] at h ⊢
  by_cases h2 : c.1 ≠ 0
  · rw [if_pos h2] at h
    simp at h
  rw [if_neg h2] at h ⊢
  by_cases h3 : bs.length < c.2.2 + c.2.1
  · rw [if_pos h3] at h
    simp at h
  rw [if_neg h3] at h ⊢
  by_cases h4 : c.2.2 + c.2.1 = bs.length
  · rw [if_pos h4]
  rw [if_neg h4] at h ⊢
  by_cases h5 : c.2.2 + c.2.1 + 1 = bs.length
  · rw [if_pos h5] at h
    simp at h
  rw [if_neg h5] at h ⊢
  by_cases h6 : offAt bs (c.2.2 + c.2.1) = 0 ∨ ahead + said + c.2.1 < offAt bs (c.2.2 + c.2.1)
  · rw [if_pos h6] at h
    simp at h
  rw [if_neg h6] at h ⊢
  exact nextC_place _ _ _ _ _ _ h
theorem next_place (bs : List Nat) (i said ahead most : Nat) (h : (next bs i said ahead most).code = 0) : (next bs i said ahead most).place = 0 := by
  unfold next at h ⊢
  split
  · rename_i h1
    rw [if_pos h1] at h
    simp at h
  · rename_i h1
    rw [if_neg h1] at h
    exact nextB_place _ _ _ _ _ _ _ h
/-- how many bytes sequences say -/
def total : List Sq → Nat
  | [] => 0
  | x :: l => x.many + x.len + total l
theorem total_append : ∀ (a b : List Sq), total (a ++ b) = total a + total b
  | [], b => by simp [total]
  | x :: a, b => by rw [List.cons_append, total, total, total_append a b]; omega
theorem walk_ok (bs : List Nat) (hb : ∀ z ∈ bs, z < 256) (ahead most : Nat) : ∀ (f i said : Nat), said ≤ most → said ≤ 256 * i → i ≤ bs.length → ∀ (pre : List Sq) (x : Sq) (post : List Sq), (walk bs ahead most f i said).1 = pre ++ x :: post → Fine bs ahead (said + total pre) most x
  | 0, i, said, _, _, _, pre, x, post, h => by simp [walk] at h
  | f + 1, i, said, hs, h256, hi, pre, x, post, h => by
    rw [walk] at h
    split at h
    · simp at h
    · rename_i hc
      have hc' : (next bs i said ahead most).code = 0 := by omega
      obtain ⟨hF, hN⟩ := next_ok bs hb i said ahead most hs h256 hi hc'
      split at h
      · cases pre with
        | nil =>
          simp only [List.nil_append, List.cons.injEq] at h
          rw [← h.1]
          simpa [total] using hF
        | cons y pre =>
          simp only [List.cons_append, List.cons.injEq] at h
          have := h.2
          simp at this
      · rename_i hl
        have hl' : 0 < (next bs i said ahead most).len := by omega
        obtain ⟨n1, n2, n3⟩ := hN hl'
        cases pre with
        | nil =>
          simp only [List.nil_append, List.cons.injEq] at h
          rw [← h.1]
          simpa [total] using hF
        | cons y pre =>
          simp only [List.cons_append, List.cons.injEq] at h
          have hm : said + (next bs i said ahead most).many + (next bs i said ahead most).len ≤ most := by
            have := hF.2.2.2.1
            simpa [seqOf] using this
          have := walk_ok bs hb ahead most f _ _ hm n3 n2 pre x post h.2
          rw [show said + total (y :: pre) = said + (next bs i said ahead most).many + (next bs i said ahead most).len + total pre by rw [← h.1, total]; simp [seqOf]; omega]
          exact this
theorem walk_pre (bs : List Nat) (hb : ∀ z ∈ bs, z < 256) (ahead most f : Nat) (pre : List Sq) (x : Sq) (h : pre ++ [x] <+: (walk bs ahead most f 0 0).1) : Fine bs ahead (total pre) most x := by
  obtain ⟨t, ht⟩ := h
  have := walk_ok bs hb ahead most f 0 0 (Nat.zero_le _) (Nat.zero_le _) (Nat.zero_le _) pre x t (by rw [← ht]; simp)
  simpa using this
theorem grow_pre (off : Nat) : ∀ (k : Nat) (l : List Nat), ∃ t, grow off k l = l ++ t ∧ t.length = k
  | 0, l => ⟨[], by simp [grow], rfl⟩
  | k + 1, l => by
    obtain ⟨t, h1, h2⟩ := grow_pre off k (l ++ [l.getD (l.length - off) 0])
    exact ⟨l.getD (l.length - off) 0 :: t, by rw [grow, h1, List.append_assoc]; rfl, by simp [h2]⟩
theorem grow_byte (off : Nat) : ∀ (k : Nat) (l : List Nat), (∀ z ∈ l, z < 256) → ∀ z ∈ grow off k l, z < 256
  | 0, l, h => h
  | k + 1, l, h => by
    rw [grow]
    refine grow_byte off k _ ?_
    intro z hz
    rcases List.mem_append.1 hz with hz | hz
    · exact h z hz
    · obtain rfl : z = _ := by simpa using hz
      exact getD_byte l h _
theorem say_byte (bs out : List Nat) (x : Sq) (hb : ∀ z ∈ bs, z < 256) (ho : ∀ z ∈ out, z < 256) : ∀ z ∈ say bs out x, z < 256 := by
  refine grow_byte _ _ _ ?_
  intro z hz
  rcases List.mem_append.1 hz with hz | hz
  · exact ho z hz
  · exact hb z (List.mem_of_mem_drop (List.mem_of_mem_take hz))
theorem says_byte (bs : List Nat) (hb : ∀ z ∈ bs, z < 256) : ∀ (l : List Sq) (bef : List Nat), (∀ z ∈ bef, z < 256) → ∀ z ∈ says bs bef l, z < 256
  | [], _, h => h
  | x :: l, bef, h => says_byte bs hb l _ (say_byte bs bef x hb h)
theorem say_pre (bs out : List Nat) (x : Sq) (h : x.frm + x.many ≤ bs.length) : ∃ t, say bs out x = out ++ t ∧ t.length = x.many + x.len := by
  obtain ⟨t, h1, h2⟩ := grow_pre x.off x.len (out ++ (bs.drop x.frm).take x.many)
  refine ⟨(bs.drop x.frm).take x.many ++ t, by rw [say, h1, List.append_assoc], ?_⟩
  rw [List.length_append, List.length_take, List.length_drop, h2]
  omega
/-- so far as the walk has come, the text ahead stands there, and as many bytes behind it as were told -/
theorem says_pre (bs : List Nat) (hb : ∀ z ∈ bs, z < 256) (ahead most f : Nat) (bef : List Nat) : ∀ (n : Nat) (pre : List Sq), pre.length = n → pre <+: (walk bs ahead most f 0 0).1 → ∃ t, says bs bef pre = bef ++ t ∧ t.length = total pre
  | 0, pre, hn, _ => by
    obtain rfl : pre = [] := List.length_eq_zero_iff.1 hn
    exact ⟨[], by simp [says], rfl⟩
  | n + 1, pre, hn, h => by
    rcases List.eq_nil_or_concat pre with rfl | ⟨p, x, rfl⟩
    · simp at hn
    · rw [List.concat_eq_append] at hn h ⊢
      have hp : p <+: (walk bs ahead most f 0 0).1 := (List.prefix_append p [x]).trans h
      obtain ⟨t, h1, h2⟩ := says_pre bs hb ahead most f bef n p (by simp at hn; omega) hp
      have hF := walk_pre bs hb ahead most f p x h
      obtain ⟨u, h3, h4⟩ := say_pre bs (says bs bef p) x hF.2.2.1
      refine ⟨t ++ u, by rw [says_snoc, h3, h1, List.append_assoc], ?_⟩
      rw [List.length_append, h2, h4, total_append]
      simp [total]
end Lz

namespace Lz
/-- four bytes at a place, as a number -/
def four (bs : List Nat) (p : Nat) : Nat := bs.getD p 0 + bs.getD (p + 1) 0 * 256 + bs.getD (p + 2) 0 * 65536 + bs.getD (p + 3) 0 * 16777216
/-- the latest place below one at which k stands -/
def lastAt (bs : List Nat) (k : Nat) : Nat → Option Nat
  | 0 => none
  | p + 1 => if four bs p = k then some p else lastAt bs k p
def orNone : Option Nat → Int
  | some q => (q : Int)
  | none => -1
def nearOf (bs : List Nat) (p : Nat) : Int := orNone (lastAt bs (four bs p) p)
theorem lastAt_lt (bs : List Nat) (k : Nat) : ∀ p q, lastAt bs k p = some q → q < p
  | 0, q, h => by simp [lastAt] at h
  | p + 1, q, h => by
    unfold lastAt at h
    split at h
    · cases h; omega
    · have := lastAt_lt bs k p q h; omega
theorem orNone_lt (bs : List Nat) (k p : Nat) : -1 ≤ orNone (lastAt bs k p) ∧ orNone (lastAt bs k p) < p := by
  cases h : lastAt bs k p with
  | none => simp [orNone]; omega
  | some q => have := lastAt_lt bs k p q h; simp [orNone]; omega
theorem nearOf_lt (bs : List Nat) (p : Nat) : -1 ≤ nearOf bs p ∧ nearOf bs p < p := orNone_lt bs _ p
/-- how many numbers two lists have in common at their heads -/
def common : List Nat → List Nat → Nat
  | a :: l, b :: m => if a = b then common l m + 1 else 0
  | _, _ => 0
theorem common_le : ∀ l m : List Nat, common l m ≤ l.length
  | a :: l, b :: m => by
    unfold common
    split
    · have := common_le l m; simp; omega
    · omega
  | [], _ => by simp [common]
  | _ :: _, [] => by simp [common]
/-- with how many bytes two places agree, as far as a copy may go -/
def agree (bs : List Nat) (c p : Nat) : Nat := common ((bs.take (bs.length - 5)).drop p) (bs.drop c)
theorem agree_le (bs : List Nat) (c p : Nat) : agree bs c p ≤ bs.length - 5 - p := by
  unfold agree
  have := common_le ((bs.take (bs.length - 5)).drop p) (bs.drop c)
  simp at this
  omega
theorem agree_stop (bs : List Nat) (c p : Nat) (h : bs.length - 5 ≤ p) : agree bs c p = 0 := by
  have := agree_le bs c p
  omega
theorem agree_step (bs : List Nat) (c p : Nat) (h : p < bs.length - 5) (hc : c < bs.length) :
    agree bs c p = if bs.getD p 0 = bs.getD c 0 then agree bs (c + 1) (p + 1) + 1 else 0 := by
  unfold agree
  rw [List.drop_eq_getElem_cons (l := bs.take (bs.length - 5)) (i := p) (by simp; omega), List.drop_eq_getElem_cons (l := bs) (i := c) hc, common]
  simp [List.getD, hc, show p < bs.length by omega]
/-- the best of so many candidates: offset and count -/
def longF (bs : List Nat) (p : Nat) : Nat → Int → Nat × Nat → Nat × Nat
  | 0, _, b => b
  | t + 1, c, b => if 0 ≤ c ∧ (p : Int) - c ≤ 65535 then longF bs p t (nearOf bs c.toNat) (if b.2 < agree bs c.toNat p then (p - c.toNat, agree bs c.toNat p) else b) else b
def long (bs : List Nat) (tries p : Nat) : Nat × Nat := longF bs p tries (nearOf bs p) (0, 0)
theorem longF_stop (bs : List Nat) (p t : Nat) (c : Int) (b : Nat × Nat) (h : ¬ (0 ≤ c ∧ (p : Int) - c ≤ 65535)) : longF bs p t c b = b := by
  cases t with
  | zero => rfl
  | succ t => rw [longF, if_neg h]
theorem longF_step (bs : List Nat) (p t : Nat) (c : Int) (b : Nat × Nat) (h : 0 ≤ c ∧ (p : Int) - c ≤ 65535) : longF bs p (t + 1) c b = longF bs p t (nearOf bs c.toNat) (if b.2 < agree bs c.toNat p then (p - c.toNat, agree bs c.toNat p) else b) := by
  rw [longF, if_pos h]
/-- a copy: where, its offset, its count -/
structure Cp where
  at_ : Nat
  off : Nat
  cnt : Nat
def greedyF (bs : List Nat) (tries : Nat) : Nat → Nat → List Cp
  | 0, _ => []
  | f + 1, p => if bs.length < p + 12 then [] else if (long bs tries p).2 = 0 then greedyF bs tries f (p + 1) else ⟨p, (long bs tries p).1, (long bs tries p).2⟩ :: greedyF bs tries f (p + (long bs tries p).2)
def greedy (bs : List Nat) (tries : Nat) : List Cp := greedyF bs tries (bs.length + 1) 0
/-- a count's length bytes -/
def lenb (n : Nat) : List Nat := if n < 15 then [] else List.replicate ((n - 15) / 255) 255 ++ [(n - 15) % 255]
def lits (plain : List Nat) (beyond : Nat) : List Nat := (16 * min plain.length 15 + min beyond 15) :: (lenb plain.length ++ plain)
def packed (bs : List Nat) : Nat → List Cp → List Nat
  | i, [] => lits (bs.drop i) 0
  | i, c :: l => lits ((bs.take c.at_).drop i) (c.cnt - 4) ++ ([c.off % 256, c.off / 256] ++ (lenb (c.cnt - 4) ++ packed bs (c.at_ + c.cnt) l))
end Lz

set_option linter.unusedVariables false
namespace Lz
theorem lastAt_four (bs : List Nat) (k : Nat) : ∀ p q, lastAt bs k p = some q → four bs q = k
  | 0, q, h => by simp [lastAt] at h
  | p + 1, q, h => by
    unfold lastAt at h
    split at h
    · cases h; assumption
    · exact lastAt_four bs k p q h
theorem nearOf_four (bs : List Nat) (p : Nat) (h : 0 ≤ nearOf bs p) : four bs (nearOf bs p).toNat = four bs p ∧ (nearOf bs p).toNat < p := by
  unfold nearOf at h ⊢
  cases e : lastAt bs (four bs p) p with
  | none => rw [e] at h; simp [orNone] at h
  | some q => exact ⟨lastAt_four bs _ p q e, lastAt_lt bs _ p q e⟩
theorem four_same (bs : List Nat) (hb : ∀ z ∈ bs, z < 256) (p q : Nat) (h : four bs p = four bs q) : bs.getD p 0 = bs.getD q 0 ∧ bs.getD (p + 1) 0 = bs.getD (q + 1) 0 ∧ bs.getD (p + 2) 0 = bs.getD (q + 2) 0 ∧ bs.getD (p + 3) 0 = bs.getD (q + 3) 0 := by
  have a0 := getD_byte bs hb p
  have a1 := getD_byte bs hb (p + 1)
  have a2 := getD_byte bs hb (p + 2)
  have a3 := getD_byte bs hb (p + 3)
  have b0 := getD_byte bs hb q
  have b1 := getD_byte bs hb (q + 1)
  have b2 := getD_byte bs hb (q + 2)
  have b3 := getD_byte bs hb (q + 3)
  unfold four at h
  omega
theorem agree_four (bs : List Nat) (hb : ∀ z ∈ bs, z < 256) (c p : Nat) (hc : c < p) (hp : p + 12 ≤ bs.length) (h : four bs c = four bs p) : 4 ≤ agree bs c p := by
  obtain ⟨h0, h1, h2, h3⟩ := four_same bs hb c p h
  rw [agree_step bs c p (by omega) (by omega), if_pos h0.symm, agree_step bs (c + 1) (p + 1) (by omega) (by omega), if_pos h1.symm, agree_step bs (c + 1 + 1) (p + 1 + 1) (by omega) (by omega), if_pos h2.symm, agree_step bs (c + 1 + 1 + 1) (p + 1 + 1 + 1) (by omega) (by omega), if_pos h3.symm]
  omega
/-- a copy that may be, or none -/
def Good (bs : List Nat) (p : Nat) (b : Nat × Nat) : Prop := b.2 = 0 ∧ b.1 = 0 ∨ (4 ≤ b.2 ∧ b.2 ≤ bs.length - 5 - p ∧ 1 ≤ b.1 ∧ b.1 ≤ 65535 ∧ b.1 ≤ p)
theorem longF_good (bs : List Nat) (hb : ∀ z ∈ bs, z < 256) (p : Nat) (hp : p + 12 ≤ bs.length) : ∀ (t : Nat) (c : Int) (b : Nat × Nat), (0 ≤ c → four bs c.toNat = four bs p ∧ c.toNat < p) → Good bs p b → Good bs p (longF bs p t c b)
  | 0, c, b, _, hg => hg
  | t + 1, c, b, hc, hg => by
    unfold longF
    split
    · rename_i h
      obtain ⟨h1, h2⟩ := hc h.1
      refine longF_good bs hb p hp t _ _ ?_ ?_
      · intro h0
        obtain ⟨h3, h4⟩ := nearOf_four bs c.toNat h0
        exact ⟨h3.trans h1, by omega⟩
      · split
        · have h4 := agree_four bs hb c.toNat p h2 hp h1
          have h5 := agree_le bs c.toNat p
          right
          simp only
          omega
        · exact hg
    · exact hg
theorem long_good (bs : List Nat) (hb : ∀ z ∈ bs, z < 256) (tries p : Nat) (hp : p + 12 ≤ bs.length) : Good bs p (long bs tries p) :=
  longF_good bs hb p hp tries _ _ (fun h => nearOf_four bs p h) (.inl ⟨rfl, rfl⟩)
end Lz

namespace Go.Proofs.YtlplbnlfajdcbaaGreatDoor
open Go.RowKit
set_option linter.unusedVariables false
theorem ret_w {a b : Int} (h : a = b) : Ending.returned (.int .u32 a) = .returned (.int .u32 b) := by rw [h]
theorem fourBytes_any (s : ByteArray) (w : World) (hs : s.size ≤ 140737488355328) (h4 : 4 ≤ s.size) :
    Calls Tryz.prog 141 #[.string s] w fun e w' => e = .returned (.int .u32 (Lz.four (Sums.bl s) 0 : Nat)) ∧ ∃ n, w' = w.drewN n := by
  have h0 : 0 < s.size := by omega
  have h1 : (1 : Int) < (s.size : Int) := by omega
  have h2 : (2 : Int) < (s.size : Int) := by omega
  have h3 : (3 : Int) < (s.size : Int) := by omega
  go_enter Tryz.func141, Tryz.ntmps141
  go_wp2
  go_quiet (fail)
  go_wp2
  go_ret
  have b0 := UInt8.toNat_lt (s[0]'h0)
  have b1 := UInt8.toNat_lt (s[1]'(by omega))
  have b2 := UInt8.toNat_lt (s[2]'(by omega))
  have b3 := UInt8.toNat_lt (s[3]'(by omega))
  have hv : ((Lz.four (Sums.bl s) 0 : Nat) : Int) = ((s[0]'h0).toNat : Int) + ((s[1]'(by omega)).toNat : Int) * 256 + ((s[2]'(by omega)).toNat : Int) * 65536 + ((s[3]'(by omega)).toNat : Int) * 16777216 := by
    unfold Lz.four
    rw [Sums.bl_get s 0 h0, Sums.bl_get s 1 (by omega), Sums.bl_get s 2 (by omega), Sums.bl_get s 3 (by omega)]
    omega
  refine ⟨ret_w ?_, nq, rfl⟩
  simp (disch := omega) only [u32_or8, u32_or16, u32_or24]
  omega
set_option maxRecDepth 100000 in
set_option maxHeartbeats 1000000 in
theorem agreed_any (s : ByteArray) (c p : Nat) (w : World) (hs : s.size ≤ 4294967296) (hcp : c < p) (hp : p ≤ s.size) :
    Calls Tryz.prog 142 #[.string s, .int .i64 (c : Int), .int .i64 (p : Int)] w fun e w' => e = .returned (.int .i64 (Lz.agree (Sums.bl s) c p : Nat)) ∧ ∃ n, w' = w.drewN n := by
  have hsl := Sums.bl_length s
  obtain ⟨R, hR⟩ : ∃ R, Lz.agree (Sums.bl s) c p = R := ⟨_, rfl⟩
  rw [hR]
  have HR := Hid.mk' hR
  have HSL := Hid.mk' hsl
  clear hR hsl
  go_enter Tryz.func142, Tryz.ntmps142
  go_wp2
  go_loopw [7] (fun kv wr => ∃ (k n : Nat), kv = .int .i64 (k : Int) ∧ R = k + Lz.agree (Sums.bl s) (c + k) (p + k) ∧ p + k ≤ s.size ∧ wr = w.drewN n) (fun kv _ => s.size - (intOf kv).toNat)
  case atStart => exact ⟨0, 0, rfl, by have := HR.out; simp; omega, by omega, rfl⟩
  case round =>
    obtain ⟨k, n, rfl, hk, hpk, rfl⟩ := hrel
    obtain ⟨d, hd⟩ : ∃ d, c + k = d := ⟨_, rfl⟩
    obtain ⟨q, hq⟩ : ∃ q, p + k = q := ⟨_, rfl⟩
    have hdI : (c : Int) + (k : Int) = (d : Int) := by omega
    have hqI : (p : Int) + (k : Int) = (q : Int) := by omega
    rw [hd, hq] at hk
    by_cases hend : q + 5 < s.size
    · have hendI : (q : Int) < (s.size : Int) - 5 := by omega
      have hendB : decide ((q : Int) < (s.size : Int) - 5) = true := by simp; omega
      obtain ⟨x, hx⟩ : ∃ x, x = (Sums.bl s).getD d 0 := ⟨_, rfl⟩
      obtain ⟨y, hy⟩ : ∃ y, y = (Sums.bl s).getD q 0 := ⟨_, rfl⟩
      have hidx := idx_any s d x (by omega) hx
      have hidy := idx_any s q y (by omega) hy
      rw [Lz.agree_step _ _ _ (by rw [HSL.out]; omega) (by rw [HSL.out]; omega), ← hx, ← hy] at hk
      have HK := Hid.mk' hk
      have HQ := Hid.mk' (And.intro hd hq)
      have hqs : q < s.size := by omega
      clear hk hx hy hd hq hend
      by_cases hxy : x = y
      · have hxyI : ((x : Int) == (y : Int)) = true := by simp; omega
        go_wp2
        go_quiet (fail)
        go_wp2
        go_roundw
        case rel =>
          have hk := HK.out
          rw [if_pos hxy.symm] at hk
          have h1 := HQ.out.1
          have h2 := HQ.out.2
          refine ⟨k + 1, n + nq, by simp, ?_, by omega, rfl⟩
          rw [show c + (k + 1) = d + 1 by omega, show p + (k + 1) = q + 1 by omega]
          omega
        case measure =>
          have h2 := HQ.out.2
          simp [intOf]
          omega
      · have hxyI : ((x : Int) == (y : Int)) = false := by simp; omega
        go_wp2
        go_quiet (fail)
        go_wp2
        go_ret
        have hk := HK.out
        rw [if_neg (fun h => hxy h.symm)] at hk
        refine ⟨?_, n + nq, by simp [World.drewN_drewN]⟩
        rw [hk]
        rfl
    · have hendI : ¬ (q : Int) < (s.size : Int) - 5 := by omega
      have hendB : decide ((q : Int) < (s.size : Int) - 5) = false := by simp; omega
      rw [Lz.agree_stop _ _ _ (by rw [HSL.out]; omega)] at hk
      go_wp2
      go_quiet (fail)
      go_wp2
      go_ret
      refine ⟨?_, n + nq, by simp [World.drewN_drewN]⟩
      rw [hk]
      rfl
end Go.Proofs.YtlplbnlfajdcbaaGreatDoor

namespace Go.Proofs.YtlplbnlfajdcbaaGreatDoor
open Go.RowKit
open Go.Maps (Keyed IsMap)
set_option linter.unusedVariables false
theorem keyed32 : Keyed Tryz.prog 90 := Go.Maps.int_keyed Tryz.underlying90
theorem infoIZ : (Tryz.prog.info? 3).map (fun i => (i.zero, i.size, i.bytes)) = some (some (.int .i64 0), 1, 8) := by kernel_rfl
theorem zero_int (w : World) : (zeroValue 3).run Tryz.prog w = .ok (.int .i64 0) w := by
  obtain ⟨i0, hi, hz0, hz1, hz2⟩ := info_parts infoIZ
  simp [zeroValue, typeInfo, hi, hz0]
/-- what the map tells at a place -/
structure Tells (bs : List Nat) (k : Nat) (D : DataW Unit) : Prop where
  map : IsMap D
  has : ∀ x : Nat, x < 4294967296 → Go.Maps.has D (.int .u32 (x : Int)) = (Lz.lastAt bs x k).isSome
  at_ : ∀ x : Nat, x < 4294967296 → ∀ q, Lz.lastAt bs x k = some q → ∀ z, D.atKey (.int .u32 (x : Int)) z = .lit (.int .i64 (q : Int))
theorem tells_empty (bs : List Nat) : Tells bs 0 (.map []) := ⟨Go.Maps.isMap_empty, fun x _ => rfl, fun x _ q h => by simp [Lz.lastAt] at h⟩
theorem key_lit (x : Nat) (hx : x < 4294967296) : WideAt.IsKeyLit (.int .u32 (x : Int)) := by
  simp [WideAt.IsKeyLit]
theorem Tells.step {bs : List Nat} {k : Nat} {D : DataW Unit} (h : Tells bs k D) (hf : Lz.four bs k < 4294967296) : Tells bs (k + 1) (D.put (.int .u32 (Lz.four bs k : Nat)) (.lit (.int .i64 (k : Int)))) := by
  have hkl := key_lit (Lz.four bs k) hf
  refine ⟨h.map.put _ _, fun x hx => ?_, fun x hx q hq z => ?_⟩
  · by_cases e : Lz.four bs k = x
    · subst e
      rw [Go.Maps.has_put_same h.map hkl, Lz.lastAt, if_pos rfl]
      rfl
    · rw [Go.Maps.has_put_other (by intro h; simp at h; omega), h.has x hx, Lz.lastAt, if_neg e]
  · by_cases e : Lz.four bs k = x
    · subst e
      rw [Go.Maps.atKey_put_same h.map hkl]
      rw [Lz.lastAt, if_pos rfl] at hq
      simp at hq
      rw [hq]
    · rw [Go.Maps.atKey_put_other (by intro h; simp at h; omega)]
      rw [Lz.lastAt, if_neg e] at hq
      exact h.at_ x hx q hq z
theorem four_lt (bs : List Nat) (hb : ∀ z ∈ bs, z < 256) (p : Nat) : Lz.four bs p < 4294967296 := by
  have a0 := Lz.getD_byte bs hb p
  have a1 := Lz.getD_byte bs hb (p + 1)
  have a2 := Lz.getD_byte bs hb (p + 2)
  have a3 := Lz.getD_byte bs hb (p + 3)
  unfold Lz.four
  omega
/-- the row so far -/
def nearV (bs : List Nat) (m k : Nat) : List Value := (List.range m).map fun p => if p < k then .int .i64 (Lz.nearOf bs p) else .int .i64 0
theorem nearV_len (bs : List Nat) (m k : Nat) : (nearV bs m k).length = m := by simp [nearV]
theorem nearV_zero (bs : List Nat) (m : Nat) : madeCells (Value.int .i64 0).cells (m * 1) = (nearV bs m 0).toArray := by
  apply Array.ext'
  apply List.ext_getElem
  · simp [nearV, madeCells]
  · intro i h1 h2
    simp [nearV, madeCells, Value.cells, Nat.mod_one]
theorem nearV_set (bs : List Nat) (m k : Nat) (hk : k < m) : (nearV bs m k).set k (.int .i64 (Lz.nearOf bs k)) = nearV bs m (k + 1) := by
  apply List.ext_getElem
  · simp [nearV]
  · intro i h1 h2
    simp only [nearV, List.getElem_set, List.getElem_map, List.getElem_range]
    by_cases e : k = i
    · subst e
      simp
    · rw [if_neg e]
      by_cases h : i < k
      · rw [if_pos h, if_pos (by omega)]
      · rw [if_neg h, if_neg (by omega)]
theorem make_ints (m : Nat) (hm : m ≤ 4294967296) (bs : List Nat) (w : World) : (Instr.makeSlice 88 (.int .i64 (m : Int)) (.int .i64 (m : Int))).run Tryz.prog w = .ok (.slice (some ⟨w.heap.size, 0, none⟩) m m) (w.alloc (.cells (nearV bs m 0).toArray 3)) := by
  obtain ⟨i0, hi, hz0, hz1, hz2⟩ := info_parts infoIZ
  have := run_make (P := Tryz.prog) w 88 3 i0 (.int .i64 0) Tryz.underlying88 hi hz0 .i64 .i64 (m : Int) (m : Int) (by omega) (by omega) (by rw [hz2]; omega) (by omega)
  rw [this, hz1, Int.toNat_natCast, nearV_zero bs m]
theorem near_put {bs : List Nat} {m k b : Nat} {w : World} (h : w.heap[b]? = some (.cells (nearV bs m k).toArray 3 (0, 0))) (hk : k < m) : (w.setCell ⟨b, k, none⟩ (.int .i64 (Lz.nearOf bs k))).heap[b]? = some (.cells (nearV bs m (k + 1)).toArray 3 (0, 0)) := by
  rw [setCell_eq_setRow w b k _ 3 (0, 0) _ h, setRow_heap w b _ _ 3 (0, 0) h, ← nearV_set bs m k hk]
  simp
theorem below_setc {base b : Nat} {w0 w : World} (h : Below base w0 w) (hb : base ≤ b) (o : Nat) (u : Value) : Below base w0 (w.setCell ⟨b, o, none⟩ u) :=
  ⟨h.os, h.tape, h.output, by simpa [World.setCell] using h.size, fun k hk => by
    rw [← h.block k hk]
    simp only [World.setCell, Array.getElem?_modify]
    rw [if_neg (by omega)]⟩
set_option maxRecDepth 100000 in
set_option maxHeartbeats 1000000 in
theorem nearestSame_any (s : ByteArray) (w : World) (hs : s.size ≤ 4294967296) :
    Calls Tryz.prog 120 #[.string s] w fun e w' => ∃ g, e = .returned (.slice (some ⟨g, 0, none⟩) (s.size - 3) (s.size - 3)) ∧ w.heap.size ≤ g ∧ w'.heap[g]? = some (.cells (nearV (Sums.bl s) (s.size - 3) (s.size - 3)).toArray 3 (0, 0)) ∧ Below w.heap.size w w' := by
  obtain ⟨m, hm⟩ : ∃ m, s.size - 3 = m := ⟨_, rfl⟩
  have hmI : max 0 ((s.size : Int) - 4 + 1) = (m : Int) := by omega
  have hmI2 : max 0 ((s.size : Int) - 3) = (m : Int) := by omega
  rw [hm]
  have hmb : m ≤ 4294967296 := by omega
  have hmm := run_makeMap (P := Tryz.prog) 209 w
  have hms := make_ints m hmb (Sums.bl s)
  have HM := Hid.mk' hm
  clear hm
  go_enter Tryz.func120, Tryz.ntmps120
  go_wp2
  have hst : ((w.alloc (.map #[] 0)).alloc (.cells (nearV (Sums.bl s) m 0).toArray 3)).heap[w.heap.size + 1]? = some (.cells (nearV (Sums.bl s) m 0).toArray 3 (0, 0)) := by
    have := heap_alloc_new (w.alloc (.map #[] 0)) (.cells (nearV (Sums.bl s) m 0).toArray 3)
    simpa using this
  have HST := Hid.mk' hst
  clear hst
  go_loopw [18] (fun kv wr => ∃ (k : Nat) (D : DataW Unit), kv = .int .i64 (k : Int) ∧ k ≤ m ∧ wr.ownsMap Tryz.prog 90 (plainElem Tryz.prog 3) w.heap.size k D ∧ Tells (Sums.bl s) k D ∧ wr.heap[w.heap.size + 1]? = some (.cells (nearV (Sums.bl s) m k).toArray 3 (0, 0)) ∧ Below w.heap.size w wr) (fun kv _ => m - (intOf kv).toNat)
  case atStart => exact ⟨0, .map [], rfl, Nat.zero_le _, (World.ownsMap_made w _ _ _).alloc _, tells_empty _, HST.out, ((Below.refl _ _).alloc (Nat.le_refl _) _).alloc (by simp) _⟩
  case round =>
    obtain ⟨k, D, rfl, hk, hmap, htel, hsb, hbel⟩ := hrel
    clear HST hmm hms
    by_cases hkm : k < m
    · have hkI : (k : Int) < (m : Int) := by omega
      have hm := HM.out
      obtain ⟨T, hT⟩ : ∃ T, s.extract k s.size = T := ⟨_, rfl⟩
      have hTs : T.size = s.size - k := by rw [← hT, ByteArray.size_extract]; omega
      have hTb : Sums.bl T = (Sums.bl s).drop k := by rw [← hT]; exact Sums.bl_drop s k
      obtain ⟨x, hxe⟩ : ∃ x, Lz.four (Sums.bl s) k = x := ⟨_, rfl⟩
      have hx : x < 4294967296 := by rw [← hxe]; exact four_lt _ (Sums.bl_byt s) k
      have hfT : Lz.four (Sums.bl T) 0 = x := by
        rw [hTb, ← hxe]
        unfold Lz.four
        simp [List.getD]
      have HFB := Hid.mk' (fun w => fourBytes_any T w (by omega) (by omega))
      rw [hfT] at HFB
      have hwf : (Lit.int .u32 (x : Int)).wf = true := by
        simp [Lit.wf, IntKind.min, IntKind.max, IntKind.signed, IntKind.bits]
        omega
      have hwk : (Lit.int .i64 (k : Int)).wf = true := by
        simp [Lit.wf, IntKind.min, IntKind.max, IntKind.signed, IntKind.bits]
        omega
      have hks : k ≤ s.size := by omega
      have hcell : wr.cell? ⟨w.heap.size + 1, k, none⟩ = some (.int .i64 0) := by
        simp [World.cell?, hsb, nearV, hkm]
      have hfro : wr.frozen? ⟨w.heap.size + 1, k, none⟩ = false := by simp [World.frozen?, hsb]
      have HMS : Hid (∀ (n : Nat) (u : Value), ((wr.drewN n).setCell ⟨w.heap.size + 1, k, none⟩ u).ownsMap Tryz.prog 90 (plainElem Tryz.prog 3) w.heap.size k D) := fun n u => World.ownsMap.setCell (show (wr.drewN n).ownsMap Tryz.prog 90 (plainElem Tryz.prog 3) w.heap.size k D from hmap) (by simp) u
      have hsbl : w.heap.size + 1 < (wr.drewN 0).heap.size := (Array.getElem?_eq_some_iff.1 hsb).1
      have hsbm : w.heap.size ≤ (wr.drewN 0).heap.size := by omega
      have HMAP := Hid.mk' hmap
      have HTE := Hid.mk' htel
      have HSB := Hid.mk' hsb
      have HBE := Hid.mk' hbel
      have HX := Hid.mk' hxe
      have HHAS := Hid.mk' (htel.has x hx)
      have hnear : Lz.nearOf (Sums.bl s) k = Lz.orNone (Lz.lastAt (Sums.bl s) x k) := by rw [Lz.nearOf, hxe]
      have hat0 := htel.at_ x hx
      clear hmap htel hsb hbel hxe hfT hTb hm
      cases hla : Lz.lastAt (Sums.bl s) x k with
      | none =>
        rw [hla] at HHAS hnear
        have HN := Hid.mk' hnear
        clear hnear hat0 hla
        go_wp2_with (first | (go_at_call 141; refine (HFB.out _).mono ?_; rintro e w1 ⟨rfl, nd, rfl⟩) | (at_lookup; refine wpList_lookup_own_ok_int _ rfl _ _ 209 rfl 90 3 .i64 keyed32 Tryz.underlying209 Tryz.underlying3 (zero_int _) w.heap.size k D rfl (by exact HMAP.out) (.int .u32 (x : Int)) (.int .u32 (x : Int)) rfl (Go.Maps.keyOf_int_mk Tryz.underlying90 hwf) ?_; intro c hat hwc; rw [HHAS.out]; skip) | (at_mapUpdate; refine wpList_mapUpdate_own _ rfl _ _ _ 209 rfl 90 3 keyed32 Tryz.underlying209 (plainElem Tryz.prog 3) w.heap.size k D rfl (by exact HMS.out _ _) (by unfold maxLen; omega) (.int .u32 (x : Int)) (.int .i64 (k : Int)) (.int .u32 (x : Int)) rfl rfl (Go.Maps.keyOf_int_mk Tryz.underlying90 hwf) (.lit (.int .i64 (k : Int))) [] (plainElem_int Tryz.underlying3 hwk) ?_; intro w5 hown5 hgrow5; have HM5 := Hid.mk' hown5; have HG5 := Hid.mk' hgrow5; clear hown5 hgrow5) | fail)
        go_roundw
        case rel =>
          refine ⟨k + 1, _, by simp, by omega, HM5.out, by rw [← HX.out]; exact HTE.out.step (by rw [HX.out]; exact hx), ?_, ?_⟩
          · rw [HG5.out.block _ (by simp only [World.setCell, Array.size_modify]; exact hsbl) (by simp)]
            have hnp := near_put (w := wr.drewN nd) HSB.out hkm
            rw [HN.out] at hnp
            exact hnp
          · exact (below_setc (HBE.out.drewN' nd) (by omega) k _).grown HG5.out (by simp only [World.setCell, Array.size_modify]; exact hsbm) (by intro j hj; simp at hj; omega)
        case measure =>
          simp [intOf]
          omega
      | some q =>
        rw [hla] at HHAS hnear
        have HN := Hid.mk' hnear
        have HAT := Hid.mk' (hat0 q hla)
        clear hnear hat0 hla
        go_wp2_with (first | (go_at_call 141; refine (HFB.out _).mono ?_; rintro e w1 ⟨rfl, nd, rfl⟩) | (at_lookup; refine wpList_lookup_own_ok_int _ rfl _ _ 209 rfl 90 3 .i64 keyed32 Tryz.underlying209 Tryz.underlying3 (zero_int _) w.heap.size k D rfl (by exact HMAP.out) (.int .u32 (x : Int)) (.int .u32 (x : Int)) rfl (Go.Maps.keyOf_int_mk Tryz.underlying90 hwf) ?_; intro c hat hwc; rw [HHAS.out]; rw [HAT.out] at hat; simp at hat; subst hat) | (at_mapUpdate; refine wpList_mapUpdate_own _ rfl _ _ _ 209 rfl 90 3 keyed32 Tryz.underlying209 (plainElem Tryz.prog 3) w.heap.size k D rfl (by exact HMS.out _ _) (by unfold maxLen; omega) (.int .u32 (x : Int)) (.int .i64 (k : Int)) (.int .u32 (x : Int)) rfl rfl (Go.Maps.keyOf_int_mk Tryz.underlying90 hwf) (.lit (.int .i64 (k : Int))) [] (plainElem_int Tryz.underlying3 hwk) ?_; intro w5 hown5 hgrow5; have HM5 := Hid.mk' hown5; have HG5 := Hid.mk' hgrow5; clear hown5 hgrow5) | fail)
        go_roundw
        case rel =>
          refine ⟨k + 1, _, by simp, by omega, HM5.out, by rw [← HX.out]; exact HTE.out.step (by rw [HX.out]; exact hx), ?_, ?_⟩
          · rw [HG5.out.block _ (by simp only [World.setCell, Array.size_modify]; exact hsbl) (by simp)]
            have hnp := near_put (w := wr.drewN nd) HSB.out hkm
            rw [HN.out] at hnp
            exact hnp
          · exact (below_setc (HBE.out.drewN' nd) (by omega) k _).grown HG5.out (by simp only [World.setCell, Array.size_modify]; exact hsbm) (by intro j hj; simp at hj; omega)
        case measure =>
          simp [intOf]
          omega
    · obtain rfl : k = m := by omega
      have hkI : ¬ (k : Int) < (k : Int) := by omega
      have HSB := Hid.mk' hsb
      have HBE := Hid.mk' hbel
      clear hsb hbel hmap htel
      go_wp2
      go_ret
      exact ⟨_, rfl, by omega, HSB.out, HBE.out⟩
end Go.Proofs.YtlplbnlfajdcbaaGreatDoor

namespace Go.Proofs.YtlplbnlfajdcbaaGreatDoor
open Go.RowKit
set_option linter.unusedVariables false
def mtV (a off cnt : Nat) : Value := .agg #[.int .i64 (a : Int), .int .i64 (off : Int), .int .i64 (cnt : Int)]
def atOf (p cnt : Nat) : Nat := if cnt = 0 then 0 else p
theorem near_cell {w : World} {g m q : Nat} {bs : List Nat} (h : w.heap[g]? = some (.cells (nearV bs m m).toArray 3 (0, 0))) (hq : q < m) : w.cell? ⟨g, q, none⟩ = some (.int .i64 (Lz.nearOf bs q)) := by
  simp [World.cell?, h, nearV, hq]
structure Lg (bs : List Nat) (m p g : Nat) (R : Nat × Nat) (w0 : World) (t : Nat) (c : Int) (off cnt : Nat) (w : World) : Prop where
  eq : Lz.longF bs p t c (off, cnt) = R
  c1 : -1 ≤ c
  c2 : c < (p : Int)
  res : w.heap[w0.heap.size]? = some (.cells #[.int .i64 0, .int .i64 0, .int .i64 0] 191 (0, 0))
  best : w.heap[w0.heap.size + 1]? = some (.cells #[.int .i64 (atOf p cnt : Nat), .int .i64 (off : Int), .int .i64 (cnt : Int)] 191 (0, 0))
  near : w.heap[g]? = some (.cells (nearV bs m m).toArray 3 (0, 0))
  bel : Below w0.heap.size w0 w
  cb : cnt ≤ 4294967296
theorem cell3 {w : World} {b : Nat} {f0 f1 f2 : Value} {t : TypeId} (h : w.heap[b]? = some (.cells #[f0, f1, f2] t (0, 0))) : w.cell? ⟨b, 0, none⟩ = some f0 ∧ w.cell? ⟨b, 1, none⟩ = some f1 ∧ w.cell? ⟨b, 2, none⟩ = some f2 ∧ w.frozen? ⟨b, 0, none⟩ = false ∧ w.frozen? ⟨b, 1, none⟩ = false ∧ w.frozen? ⟨b, 2, none⟩ = false := by
  simp [World.cell?, World.frozen?, h]
def set3 (w : World) (b : Nat) (x y z : Value) : World := ((w.setCell ⟨b, 0, none⟩ x).setCell ⟨b, 1, none⟩ y).setCell ⟨b, 2, none⟩ z
theorem set3_same {w : World} {b : Nat} {f0 f1 f2 x y z : Value} {t : TypeId} (h : w.heap[b]? = some (.cells #[f0, f1, f2] t (0, 0))) : (set3 w b x y z).heap[b]? = some (.cells #[x, y, z] t (0, 0)) := by
  simp [set3, World.setCell, Array.getElem?_modify, h]
theorem set3_other (w : World) (b k : Nat) (x y z : Value) (h : k ≠ b) : (set3 w b x y z).heap[k]? = w.heap[k]? := by
  simp only [set3, World.setCell, Array.getElem?_modify]
  rw [if_neg (by omega), if_neg (by omega), if_neg (by omega)]
theorem set3_below {base b : Nat} {w0 w : World} (h : Below base w0 w) (hb : base ≤ b) (x y z : Value) : Below base w0 (set3 w b x y z) :=
  below_setc (below_setc (below_setc h hb 0 x) hb 1 y) hb 2 z
set_option maxRecDepth 100000 in
set_option maxHeartbeats 1000000 in
theorem longest_any (s : ByteArray) (g m p tries : Nat) (w : World) (hs : s.size ≤ 4294967296) (hm : m = s.size - 3) (hp : p < m) (ht : tries ≤ 4294967296) (hg : w.heap[g]? = some (.cells (nearV (Sums.bl s) m m).toArray 3 (0, 0))) :
    Calls Tryz.prog 121 #[.string s, .slice (some ⟨g, 0, none⟩) m m, .int .i64 (p : Int), .int .i64 (tries : Int)] w fun e w' => e = .returned (mtV (atOf p (Lz.long (Sums.bl s) tries p).2) (Lz.long (Sums.bl s) tries p).1 (Lz.long (Sums.bl s) tries p).2) ∧ Below w.heap.size w w' := by
  have hglt : g < w.heap.size := (Array.getElem?_eq_some_iff.1 hg).1
  obtain ⟨R, hR⟩ : ∃ R, Lz.long (Sums.bl s) tries p = R := ⟨_, rfl⟩
  rw [hR]
  have hnc := near_cell hg hp
  have hnl := Lz.nearOf_lt (Sums.bl s) p
  have hst : Lg (Sums.bl s) m p g R w tries (Lz.nearOf (Sums.bl s) p) 0 0 ((w.alloc (.cells #[.int .i64 0, .int .i64 0, .int .i64 0] 191)).alloc (.cells #[.int .i64 0, .int .i64 0, .int .i64 0] 191)) := by
    refine ⟨hR, hnl.1, hnl.2, ?_, ?_, ?_, ((Below.refl _ _).alloc (Nat.le_refl _) _).alloc (by simp) _, by omega⟩
    · rw [Below.heap_alloc _ _ _ (by simp)]
      exact heap_alloc_new w _
    · have := heap_alloc_new (w.alloc (.cells #[.int .i64 0, .int .i64 0, .int .i64 0] 191)) (.cells #[.int .i64 0, .int .i64 0, .int .i64 0] 191)
      simpa [atOf] using this
    · rw [Below.heap_alloc _ _ _ (by simp; omega), Below.heap_alloc _ _ _ hglt]
      exact hg
  have HST := Hid.mk' hst
  obtain ⟨c0, hc0⟩ : ∃ c0, Lz.nearOf (Sums.bl s) p = c0 := ⟨_, rfl⟩
  rw [hc0] at hnc HST
  have hnc2 : ∀ o, (w.alloc o).cell? ⟨g, p, none⟩ = some (.int .i64 c0) := fun o => by
    rw [← hnc]
    simp only [World.cell?]
    rw [Below.heap_alloc _ _ _ hglt]
  have hnc3 : ∀ o o', ((w.alloc o).alloc o').cell? ⟨g, p, none⟩ = some (.int .i64 c0) := fun o o' => by
    rw [← hnc]
    simp only [World.cell?]
    rw [Below.heap_alloc _ _ _ (by simp; omega), Below.heap_alloc _ _ _ hglt]
  have hpm : (p : Int) < (m : Int) := by omega
  have hm3 : m + 3 ≤ s.size := by omega
  clear hR hst hnl hc0 hm
  go_enter Tryz.func121, Tryz.ntmps121
  go_wp2
  go_loopw [3, 10] (fun tv cv wr => ∃ (t : Nat) (c : Int) (off cnt : Nat), tv = .int .i64 (t : Int) ∧ cv = .int .i64 c ∧ t ≤ tries ∧ Lg (Sums.bl s) m p g R w t c off cnt wr) (fun tv _ _ => (intOf tv).toNat)
  case atStart => exact ⟨tries, c0, 0, 0, rfl, rfl, Nat.le_refl _, HST.out⟩
  case round =>
    obtain ⟨t, c, off, cnt, rfl, rfl, htt, hlg⟩ := hrel
    clear HST hnc hnc2 hnc3
    obtain ⟨r0, r1, r2, r3, r4, r5⟩ := cell3 hlg.res
    obtain ⟨b0, b1, b2, b3, b4, b5⟩ := cell3 hlg.best
    have hc1 := hlg.c1
    have hc2 := hlg.c2
    by_cases hin : 0 ≤ c ∧ (p : Int) - c ≤ 65535 ∧ 0 < t
    · obtain ⟨i1, i2, i3⟩ := hin
      obtain ⟨q, rfl⟩ : ∃ q : Nat, c = (q : Int) := ⟨c.toNat, by omega⟩
      obtain ⟨t1, rfl⟩ : ∃ t1, t = t1 + 1 := ⟨t - 1, by omega⟩
      have hqp : q < p := by omega
      have heq := hlg.eq
      rw [Lz.longF_step _ _ _ _ _ ⟨i1, i2⟩, Int.toNat_natCast] at heq
      obtain ⟨A, hA⟩ : ∃ A, Lz.agree (Sums.bl s) q p = A := ⟨_, rfl⟩
      have hAb := Lz.agree_le (Sums.bl s) q p
      rw [hA] at heq hAb
      rw [Sums.bl_length] at hAb
      have HAG := Hid.mk' (fun w => agreed_any s q p w hs hqp (by omega))
      rw [hA] at HAG
      have hnq := near_cell hlg.near (show q < m by omega)
      have hnl := Lz.nearOf_lt (Sums.bl s) q
      obtain ⟨c3, hc3⟩ : ∃ c3, Lz.nearOf (Sums.bl s) q = c3 := ⟨_, rfl⟩
      rw [hc3] at hnq hnl heq
      have hqm : (q : Int) < (m : Int) := by omega
      have hqmN : q < m := by omega
      have i1B : decide ((0 : Int) ≤ (q : Int)) = true := by simp
      have i2B : decide ((p : Int) - (q : Int) ≤ 65535) = true := by simp; omega
      have i3I : (0 : Int) < ((t1 + 1 : Nat) : Int) := by omega
      obtain ⟨d, hd⟩ : ∃ d, p - q = d := ⟨_, rfl⟩
      have hdI : (p : Int) - (q : Int) = (d : Int) := by omega
      have HLG := Hid.mk' hlg
      have HEQ := Hid.mk' heq
      have hAb2 : A ≤ 4294967296 := by omega
      have hcb := hlg.cb
      rw [hd] at HEQ
      have HCL := Hid.mk' hnl
      have htb : t1 ≤ 4294967296 := by omega
      clear hlg heq hA hc3 hnl hAb hd
      by_cases hbet : cnt < A
      · have hbI : (cnt : Int) < (A : Int) := by omega
        go_wp2_with (first | (go_at_call 142; refine (HAG.out _).mono ?_; rintro e w1 ⟨rfl, nd, rfl⟩) | fail)
        go_roundw
        case rel =>
          have hh := HEQ.out
          rw [if_pos hbet] at hh
          have hcl := HCL.out
          refine ⟨t1, c3, d, A, by simp, rfl, by omega, ⟨hh, hcl.1, by omega, ?_, ?_, ?_, ?_, hAb2⟩⟩
          · exact (set3_other (wr.drewN nd) (w.heap.size + 1) w.heap.size _ _ _ (by omega)).trans HLG.out.res
          · have := set3_same (w := wr.drewN nd) (b := w.heap.size + 1) (x := .int .i64 (p : Int)) (y := .int .i64 (d : Int)) (z := .int .i64 (A : Int)) HLG.out.best
            rw [show atOf p A = p by unfold atOf; rw [if_neg (by omega)]]
            exact this
          · exact (set3_other (wr.drewN nd) (w.heap.size + 1) g _ _ _ (by omega)).trans HLG.out.near
          · exact set3_below (HLG.out.bel.drewN' nd) (by omega) _ _ _
        case measure =>
          simp [intOf]
      · have hbI : ¬ (cnt : Int) < (A : Int) := by omega
        go_wp2_with (first | (go_at_call 142; refine (HAG.out _).mono ?_; rintro e w1 ⟨rfl, nd, rfl⟩) | fail)
        go_roundw
        case rel =>
          have hh := HEQ.out
          rw [if_neg hbet] at hh
          have hcl := HCL.out
          exact ⟨t1, c3, off, cnt, by simp, rfl, by omega, ⟨hh, hcl.1, by omega, HLG.out.res, HLG.out.best, HLG.out.near, HLG.out.bel.drewN' nd, hcb⟩⟩
        case measure =>
          simp [intOf]
    · have hR : R = (off, cnt) := by
        rw [← hlg.eq]
        by_cases h : 0 ≤ c ∧ (p : Int) - c ≤ 65535
        · obtain rfl : t = 0 := by omega
          rfl
        · exact Lz.longF_stop _ _ _ _ _ h
      subst hR
      have HLG := Hid.mk' hlg
      clear hlg
      by_cases i1 : 0 ≤ c
      · by_cases i2 : (p : Int) - c ≤ 65535
        · obtain rfl : t = 0 := by omega
          have i1B : decide ((0 : Int) ≤ c) = true := by simp; omega
          have i2B : decide ((p : Int) - c ≤ 65535) = true := by simp; omega
          go_wp2
          obtain ⟨f0, f1, f2, _⟩ := cell3 (set3_same (x := .int .i64 (atOf p cnt : Nat)) (y := .int .i64 (off : Int)) (z := .int .i64 (cnt : Int)) HLG.out.res)
          unfold set3 at f0 f1 f2
          exact bodyPost_ret (v := mtV (atOf p cnt) off cnt) (by simp [results, Tryz.results121, mtV, f0, f1, f2, go_sem]) rfl ⟨rfl, set3_below HLG.out.bel (Nat.le_refl _) _ _ _⟩
        · have i1B : decide ((0 : Int) ≤ c) = true := by simp; omega
          have i2B : decide ((p : Int) - c ≤ 65535) = false := by simp; omega
          go_wp2
          obtain ⟨f0, f1, f2, _⟩ := cell3 (set3_same (x := .int .i64 (atOf p cnt : Nat)) (y := .int .i64 (off : Int)) (z := .int .i64 (cnt : Int)) HLG.out.res)
          unfold set3 at f0 f1 f2
          exact bodyPost_ret (v := mtV (atOf p cnt) off cnt) (by simp [results, Tryz.results121, mtV, f0, f1, f2, go_sem]) rfl ⟨rfl, set3_below HLG.out.bel (Nat.le_refl _) _ _ _⟩
      · have i1B : decide ((0 : Int) ≤ c) = false := by simp; omega
        go_wp2
        obtain ⟨f0, f1, f2, _⟩ := cell3 (set3_same (x := .int .i64 (atOf p cnt : Nat)) (y := .int .i64 (off : Int)) (z := .int .i64 (cnt : Int)) HLG.out.res)
        unfold set3 at f0 f1 f2
        exact bodyPost_ret (v := mtV (atOf p cnt) off cnt) (by simp [results, Tryz.results121, mtV, f0, f1, f2, go_sem]) rfl ⟨rfl, set3_below HLG.out.bel (Nat.le_refl _) _ _ _⟩
end Go.Proofs.YtlplbnlfajdcbaaGreatDoor

namespace Go.Proofs.YtlplbnlfajdcbaaGreatDoor
open Go.RowKit
set_option linter.unusedVariables false
/-- whatever lay below base is as it was, and whatever is no row of bytes -/
structure Ap (base : Nat) (w w' : World) : Prop where
  below : Below base w w'
  keep : ∀ (k : Nat) (o : Obj), w.heap[k]? = some o → (∀ cur fz, o ≠ .cells cur 5 fz) → w'.heap[k]? = some o
theorem Ap.refl (base : Nat) (w : World) : Ap base w w := ⟨Below.refl _ _, fun _ _ h _ => h⟩
theorem Ap.trans {base : Nat} {a b c : World} (x : Ap base a b) (y : Ap base b c) : Ap base a c :=
  ⟨x.below.trans y.below, fun k o h ho => y.keep k o (x.keep k o h ho) ho⟩
theorem Ap.alloc {base : Nat} {a b : World} (x : Ap base a b) (hb : base ≤ b.heap.size) (o : Obj) : Ap base a (b.alloc o) :=
  ⟨x.below.alloc hb o, fun k q h hq => (Below.heap_alloc b o k (Array.getElem?_eq_some_iff.1 (x.keep k q h hq)).1).trans (x.keep k q h hq)⟩
theorem Ap.drewN {base : Nat} {a b : World} (x : Ap base a b) (n : Nat) : Ap base a (b.drewN n) := ⟨x.below.drewN' n, x.keep⟩
theorem Ap.grown {base n : Nat} {a b c : World} {v : Value} {xs : List Value} (x : Ap base a b) (hown : b.ownsRow base 5 1 v n xs) (hb : base ≤ b.heap.size) (hg : b.grownBy c v.ownBlock) : Ap base a c := by
  refine ⟨x.below.grown hg hb (fun k hk => (hown.lt k hk).1), fun k o h ho => ?_⟩
  have h1 := x.keep k o h ho
  rw [hg.block k (Array.getElem?_eq_some_iff.1 h1).1 ?_]
  · exact h1
  · intro e
    rcases hown.2 with ⟨rfl, _⟩ | ⟨g, cap, cur, rfl, _, hcur, _⟩
    · cases e
    · have e' : k = g := by simpa [Value.ownBlock] using e
      subst e'
      rw [hcur] at h1
      cases h1
      exact ho cur (0, 0) rfl
theorem strc_byv (s : ByteArray) : Go.Lib.strCells s = byv (Sums.bl s) := by
  unfold Go.Lib.strCells byv Sums.bl
  rw [List.map_map]
  rfl
theorem own_at {w : World} {base n : Nat} {v : Value} {l : List Nat} (h : w.ownsRow base 5 1 v n (byv l)) : l.length = n := by
  have := h.1
  rw [byv_len] at this
  omega
/-- part of the row itself, as cells -/
theorem part_cells {w : World} {base n cap g : Nat} {l : List Nat} (h : w.ownsRow base 5 1 (.slice (some ⟨g, 0, none⟩) n cap) n (byv l)) (i k : Nat) (hk : i + k ≤ n) :
    ∀ j u, (byv ((l.drop i).take k))[j]? = some u → w.cell? ((⟨g, i, none⟩ : Addr).add j) = some u := by
  intro j u hu
  have hl := own_at h
  have hj : j < k := by
    have := (List.getElem?_eq_some_iff.1 hu).1
    rw [byv_len] at this
    simp at this
    omega
  have hc := h.cellAt (i + j) (by omega)
  rw [show ((⟨g, i, none⟩ : Addr).add j) = ⟨g, i + j, none⟩ by simp [Addr.add]]
  rw [hc]
  unfold byv at hu ⊢
  rw [List.getElem?_map, List.getElem?_take, if_pos hj, List.getElem?_drop, List.getElem?_eq_getElem (show i + j < l.length by omega)] at hu
  rw [List.getElem?_map, List.getElem?_eq_getElem (show i + j < l.length by omega)]
  exact hu
theorem byv_one (l : List Nat) : ∀ u ∈ byv l, u.oneCell' = true := by
  intro u hu
  unfold byv at hu
  obtain ⟨z, _, rfl⟩ := List.mem_map.1 hu
  rfl
theorem grow_zero (off : Nat) (l : List Nat) : Lz.grow off 0 l = l := rfl
theorem drop_bef (bef l : List Nat) : (bef ++ l).drop bef.length = l := List.drop_left
theorem own_shape {w : World} {base n : Nat} {v : Value} {xs : List Value} (h : w.ownsRow base 5 1 v n xs) : ∃ b cap, v = .slice b n cap := by
  rcases h.2 with ⟨rfl, rfl⟩ | ⟨g, cap, cur, rfl, _⟩
  · exact ⟨none, 0, rfl⟩
  · exact ⟨some ⟨g, 0, none⟩, cap, rfl⟩
theorem own_some {w : World} {base n : Nat} {v : Value} {xs : List Value} (h : w.ownsRow base 5 1 v n xs) (h0 : 0 < n) : ∃ g cap, v = .slice (some ⟨g, 0, none⟩) n cap := by
  rcases h.2 with ⟨_, h1⟩ | ⟨g, cap, cur, rfl, _⟩
  · omega
  · exact ⟨g, cap, rfl⟩
set_option maxRecDepth 100000 in
set_option maxHeartbeats 4000000 in
/-- what is laid behind a row, of a text ahead of it at first -/
theorem lay_any (base : Nat) (bef : ByteArray) (v : Value) (l : List Nat) (off count : Nat) (w : World) (hown : w.ownsRow base 5 1 v l.length (byv l)) (hb : base ≤ w.heap.size) (ho : count = 0 ∧ off = 0 ∨ (0 < count ∧ 0 < off ∧ off ≤ bef.size + l.length)) (hof : off ≤ 65535) (hbef : bef.size ≤ 140737492549632) (hsz : l.length + count ≤ 70368744177664) :
    Calls Tryz.prog 147 #[.string bef, v, .int .i64 (off : Int), .int .i64 (count : Int)] w fun e w' => ∃ v', e = .returned v' ∧ w'.ownsRow base 5 1 v' (l.length + count) (byv ((Lz.grow off count (Sums.bl bef ++ l)).drop bef.size)) ∧ Ap base w w' := by
  obtain ⟨i0, hi, hz0, hz1, hz2⟩ := info_parts infoB
  have hbl := Sums.bl_length bef
  by_cases hin : off ≤ l.length
  · have hG : (Lz.grow off count (Sums.bl bef ++ l)).drop bef.size = Lz.grow off count l := by
      rcases ho with ⟨rfl, rfl⟩ | ho
      · rw [grow_zero, grow_zero, ← hbl, drop_bef]
      · rw [Lz.grow_behind off ho.2.1 _ _ _ hin, ← hbl, drop_bef]
    rw [hG]
    clear hG hbl
    have hle : ¬ (0 : Int) < (off : Int) - (l.length : Int) := by omega
    by_cases hc0 : count = 0
    · subst hc0
      obtain ⟨b, cap, rfl⟩ := own_shape hown
      have HO := Hid.mk' hown
      clear hown
      go_enter Tryz.func147, Tryz.ntmps147
      go_wp2
      refine wp_loop_rounds 1 ?_
      rw [rounds_succ]
      go_wp2
      go_ret
      exact ⟨_, rfl, HO.out, Ap.refl _ _⟩
    · have ho' : 0 < off ∧ off ≤ l.length := by omega
      obtain ⟨F, hF⟩ : ∃ F, F + off = l.length := ⟨l.length - off, by omega⟩
      have hFI : (l.length : Int) - (off : Int) = (F : Int) := by omega
      rcases hown.2 with ⟨rfl, h0⟩ | ⟨g, cap, cur, rfl, hrest⟩
      · omega
      have HO := Hid.mk' hown
      clear hown hrest ho
      go_enter Tryz.func147, Tryz.ntmps147
      go_wp2
      go_loopw [1, 3] (fun sv cv wr => ∃ (q c m N : Nat), cv = .int .i64 (c : Int) ∧ wr.ownsRow base 5 1 sv N (byv (Lz.grow off m l)) ∧ N = l.length + m ∧ m + c = count ∧ (c = 0 ∨ m = off * q) ∧ Ap base w wr ∧ base ≤ wr.heap.size) (fun _ cv _ => (intOf cv).toNat)
      case atStart => exact ⟨0, count, 0, l.length, rfl, HO.out, rfl, by omega, .inr (by simp), Ap.refl _ _, hb⟩
      case round =>
        obtain ⟨q, c, m, N, rfl, hown, hN, hm, hq, hap, hbw⟩ := hrel
        rcases hown.2 with ⟨rfl, h0⟩ | ⟨g', cap', cur', rfl, _, _, hcap, hcm, _⟩
        · omega
        by_cases hc : c = 0
        · subst hc
          obtain rfl : m = count := by omega
          go_wp2
          go_ret
          subst hN
          exact ⟨_, rfl,  hown, hap⟩
        · have hq' : m = off * q := by omega
          have hcI : (0 : Int) < (c : Int) := by omega
          obtain ⟨k, hk⟩ : ∃ k, k = min c (N - F) := ⟨_, rfl⟩
          have hkI : min (c : Int) ((N : Int) - (F : Int)) = (k : Int) := by omega
          have hlo := own_at hown
          obtain ⟨E, hE⟩ : ∃ E, F + k = E := ⟨_, rfl⟩
          have hEI : (F : Int) + (k : Int) = (E : Int) := by omega
          have h1 : F ≤ E := by omega
          have h2 : E ≤ N := by omega
          have h3 : E ≤ cap' := by omega
          have h4 : F < cap' := by omega
          have h5 : ¬ cap' = F := by omega
          have hEF : E - F = k := by omega
          have hcb : c ≤ 70368744177664 := by omega
          have hkc : k ≤ c := by omega
          have HQ := Hid.mk' hq'
          have HOW := Hid.mk' hown
          have HAP := Hid.mk' hap
          have HNN := Hid.mk' hN
          have HKK := Hid.mk' hk
          have HLO := Hid.mk' hlo
          have HMM := Hid.mk' hm
          have hNb : N + k ≤ 70368744177664 := by omega
          clear hq hq' hown hap hN hk hlo hm
          go_wp2_with (first | (at_builtin; refine wpList_append_own _ rfl _ _ 52 rfl base 5 i0 (.int .u8 0) 1 1 Tryz.underlying52 hi hz0 hz1 hz2 rfl (by decide) _ _ _ rfl HOW.out ⟨g', F, none⟩ k (cap' - F) (byv (((Lz.grow off m l).drop F).take k)) rfl (by rw [byv_len, List.length_take, List.length_drop, HLO.out]; omega) (part_cells HOW.out F k (by omega)) (byv_one _) (by unfold maxLen; omega) (by omega) hbw ?_; intro v'' w2 hown2 hgrow _; rw [← byv_append] at hown2; have HO2 := Hid.mk' hown2; have HG2 := Hid.mk' hgrow; clear hown2 hgrow) | fail)
          go_roundw
          case rel =>
            have hF2 : l.length - off = F := by omega
            have hN := HNN.out
            have hm := HMM.out
            have hk := HKK.out
            have hsz2 := HG2.out.size
            have hgr : Lz.grow off (m + k) l = Lz.grow off m l ++ ((Lz.grow off m l).drop F).take k := by
              have := Lz.grow_step off ho'.1 l ho'.2 q k (by rw [← HQ.out]; omega)
              rw [← HQ.out, hF2] at this
              exact this
            refine ⟨q + (q + 1), c - k, m + k, N + k, ?_, by rw [hgr]; exact HO2.out, by omega, by omega, ?_, HAP.out.grown HOW.out hbw HG2.out, by omega⟩
            · congr 1
              omega
            · by_cases hcc : c ≤ N - F
              · left
                omega
              · right
                rw [Nat.mul_add, Nat.mul_add, ← HQ.out, Nat.mul_one]
                omega
          case measure =>
            have hN := HNN.out
            have hk := HKK.out
            simp [intOf]
            omega
  · obtain ⟨y, hy⟩ : ∃ y, l.length + y = off := ⟨off - l.length, by omega⟩
    have hyb : y ≤ bef.size := by omega
    have hyI : (off : Int) - (l.length : Int) = (y : Int) := by omega
    have hy0 : (0 : Int) < (y : Int) := by omega
    obtain ⟨k, hk⟩ : ∃ k, k = min count y := ⟨_, rfl⟩
    obtain ⟨d, hd⟩ : ∃ d, d + y = bef.size := ⟨bef.size - y, by omega⟩
    have hdI : (bef.size : Int) - (y : Int) = (d : Int) := by omega
    have hd1 : d ≤ bef.size := by omega
    have hkk : k ≤ bef.size - d := by omega
    obtain ⟨c1, hc1⟩ : ∃ c1, c1 + k = count := ⟨count - k, by omega⟩
    have hc1I : (count : Int) - (k : Int) = (c1 : Int) := by omega
    have hpart : Sums.bl ((bef.extract d bef.size).extract 0 k) = ((Sums.bl bef).drop d).take k := by rw [Sums.bl_take, Sums.bl_drop]
    have hps : ((bef.extract d bef.size).extract 0 k).size = k := by
      rw [← Sums.bl_length, hpart, List.length_take, List.length_drop, hbl]
      omega
    obtain ⟨l1, hl1⟩ : ∃ l1, l1 = l ++ ((Sums.bl bef).drop d).take k := ⟨_, rfl⟩
    have hl1l : l1.length = l.length + k := by
      rw [hl1, List.length_append, List.length_take, List.length_drop, hbl]
      omega
    have hG : (Lz.grow off count (Sums.bl bef ++ l)).drop bef.size = Lz.grow off c1 l1 := by
      rw [← hc1, Nat.add_comm c1 k, Lz.grow_add, Lz.grow_reach off _ l k y hy (by omega) (by omega) (by omega), hbl, show bef.size - y = d by omega, ← hl1]
      by_cases hz : c1 = 0
      · subst hz
        rw [grow_zero, grow_zero, ← hbl, drop_bef]
      · rw [Lz.grow_behind off (by omega) _ _ _ (by omega), ← hbl, drop_bef]
    rw [hG]
    have hLL : l.length + count = l1.length + c1 := by omega
    rw [hLL]
    have HO := Hid.mk' hown
    have HPART := Hid.mk' hpart
    have HL1 := Hid.mk' hl1
    clear hG hown hpart hl1 hLL
    have step : ∀ (v1 : Value) (w1 : World), w1.ownsRow base 5 1 v1 (l.length + ((bef.extract d bef.size).extract 0 k).size) (byv l ++ Go.Lib.strCells ((bef.extract d bef.size).extract 0 k)) → w1.ownsRow base 5 1 v1 l1.length (byv l1) := by
      intro v1 w1 h
      rw [hps, strc_byv, HPART.out, ← byv_append, ← HL1.out, ← hl1l] at h
      exact h
    have HST := Hid.mk' step
    clear step
    obtain ⟨b, cap, rfl⟩ := own_shape HO.out
    have hkI : min (count : Int) (y : Int) = (k : Int) := by omega
    have hk1 : 1 ≤ k := by omega
    have hk2 : k ≤ y := by omega
    have hk3 : c1 = 0 ∨ k = y := by omega
    have hlp : 0 < l1.length := by omega
    have hlq : l1.length + c1 ≤ 70368744177664 := by omega
    clear hk
    by_cases hz : c1 = 0
    · subst hz
      have HLL := Hid.mk' hl1l
      clear hl1l
      go_enter Tryz.func147, Tryz.ntmps147
      go_wp2_with (first | (at_builtin; refine Go.Lib.wpList_append_own_string _ rfl _ _ 52 9 rfl base 5 i0 Tryz.underlying52 Tryz.underlying9 hi hz0 hz1 hz2 _ _ _ rfl HO.out _ rfl (by rw [hps]; unfold maxLen; omega) (by rw [hps]; omega) hb ?_; intro v1 w1 hown1 hgrow1 _; have HO1 := Hid.mk' (HST.out v1 w1 hown1); have HA1 := Hid.mk' ((Ap.refl base w).grown HO.out hb hgrow1); have hb1 : base ≤ w1.heap.size := Nat.le_trans hb hgrow1.size; clear hown1 hgrow1; obtain ⟨g1, cap1, rfl⟩ := own_some HO1.out (by omega)) | fail)
      refine wp_loop_rounds 1 ?_
      rw [rounds_succ]
      go_wp2
      go_ret
      exact ⟨_, rfl, HO1.out, HA1.out⟩
    · obtain ⟨F, hF⟩ : ∃ F, F = 0 := ⟨_, rfl⟩
      have hFI : (l1.length : Int) - (off : Int) = (F : Int) := by omega
      have hFl : F + off = l1.length := by omega
      have HLL := Hid.mk' hl1l
      clear hl1l hF
      go_enter Tryz.func147, Tryz.ntmps147
      go_wp2_with (first | (at_builtin; refine Go.Lib.wpList_append_own_string _ rfl _ _ 52 9 rfl base 5 i0 Tryz.underlying52 Tryz.underlying9 hi hz0 hz1 hz2 _ _ _ rfl HO.out _ rfl (by rw [hps]; unfold maxLen; omega) (by rw [hps]; omega) hb ?_; intro v1 w1 hown1 hgrow1 _; have HO1 := Hid.mk' (HST.out v1 w1 hown1); have HA1 := Hid.mk' ((Ap.refl base w).grown HO.out hb hgrow1); have hb1 : base ≤ w1.heap.size := Nat.le_trans hb hgrow1.size; clear hown1 hgrow1; obtain ⟨g1, cap1, rfl⟩ := own_some HO1.out (by omega)) | fail)
      go_loopw [1, 3] (fun sv cv wr => ∃ (q c m N : Nat), cv = .int .i64 (c : Int) ∧ wr.ownsRow base 5 1 sv N (byv (Lz.grow off m l1)) ∧ N = l1.length + m ∧ m + c = c1 ∧ (c = 0 ∨ m = off * q) ∧ Ap base w wr ∧ base ≤ wr.heap.size) (fun _ cv _ => (intOf cv).toNat)
      case atStart => exact ⟨0, c1, 0, l1.length, rfl, HO1.out, rfl, by omega, .inr (by simp), HA1.out, hb1⟩
      case round =>
        obtain ⟨q, c, m, N, rfl, hown, hN, hm, hq, hap, hbw⟩ := hrel
        rcases hown.2 with ⟨rfl, h0⟩ | ⟨g', cap', cur', rfl, _, _, hcap, hcm, _⟩
        · omega
        by_cases hc : c = 0
        · subst hc
          obtain rfl : m = c1 := by omega
          go_wp2
          go_ret
          subst hN
          exact ⟨_, rfl,  hown, hap⟩
        · have hq' : m = off * q := by omega
          have hcI : (0 : Int) < (c : Int) := by omega
          obtain ⟨kk, hkk2⟩ : ∃ kk, kk = min c (N - F) := ⟨_, rfl⟩
          have hkI2 : min (c : Int) ((N : Int) - (F : Int)) = (kk : Int) := by omega
          have hlo := own_at hown
          obtain ⟨E, hE⟩ : ∃ E, F + kk = E := ⟨_, rfl⟩
          have hEI : (F : Int) + (kk : Int) = (E : Int) := by omega
          have h1 : F ≤ E := by omega
          have h2 : E ≤ N := by omega
          have h3 : E ≤ cap' := by omega
          have h4 : F < cap' := by omega
          have h5 : ¬ cap' = F := by omega
          have hEF : E - F = kk := by omega
          have hcb : c ≤ 70368744177664 := by omega
          have hkc : kk ≤ c := by omega
          have HQ := Hid.mk' hq'
          have HOW := Hid.mk' hown
          have HAP := Hid.mk' hap
          have HNN := Hid.mk' hN
          have HKK := Hid.mk' hkk2
          have HLO := Hid.mk' hlo
          have HMM := Hid.mk' hm
          have hNb : N + kk ≤ 70368744177664 := by omega
          clear hq hq' hown hap hN hkk2 hlo hm
          go_wp2_with (first | (at_builtin; refine wpList_append_own _ rfl _ _ 52 rfl base 5 i0 (.int .u8 0) 1 1 Tryz.underlying52 hi hz0 hz1 hz2 rfl (by decide) _ _ _ rfl HOW.out ⟨g', F, none⟩ kk (cap' - F) (byv (((Lz.grow off m l1).drop F).take kk)) rfl (by rw [byv_len, List.length_take, List.length_drop, HLO.out]; omega) (part_cells HOW.out F kk (by omega)) (byv_one _) (by unfold maxLen; omega) (by omega) hbw ?_; intro v'' w2 hown2 hgrow _; rw [← byv_append] at hown2; have HO2 := Hid.mk' hown2; have HG2 := Hid.mk' hgrow; clear hown2 hgrow) | fail)
          go_roundw
          case rel =>
            have hF2 : l1.length - off = F := by omega
            have hN := HNN.out
            have hm := HMM.out
            have hkk2 := HKK.out
            have hsz2 := HG2.out.size
            have hgr : Lz.grow off (m + kk) l1 = Lz.grow off m l1 ++ ((Lz.grow off m l1).drop F).take kk := by
              have := Lz.grow_step off (by omega) l1 (by omega) q kk (by rw [← HQ.out]; omega)
              rw [← HQ.out, hF2] at this
              exact this
            refine ⟨q + (q + 1), c - kk, m + kk, N + kk, ?_, by rw [hgr]; exact HO2.out, by omega, by omega, ?_, HAP.out.grown HOW.out hbw HG2.out, by omega⟩
            · congr 1
              omega
            · by_cases hcc : c ≤ N - F
              · left
                omega
              · right
                rw [Nat.mul_add, Nat.mul_add, ← HQ.out, Nat.mul_one]
                omega
          case measure =>
            have hN := HNN.out
            have hkk2 := HKK.out
            simp [intOf]
            omega
end Go.Proofs.YtlplbnlfajdcbaaGreatDoor

namespace Go.Proofs.YtlplbnlfajdcbaaGreatDoor
open Go.RowKit
set_option linter.unusedVariables false
theorem n1_news (w : World) (c : Int) (t : TypeId) : ∀ (j : Nat) (u : Value), [Value.int .u8 c][j]? = some u → (w.alloc (.cells #[.int .u8 c] t)).cell? ((⟨w.heap.size, 0, none⟩ : Addr).add j) = some u := by
  intro j u hu
  have hj : j < 1 := (List.getElem?_eq_some_iff.1 hu).1
  obtain rfl : j = 0 := by omega
  rw [Addr.add_lit]
  simp at hu
  subst hu
  have := heap_alloc_new w (.cells #[.int .u8 c] t)
  simp only [World.cell?]
  rw [this]
  rfl
theorem n2_news (w : World) (c d : Int) (t : TypeId) : ∀ (j : Nat) (u : Value), [Value.int .u8 c, Value.int .u8 d][j]? = some u → (w.alloc (.cells #[.int .u8 c, .int .u8 d] t)).cell? ((⟨w.heap.size, 0, none⟩ : Addr).add j) = some u := by
  intro j u hu
  have hj : j < 2 := (List.getElem?_eq_some_iff.1 hu).1
  have := heap_alloc_new w (.cells #[.int .u8 c, .int .u8 d] t)
  rcases (show j = 0 ∨ j = 1 by omega) with rfl | rfl <;> rw [Addr.add_lit] <;> simp only [World.cell?] <;> rw [this] <;> exact hu
theorem byv_cons (c : Nat) (l : List Nat) : byv (c :: l) = .int .u8 (c : Int) :: byv l := rfl
theorem byv_nil : byv [] = [] := rfl
theorem own_alloc {w : World} {base n : Nat} {e : TypeId} {v : Value} {xs : List Value} {size : Nat} (h : w.ownsRow base e size v n xs) (o : Obj) : (w.alloc o).ownsRow base e size v n xs := by
  refine ⟨h.1, ?_⟩
  rcases h.2 with h0 | ⟨g, cap, cur, rfl, h1, h2, h3⟩
  · exact .inl h0
  · exact .inr ⟨g, cap, cur, rfl, h1, by rw [Below.heap_alloc w o g (Array.getElem?_eq_some_iff.1 h2).1]; exact h2, h3⟩
/-- what a small row behind a row of bytes leaves -/
theorem ap_add {base n : Nat} {a w w' : World} {o : Obj} {v : Value} {xs : List Value} (x : Ap base a w) (hown : w.ownsRow base 5 1 v n xs) (hb : base ≤ w.heap.size) (hg : (w.alloc o).grownBy w' v.ownBlock) : Ap base a w' ∧ base ≤ w'.heap.size :=
  ⟨(x.alloc hb o).grown (own_alloc hown o) (by simp; omega) hg, Nat.le_trans hb (Nat.le_trans (by simp) hg.size)⟩
end Go.Proofs.YtlplbnlfajdcbaaGreatDoor

namespace Go.Proofs.YtlplbnlfajdcbaaGreatDoor
open Go.RowKit
set_option linter.unusedVariables false
theorem lenb_few (n : Nat) (h : n < 15) : Lz.lenb n = [] := by simp [Lz.lenb, h]
theorem lenb_more (n k r : Nat) (h : n = 15 + (255 * k + r)) (hr : r < 255) : Lz.lenb n = List.replicate k 255 ++ [r] := by
  subst h
  rw [Lz.lenb, if_neg (by omega), show (15 + (255 * k + r) - 15) / 255 = k by omega, show (15 + (255 * k + r) - 15) % 255 = r by omega]
theorem lenb_len (n : Nat) : (Lz.lenb n).length ≤ n / 255 + 1 := by
  unfold Lz.lenb
  split
  · simp
  · simp
    omega
set_option maxRecDepth 100000 in
set_option maxHeartbeats 1000000 in
theorem lengthBytes_any (base : Nat) (v : Value) (l : List Nat) (count : Nat) (w : World) (hown : w.ownsRow base 5 1 v l.length (byv l)) (hb : base ≤ w.heap.size) (hsz : l.length + count ≤ 70368744177664) :
    Calls Tryz.prog 119 #[v, .int .i64 (count : Int)] w fun e w' => ∃ v', e = .returned v' ∧ w'.ownsRow base 5 1 v' (l ++ Lz.lenb count).length (byv (l ++ Lz.lenb count)) ∧ Ap base w w' := by
  obtain ⟨i0, hi, hz0, hz1, hz2⟩ := info_parts infoB
  by_cases hf : count < 15
  · rw [lenb_few count hf, List.append_nil]
    have hfI : (count : Int) < 15 := by omega
    obtain ⟨b, cap, rfl⟩ := own_shape hown
    have HO := Hid.mk' hown
    clear hown
    go_enter Tryz.func119, Tryz.ntmps119
    go_wp2
    go_ret
    exact ⟨_, rfl, HO.out, Ap.refl _ _⟩
  · have hfI : ¬ (count : Int) < 15 := by omega
    obtain ⟨c, hc⟩ : ∃ c, count = 15 + c := ⟨count - 15, by omega⟩
    have hcI : (count : Int) - 15 = (c : Int) := by omega
    obtain ⟨b, cap, rfl⟩ := own_shape hown
    have HO := Hid.mk' hown
    have HC := Hid.mk' hc
    clear hown hc
    go_enter Tryz.func119, Tryz.ntmps119
    go_wp2
    go_loopw [0, 5] (fun ov lv wr => ∃ (k r n : Nat), lv = .int .i64 (r : Int) ∧ c = 255 * k + r ∧ n = l.length + k ∧ wr.ownsRow base 5 1 ov n (byv (l ++ List.replicate k 255)) ∧ Ap base w wr ∧ base ≤ wr.heap.size) (fun _ lv _ => (intOf lv).toNat)
    case atStart => exact ⟨0, c, l.length, rfl, by omega, by omega, by simpa using HO.out, Ap.refl _ _, hb⟩
    case round =>
      obtain ⟨k, r, n, rfl, hk, hn, hown, hap, hbw⟩ := hrel
      obtain ⟨b2, cap2, rfl⟩ := own_shape hown
      have hcb := HC.out
      have HOW := Hid.mk' hown
      have HAP := Hid.mk' hap
      have HN := Hid.mk' hn
      have HK := Hid.mk' hk
      have hnb : n + 1 ≤ 140737488355328 := by omega
      have hrb : r ≤ 70368744177664 := by omega
      clear hown hap hn hcb hk
      by_cases hr : r < 255
      · have hrI : ¬ (255 : Int) ≤ (r : Int) := by omega
        go_wp2_with (first | (at_builtin; refine wpList_append_own _ rfl _ _ 52 rfl base 5 i0 (.int .u8 0) 1 1 Tryz.underlying52 hi hz0 hz1 hz2 rfl (by decide) (.slice b2 n cap2) n (byv (l ++ List.replicate k 255)) rfl (by exact (own_alloc HOW.out _)) ⟨_, 0, none⟩ 1 1 [.int .u8 (r : Int)] rfl rfl (n1_news _ _ _) (byv_one [r]) (by unfold maxLen; omega) (by omega) (by simp; omega) ?_; intro v2 w2 hown2 hgrow2 _; have HO2 := Hid.mk' hown2; have HG2 := Hid.mk' (ap_add HAP.out HOW.out hbw hgrow2); clear hown2 hgrow2) | fail)
        go_ret
        refine ⟨_, rfl, ?_, HG2.out.1⟩
        have hn := HN.out
        rw [lenb_more count k r (by have := HC.out; have := HK.out; omega) hr]
        have e : l.length + (List.replicate k 255 ++ [r]).length = n + 1 := by simp; omega
        rw [e, ← List.append_assoc, byv_append]
        exact HO2.out
      · have hrI : (255 : Int) ≤ (r : Int) := by omega
        go_wp2_with (first | (at_builtin; refine wpList_append_own _ rfl _ _ 52 rfl base 5 i0 (.int .u8 0) 1 1 Tryz.underlying52 hi hz0 hz1 hz2 rfl (by decide) (.slice b2 n cap2) n (byv (l ++ List.replicate k 255)) rfl (by exact (own_alloc HOW.out _)) ⟨_, 0, none⟩ 1 1 [.int .u8 255] rfl rfl (n1_news _ _ _) (byv_one [255]) (by unfold maxLen; omega) (by omega) (by simp; omega) ?_; intro v2 w2 hown2 hgrow2 _; have HO2 := Hid.mk' hown2; have HG2 := Hid.mk' (ap_add HAP.out HOW.out hbw hgrow2); clear hown2 hgrow2) | fail)
        go_roundw
        case rel =>
          have hn := HN.out
          have hk := HK.out
          refine ⟨k + 1, r - 255, n + 1, by congr 1; omega, by omega, by omega, ?_, HG2.out.1, HG2.out.2⟩
          rw [List.replicate_succ', ← List.append_assoc, byv_append]
          exact HO2.out
        case measure =>
          simp [intOf]
          omega
theorem half_token (a b : Nat) (ha : a ≤ 15) (hb : b ≤ 15) : bits .or .i64 ((a : Int) * 16) (b : Int) = ((16 * a + b : Nat) : Int) := by
  have : ∀ a ≤ 15, ∀ b ≤ 15, bits .or .i64 ((a : Nat) * 16 : Int) ((b : Nat) : Int) = ((16 * a + b : Nat) : Int) := by decide +kernel
  exact this a ha b hb
set_option maxRecDepth 100000 in
set_option maxHeartbeats 1000000 in
theorem literals_any (base : Nat) (v : Value) (l : List Nat) (s : ByteArray) (beyond : Nat) (w : World) (hown : w.ownsRow base 5 1 v l.length (byv l)) (hb : base ≤ w.heap.size) (hbe : beyond ≤ 140737488355328) (hsz : l.length + s.size ≤ 35184372088832) :
    Calls Tryz.prog 118 #[v, .string s, .int .i64 (beyond : Int)] w fun e w' => ∃ v', e = .returned v' ∧ w'.ownsRow base 5 1 v' (l ++ Lz.lits (Sums.bl s) beyond).length (byv (l ++ Lz.lits (Sums.bl s) beyond)) ∧ Ap base w w' := by
  obtain ⟨i0, hi, hz0, hz1, hz2⟩ := info_parts infoB
  obtain ⟨b, cap, rfl⟩ := own_shape hown
  have HO := Hid.mk' hown
  clear hown
  obtain ⟨a1, ha1⟩ : ∃ a1, a1 = min s.size 15 := ⟨_, rfl⟩
  obtain ⟨a2, ha2⟩ : ∃ a2, a2 = min beyond 15 := ⟨_, rfl⟩
  have h1I : min (s.size : Int) 15 = (a1 : Int) := by omega
  have h2I : min (beyond : Int) 15 = (a2 : Int) := by omega
  have hor := half_token a1 a2 (by omega) (by omega)
  obtain ⟨t, ht⟩ : ∃ t, 16 * a1 + a2 = t := ⟨_, rfl⟩
  rw [ht] at hor
  have ht256 : t < 256 := by omega
  obtain ⟨L1, hL1⟩ : ∃ L1, L1 = l ++ [t] := ⟨_, rfl⟩
  have hL1l : L1.length = l.length + 1 := by rw [hL1]; simp
  have hfin : l ++ Lz.lits (Sums.bl s) beyond = (L1 ++ Lz.lenb s.size) ++ Sums.bl s := by
    rw [hL1, Lz.lits, Sums.bl_length, ← ha1, ← ha2, ht]
    simp
  have hll := lenb_len s.size
  rw [hfin]
  have HA := Hid.mk' (And.intro ha1 ha2)
  have HL := Hid.mk' hL1
  have HLL := Hid.mk' hL1l
  have ha1b : a1 ≤ 15 := by omega
  have ha2b : a2 ≤ 15 := by omega
  obtain ⟨L2, hL2⟩ : ∃ L2, L1 ++ Lz.lenb s.size = L2 := ⟨_, rfl⟩
  have hL2l : L2.length + s.size ≤ 140737488355328 := by rw [← hL2, List.length_append]; omega
  have hL1b : L1.length + s.size ≤ 70368744177664 := by omega
  have HLB := Hid.mk' (fun (v : Value) (w : World) => lengthBytes_any base v L1 s.size w)
  rw [hL2] at HLB ⊢
  clear ha1 ha2 hL1 hL1l hfin hL2 hll ht
  go_enter Tryz.func118, Tryz.ntmps118
  go_wp2_with (first | (at_builtin; refine wpList_append_own _ rfl _ _ 52 rfl base 5 i0 (.int .u8 0) 1 1 Tryz.underlying52 hi hz0 hz1 hz2 rfl (by decide) (.slice b l.length cap) l.length (byv l) rfl (by exact (own_alloc HO.out _)) ⟨_, 0, none⟩ 1 1 [.int .u8 (t : Int)] rfl rfl (n1_news _ _ _) (byv_one [t]) (by unfold maxLen; omega) (by omega) (by simp; omega) ?_; intro v2 w2 hown2 hgrow2 _; have HO2 := Hid.mk' (show w2.ownsRow base 5 1 v2 L1.length (byv L1) by rw [HLL.out, HL.out, byv_append]; exact hown2); have HG2 := Hid.mk' (ap_add (Ap.refl base w) HO.out hb hgrow2); clear hown2 hgrow2; obtain ⟨b2, cap2, rfl⟩ := own_shape HO2.out) | (go_at_call 119; refine (HLB.out (.slice b2 L1.length cap2) _ (by exact HO2.out) HG2.out.2 hL1b).mono ?_; rintro e w3 ⟨v3, rfl, hown3, hap3⟩; have HO3 := Hid.mk' hown3; have HA3 := Hid.mk' (And.intro (HG2.out.1.trans hap3) (Nat.le_trans HG2.out.2 hap3.below.size)); clear hown3 hap3; obtain ⟨b3, cap3, rfl⟩ := own_shape HO3.out) | (at_builtin; refine Go.Lib.wpList_append_own_string _ rfl _ _ 52 9 rfl base 5 i0 Tryz.underlying52 Tryz.underlying9 hi hz0 hz1 hz2 (.slice b3 L2.length cap3) L2.length (byv L2) rfl HO3.out s rfl (by unfold maxLen; omega) hL2l HA3.out.2 ?_; intro v4 w4 hown4 hgrow4 _; have HO4 := Hid.mk' hown4; have HG4 := Hid.mk' (HA3.out.1.grown HO3.out HA3.out.2 hgrow4); clear hown4 hgrow4) | fail)
  go_ret
  refine ⟨_, rfl, ?_, HG4.out⟩
  rw [List.length_append, Sums.bl_length, byv_append, ← strc_byv]
  exact HO4.out
end Go.Proofs.YtlplbnlfajdcbaaGreatDoor

namespace Go.Proofs.YtlplbnlfajdcbaaGreatDoor
open Go.RowKit
set_option linter.unusedVariables false
/-- copies that may stand one behind the other -/
def okc (n : Nat) : Nat → List Lz.Cp → Prop
  | _, [] => True
  | i, c :: l => i ≤ c.at_ ∧ 4 ≤ c.cnt ∧ c.at_ + c.cnt ≤ n ∧ c.off < 65536 ∧ okc n (c.at_ + c.cnt) l
def cpv : List Lz.Cp → List Value
  | [] => []
  | c :: l => .int .i64 (c.at_ : Int) :: .int .i64 (c.off : Int) :: .int .i64 (c.cnt : Int) :: cpv l
theorem cpv_len : ∀ l, (cpv l).length = 3 * l.length
  | [] => rfl
  | c :: l => by simp [cpv, cpv_len l]; omega
theorem cpv_append : ∀ a b, cpv (a ++ b) = cpv a ++ cpv b
  | [], b => rfl
  | c :: a, b => by simp [cpv, cpv_append a b]
theorem cpv_at : ∀ (l : List Lz.Cp) (j : Nat) (c : Lz.Cp), l[j]? = some c → (cpv l)[3 * j]? = some (.int .i64 (c.at_ : Int)) ∧ (cpv l)[3 * j + 1]? = some (.int .i64 (c.off : Int)) ∧ (cpv l)[3 * j + 2]? = some (.int .i64 (c.cnt : Int))
  | [], j, c, h => by simp at h
  | x :: l, 0, c, h => by
    simp at h
    subst h
    simp [cpv]
  | x :: l, j + 1, c, h => by
    simp at h
    have := cpv_at l j c h
    simp only [cpv, show 3 * (j + 1) = 3 * j + 1 + 1 + 1 by omega, show 3 * j + 1 + 1 + 1 + 1 = (3 * j + 1) + 1 + 1 + 1 by omega, show 3 * j + 1 + 1 + 1 + 2 = (3 * j + 2) + 1 + 1 + 1 by omega, List.getElem?_cons_succ]
    exact this
/-- a row of copies, as it lies in memory -/
def Cpr (w : World) (v : Value) (l : List Lz.Cp) : Prop :=
  (v = .slice none 0 0 ∧ l = []) ∨ ∃ g cap cur fz, v = .slice (some ⟨g, 0, none⟩) l.length cap ∧ l.length ≤ cap ∧ w.heap[g]? = some (.cells cur 191 fz) ∧ cur.toList.take (3 * l.length) = cpv l
theorem Cpr.keep {w w' : World} {v : Value} {l : List Lz.Cp} (h : Cpr w v l) (hk : ∀ (k : Nat) (o : Obj), w.heap[k]? = some o → (∀ cur fz, o ≠ .cells cur 5 fz) → w'.heap[k]? = some o) : Cpr w' v l := by
  rcases h with h | ⟨g, cap, cur, fz, h1, h2, h3, h4⟩
  · exact .inl h
  · exact .inr ⟨g, cap, cur, fz, h1, h2, hk g _ h3 (by intro _ _ e; simp at e), h4⟩
theorem Cpr.cells {w : World} {g n cap : Nat} {l : List Lz.Cp} (h : Cpr w (.slice (some ⟨g, 0, none⟩) n cap) l) (j : Nat) (c : Lz.Cp) (hc : l[j]? = some c) :
    w.cell? ⟨g, j * 3, none⟩ = some (.int .i64 (c.at_ : Int)) ∧ w.cell? ⟨g, j * 3 + 1, none⟩ = some (.int .i64 (c.off : Int)) ∧ w.cell? ⟨g, j * 3 + 2, none⟩ = some (.int .i64 (c.cnt : Int)) := by
  rw [Nat.mul_comm j 3]
  rcases h with ⟨h, _⟩ | ⟨g', cap', cur, fz, h1, h2, h3, h4⟩
  · simp at h
  · simp only [Value.slice.injEq, Option.some.injEq, Addr.mk.injEq, and_true] at h1
    obtain ⟨rfl, _⟩ := h1
    have hj : j < l.length := (List.getElem?_eq_some_iff.1 hc).1
    obtain ⟨a, b, d⟩ := cpv_at l j c hc
    rw [← h4] at a b d
    rw [List.getElem?_take, if_pos (by omega)] at a b d
    simp only [World.cell?, h3]
    refine ⟨by simpa using a, by simpa using b, by simpa using d⟩
theorem three_cell {w : World} {b : Nat} {f0 f1 f2 : Value} {t : TypeId} (h : w.heap[b]? = some (.cells #[f0, f1, f2] t (0, 0))) : w.cell? ⟨b, 0, none⟩ = some f0 ∧ w.cell? ⟨b, 1, none⟩ = some f1 ∧ w.cell? ⟨b, 2, none⟩ = some f2 := by
  simp [World.cell?, h]
theorem exts (s : ByteArray) (i j : Nat) (h : i ≤ j) (hj : j ≤ s.size) : (s.extract i j).size = j - i := by
  rw [ByteArray.size_extract]
  omega
theorem okc_len (n : Nat) : ∀ (l : List Lz.Cp) (i : Nat), i ≤ n → okc n i l → i + 4 * l.length ≤ n
  | [], i, hi, _ => by simpa using hi
  | c :: l, i, hi, ⟨h1, h2, h3, h4, h5⟩ => by
    have := okc_len n l _ h3 h5
    simp only [List.length_cons]
    omega
theorem packed_len (bs : List Nat) : ∀ (l : List Lz.Cp) (i : Nat), i ≤ bs.length → okc bs.length i l → (Lz.packed bs i l).length ≤ 4 * (bs.length - i) + 4
  | [], i, hi, _ => by
    have := lenb_len (bs.length - i)
    simp only [Lz.packed, Lz.lits, List.length_cons, List.length_append, List.length_drop]
    omega
  | c :: l, i, hi, ⟨h1, h2, h3, h4, h5⟩ => by
    have ih := packed_len bs l (c.at_ + c.cnt) h3 h5
    have e1 := lenb_len (min c.at_ bs.length - i)
    have e2 := lenb_len (c.cnt - 4)
    simp only [Lz.packed, Lz.lits, List.length_cons, List.length_append, List.length_drop, List.length_take, List.length_nil]
    omega
/-- what was laid so far, and what is left -/
structure Wr (s : ByteArray) (l : List Lz.Cp) (base : Nat) (w0 : World) (ov : Value) (j i : Nat) (L : List Nat) (w : World) : Prop where
  row : w.ownsRow base 5 1 ov L.length (byv L)
  eq : L ++ Lz.packed (Sums.bl s) i (l.drop j) = Lz.packed (Sums.bl s) 0 l
  le : i ≤ s.size
  ok : okc s.size i (l.drop j)
  ap : Ap base w0 w
  siz : base ≤ w.heap.size
theorem Wr.small {s : ByteArray} {l : List Lz.Cp} {base : Nat} {w0 : World} {ov : Value} {j i : Nat} {L : List Nat} {w : World} (h : Wr s l base w0 ov j i L w) (hl : okc s.size 0 l) : L.length ≤ 4 * s.size + 4 := by
  have e := congrArg List.length h.eq
  rw [List.length_append] at e
  have := packed_len (Sums.bl s) l 0 (Nat.zero_le _) (by rw [Sums.bl_length]; exact hl)
  rw [Sums.bl_length] at this
  omega
set_option maxRecDepth 100000 in
set_option maxHeartbeats 1000000 in
theorem written_any (s : ByteArray) (cv : Value) (l : List Lz.Cp) (w0 : World) (hs : s.size ≤ 4294967296) (hcp : Cpr w0 cv l) (hl : okc s.size 0 l) :
    Calls Tryz.prog 92 #[.string s, cv] w0 fun e w' => e = .returned (.string (nums (Lz.packed (Sums.bl s) 0 l))) ∧ Ap w0.heap.size w0 w' := by
  obtain ⟨i0, hi, hz0, hz1, hz2⟩ := info_parts infoB
  have hshape : ∃ b cap, cv = .slice b l.length cap := by
    rcases hcp with ⟨rfl, rfl⟩ | ⟨g, cap, cur, fz, rfl, _⟩
    · exact ⟨none, 0, rfl⟩
    · exact ⟨_, cap, rfl⟩
  obtain ⟨b, cap, rfl⟩ := hshape
  have HCP := Hid.mk' hcp
  have HL := Hid.mk' hl
  have hst : Wr s l w0.heap.size w0 (.slice none 0 0) 0 0 [] w0 := ⟨World.ownsRow_nil _ _ _ _, rfl, Nat.zero_le _, hl, Ap.refl _ _, Nat.le_refl _⟩
  have HST := Hid.mk' hst
  obtain ⟨P, hP⟩ : ∃ P, Lz.packed (Sums.bl s) 0 l = P := ⟨_, rfl⟩
  rw [hP]
  have HP := Hid.mk' hP
  have hlen := okc_len s.size l 0 (Nat.zero_le _) hl
  clear hst hl hcp hP
  go_enter Tryz.func92, Tryz.ntmps92
  go_wp2
  go_loopw [5, 6, 12] (fun ov iv jv wr => ∃ (j i : Nat) (L : List Nat), iv = .int .i64 (i : Int) ∧ jv = .int .i64 (j : Int) ∧ j ≤ l.length ∧ Wr s l w0.heap.size w0 ov j i L wr) (fun _ _ jv _ => l.length - (intOf jv).toNat)
  case atStart => exact ⟨0, 0, [], rfl, rfl, Nat.zero_le _, HST.out⟩
  case round =>
    obtain ⟨j, i, L, rfl, rfl, hj, hwr⟩ := hrel
    clear HST
    obtain ⟨b1, cap1, rfl⟩ := own_shape hwr.row
    have hLs := hwr.small HL.out
    have hile := hwr.le
    have hbw := hwr.siz
    by_cases hjl : j = l.length
    · have hjI : ¬ (j : Int) < (l.length : Int) := by omega
      have hd : l.drop j = [] := List.drop_eq_nil_of_le (by omega)
      have heq := hwr.eq
      rw [hd, Lz.packed] at heq
      obtain ⟨T, hT⟩ : ∃ T, s.extract i s.size = T := ⟨_, rfl⟩
      have hTs : T.size = s.size - i := by rw [← hT]; exact exts s i s.size hile (Nat.le_refl _)
      have hTb : Sums.bl T = (Sums.bl s).drop i := by rw [← hT]; exact Sums.bl_drop s i
      rw [← hTb] at heq
      rw [HP.out] at heq
      have HLI := Hid.mk' (fun (v : Value) (w : World) => literals_any w0.heap.size v L T 0 w)
      rw [heq] at HLI
      have HWR := Hid.mk' hwr
      have hLb : L.length + T.size ≤ 35184372088832 := by omega
      clear hwr heq hd hTb
      go_wp2_with (first | (go_at_call 118; refine (HLI.out (.slice b1 L.length cap1) _ (by exact HWR.out.row) hbw (by omega) hLb).mono ?_; rintro e w2 ⟨v2, rfl, hown2, hap2⟩; have hcv := conv_own w0.heap.size _ _ w2 _ rfl hown2; have HA2 := Hid.mk' (HWR.out.ap.trans hap2); obtain ⟨b2, cap2, rfl⟩ := own_shape hown2; clear hap2 hown2) | fail)
      go_ret
      exact ⟨rfl, HA2.out⟩
    · have hlt : j < l.length := by omega
      have hjI : (j : Int) < (l.length : Int) := by omega
      obtain ⟨c, hc⟩ : ∃ c, l[j]? = some c := ⟨_, List.getElem?_eq_getElem hlt⟩
      have hsome : ∃ g, b = some ⟨g, 0, none⟩ := by
        rcases HCP.out with ⟨h, h1⟩ | ⟨g, _, _, _, h, _⟩
        · rw [h1] at hlt
          simp at hlt
        · simp only [Value.slice.injEq] at h
          exact ⟨g, h.1⟩
      obtain ⟨g, rfl⟩ := hsome
      obtain ⟨k1, k2, k3⟩ := (HCP.out.keep hwr.ap.keep).cells j c hc
      obtain ⟨ca, co, cn⟩ := c
      simp only at k1 k2 k3
      have hok := hwr.ok
      have heq := hwr.eq
      rw [List.drop_eq_getElem_cons hlt] at hok heq
      rw [List.getElem?_eq_getElem hlt, Option.some.injEq] at hc
      rw [hc] at hok heq
      obtain ⟨o1, o2, o3, o4, o5⟩ := hok
      simp only at o1 o2 o3 o4 o5
      have HWR := Hid.mk' hwr
      have HEQ := Hid.mk' heq
      have HOK := Hid.mk' o5
      obtain ⟨be, hbe⟩ : ∃ be, cn = 4 + be := ⟨cn - 4, by omega⟩
      have hbeI : (cn : Int) - 4 = (be : Int) := by omega
      obtain ⟨e2, he2⟩ : ∃ e2, ca + cn = e2 := ⟨_, rfl⟩
      have he2I : (ca : Int) + (cn : Int) = (e2 : Int) := by omega
      have hcas : ca ≤ s.size := by omega
      obtain ⟨T, hT⟩ : ∃ T, s.extract i ca = T := ⟨_, rfl⟩
      have hTs : T.size = ca - i := by rw [← hT]; exact exts s i ca o1 hcas
      have hTb : Sums.bl T = ((Sums.bl s).take ca).drop i := by rw [← hT]; exact Sums.bl_extract s i ca
      obtain ⟨x0, hx0⟩ : ∃ x0, co % 256 = x0 := ⟨_, rfl⟩
      obtain ⟨x1, hx1⟩ : ∃ x1, co / 256 = x1 := ⟨_, rfl⟩
      have hx0I : (co : Int) % 256 = (x0 : Int) := by omega
      have hx1I : (co : Int) / 256 = (x1 : Int) := by omega
      have hx1b : x1 < 256 := by omega
      obtain ⟨L1, hL1⟩ : ∃ L1, L ++ Lz.lits (Sums.bl T) be = L1 := ⟨_, rfl⟩
      obtain ⟨L2, hL2⟩ : ∃ L2, L2 = L1 ++ [x0, x1] := ⟨_, rfl⟩
      have hL2l : L2.length = L1.length + 2 := by rw [hL2]; simp
      obtain ⟨L3, hL3⟩ : ∃ L3, L2 ++ Lz.lenb be = L3 := ⟨_, rfl⟩
      have hL3e : L3 ++ Lz.packed (Sums.bl s) e2 (l.drop (j + 1)) = Lz.packed (Sums.bl s) 0 l := by
        rw [← HEQ.out, ← hL3, hL2, ← hL1, hTb, Lz.packed, ← he2]
        simp only
        rw [show cn - 4 = be by omega, hx0, hx1]
        simp
      have hL1s : L1.length ≤ 4 * s.size + 100 := by
        have e := congrArg List.length hL3e
        have := packed_len (Sums.bl s) l 0 (Nat.zero_le _) (by rw [Sums.bl_length]; exact HL.out)
        rw [Sums.bl_length] at this
        rw [← hL3, hL2] at e
        simp only [List.length_append] at e
        omega
      have HLI := Hid.mk' (fun (v : Value) (w : World) => literals_any w0.heap.size v L T be w)
      have HLE := Hid.mk' (fun (v : Value) (w : World) => lengthBytes_any w0.heap.size v L2 be w)
      rw [hL1] at HLI
      rw [hL3] at HLE
      have HL3E := Hid.mk' hL3e
      have hne : wr.heap.size = wr.heap.size := rfl
      have HE2 := Hid.mk' he2
      have he2s : e2 ≤ s.size := by omega
      clear hwr heq o5 hc hTb hL1 hL3 hL3e hx0 hx1 hbe hne he2
      have hLb : L.length + T.size ≤ 35184372088832 := by omega
      have hbb : be ≤ 140737488355328 := by omega
      have hL2b : L2.length + be ≤ 70368744177664 := by omega
      have HL2 := Hid.mk' (And.intro hL2 hL2l)
      clear hL2 hL2l
      go_wp2_with (first | (go_at_call 118; refine (HLI.out (.slice b1 L.length cap1) _ (by exact (own_alloc HWR.out.row _)) (by simp; omega) hbb hLb).mono ?_; rintro e w2 ⟨v2, rfl, hown2, hap2⟩; have hcb := hap2.keep wr.heap.size _ (heap_alloc_new wr _) (by intro _ _ h; simp at h); obtain ⟨m0, m1, m2⟩ := three_cell hcb; have HCB := Hid.mk' hcb; have hsz2 : w0.heap.size ≤ w2.heap.size := Nat.le_trans (by simp; omega) hap2.below.size; have HA2 := Hid.mk' ((HWR.out.ap.alloc hbw _).trans hap2); have HO2 := Hid.mk' hown2; obtain ⟨b2, cap2, rfl⟩ := own_shape hown2; clear hcb hap2 hown2) | (at_builtin; refine wpList_append_own _ rfl _ _ 52 rfl w0.heap.size 5 i0 (.int .u8 0) 1 1 Tryz.underlying52 hi hz0 hz1 hz2 rfl (by decide) (.slice b2 L1.length cap2) L1.length (byv L1) rfl (by exact (own_alloc HO2.out _)) ⟨_, 0, none⟩ 2 2 [.int .u8 (x0 : Int), .int .u8 (x1 : Int)] rfl rfl (n2_news _ _ _ _) (byv_one [x0, x1]) (by unfold maxLen; omega) (by omega) (by simp; omega) ?_; intro v3 w3 hown3 hgrow3 _; have hap3 := ap_add HA2.out HO2.out hsz2 hgrow3; have hcb := (ap_add (Ap.refl w0.heap.size w2) HO2.out hsz2 hgrow3).1.keep wr.heap.size _ HCB.out (by intro _ _ h; simp at h); have HCB3 := Hid.mk' hcb; have HO3 := Hid.mk' (show w3.ownsRow w0.heap.size 5 1 v3 L2.length (byv L2) by rw [HL2.out.2, HL2.out.1, byv_append]; exact hown3); have HA3 := Hid.mk' hap3; obtain ⟨b3, cap3, rfl⟩ := own_shape HO3.out; clear hcb hap3 hown3 hgrow3) | (go_at_call 119; refine (HLE.out (.slice b3 L2.length cap3) _ (by exact HO3.out) HA3.out.2 hL2b).mono ?_; rintro e w4 ⟨v4, rfl, hown4, hap4⟩; have hcb := hap4.keep wr.heap.size _ HCB3.out (by intro _ _ h; simp at h); obtain ⟨n0, n1, n2⟩ := three_cell hcb; have HO4 := Hid.mk' hown4; have HA4 := Hid.mk' (And.intro (HA3.out.1.trans hap4) (Nat.le_trans HA3.out.2 hap4.below.size)); obtain ⟨b4, cap4, rfl⟩ := own_shape hown4; clear hcb hap4 hown4) | fail)
      go_roundw
      case rel =>
        refine ⟨j + 1, e2, L3, rfl, by simp, by omega, ⟨HO4.out, HL3E.out, by omega, by rw [← HE2.out]; exact HOK.out, HA4.out.1, HA4.out.2⟩⟩
      case measure =>
        simp [intOf]
        omega
end Go.Proofs.YtlplbnlfajdcbaaGreatDoor

namespace Go.Proofs.YtlplbnlfajdcbaaGreatDoor
open Go.RowKit
set_option linter.unusedVariables false
theorem greedyF_stop (bs : List Nat) (tries f p : Nat) (h : bs.length < p + 12) : Lz.greedyF bs tries f p = [] := by
  cases f with
  | zero => rfl
  | succ f => rw [Lz.greedyF, if_pos h]
theorem greedyF_skip (bs : List Nat) (tries f p : Nat) (h : ¬ bs.length < p + 12) (h0 : (Lz.long bs tries p).2 = 0) : Lz.greedyF bs tries (f + 1) p = Lz.greedyF bs tries f (p + 1) := by
  rw [Lz.greedyF, if_neg h, if_pos h0]
theorem greedyF_copy (bs : List Nat) (tries f p off cnt : Nat) (h : ¬ bs.length < p + 12) (hl : Lz.long bs tries p = (off, cnt)) (h0 : ¬ cnt = 0) : Lz.greedyF bs tries (f + 1) p = ⟨p, off, cnt⟩ :: Lz.greedyF bs tries f (p + cnt) := by
  rw [Lz.greedyF, if_neg h, hl, if_neg h0]
theorem okc_mono (n i j : Nat) : ∀ (l : List Lz.Cp), i ≤ j → okc n j l → okc n i l
  | [], _, _ => trivial
  | c :: l, h, ⟨h1, h2⟩ => ⟨by omega, h2⟩
theorem okc_greedyF (bs : List Nat) (hb : ∀ z ∈ bs, z < 256) (tries : Nat) : ∀ (f p : Nat), okc bs.length p (Lz.greedyF bs tries f p)
  | 0, p => trivial
  | f + 1, p => by
    rw [Lz.greedyF]
    split
    · trivial
    · rename_i h
      have hg := Lz.long_good bs hb tries p (by omega)
      split
      · have ih := okc_greedyF bs hb tries f (p + 1)
        exact okc_mono _ _ _ _ (by omega) ih
      · rename_i h0
        rcases hg with hg | hg
        · exact absurd hg.1 h0
        · exact ⟨Nat.le_refl _, hg.1, by simp only; omega, by simp only; omega, okc_greedyF bs hb tries f _⟩
theorem infoM : (Tryz.prog.info? 191).map (fun i => (i.zero, i.size, i.bytes)) = some (some (.agg #[.int .i64 0, .int .i64 0, .int .i64 0]), 3, 24) := by kernel_rfl
theorem n3_news (w : World) (x y z : Value) (t : TypeId) : ∀ (j : Nat) (u : Value), [x, y, z][j]? = some u → (w.alloc (.cells #[x, y, z] t)).cell? ((⟨w.heap.size, 0, none⟩ : Addr).add j) = some u := by
  intro j u hu
  have hj : j < 3 := (List.getElem?_eq_some_iff.1 hu).1
  have := heap_alloc_new w (.cells #[x, y, z] t)
  rcases (show j = 0 ∨ j = 1 ∨ j = 2 by omega) with rfl | rfl | rfl <;> rw [Addr.add_lit] <;> simp only [World.cell?] <;> rw [this] <;> exact hu
theorem n3_next (w : World) (o : Obj) (x y z : Value) (t : TypeId) : ∀ (j : Nat) (u : Value), [x, y, z][j]? = some u → ((w.alloc o).alloc (.cells #[x, y, z] t)).cell? ((⟨w.heap.size + 1, 0, none⟩ : Addr).add j) = some u := by
  intro j u hu
  have := n3_news (w.alloc o) x y z t j u hu
  rw [show (w.alloc o).heap.size = w.heap.size + 1 by simp] at this
  exact this
theorem cp_one (a b c : Int) : ∀ u ∈ [Value.int .i64 a, .int .i64 b, .int .i64 c], u.oneCell' = true := by
  intro u hu
  simp at hu
  rcases hu with rfl | rfl | rfl <;> rfl
theorem row_shapeZ {w : World} {base n size : Nat} {e : TypeId} {v : Value} {xs : List Value} (h : w.ownsRow base e size v n xs) : ∃ b cap, v = .slice b n cap := by
  rcases h.2 with ⟨rfl, rfl⟩ | ⟨g, cap, cur, rfl, _⟩
  · exact ⟨none, 0, rfl⟩
  · exact ⟨some ⟨g, 0, none⟩, cap, rfl⟩
theorem row_otherZ {w : World} {base n size : Nat} {e : TypeId} {v : Value} {xs : List Value} (h : w.ownsRow base e size v n xs) {B : Nat} {cs : Array Value} {t : TypeId} {fz : Nat × Nat} (hB : w.heap[B]? = some (.cells cs t fz)) (ht : t ≠ e) : v.ownBlock ≠ some B := by
  rcases h.2 with ⟨rfl, _⟩ | ⟨g, cap, cur, rfl, _, h2, _⟩
  · simp [Value.ownBlock]
  · intro q
    simp only [Value.ownBlock, Option.some.injEq] at q
    subst q
    rw [h2] at hB
    simp only [Option.some.injEq, Obj.cells.injEq] at hB
    exact ht hB.2.1.symm
theorem row_keptZ {w w' : World} {base n size : Nat} {e : TypeId} {v : Value} {xs : List Value} (h : w.ownsRow base e size v n xs) (hb : ∀ k, v.ownBlock = some k → w'.heap[k]? = w.heap[k]?) : w'.ownsRow base e size v n xs := by
  refine ⟨h.1, ?_⟩
  rcases h.2 with h0 | ⟨g, cap, cur, rfl, h1, h2, h3⟩
  · exact .inl h0
  · exact .inr ⟨g, cap, cur, rfl, h1, by rw [hb g rfl]; exact h2, h3⟩
theorem cpr_of {w : World} {base n : Nat} {v : Value} {l : List Lz.Cp} (h : w.ownsRow base 191 3 v n (cpv l)) (hn : n = l.length) : Cpr w v l := by
  subst hn
  rcases h.2 with ⟨rfl, h0⟩ | ⟨g, cap, cur, rfl, h1, h2, h3, h4, h5, h6⟩
  · exact .inl ⟨rfl, List.length_eq_zero_iff.1 h0⟩
  · exact .inr ⟨g, cap, cur, (0, 0), rfl, h3, h2, by rw [Nat.mul_comm]; exact h6⟩
theorem below_up2 {base : Nat} {a b c : World} (h : Below base a b) (hb : base ≤ b.heap.size) (k : Below b.heap.size b c) : Below base a c :=
  h.trans ⟨k.os, k.tape, k.output, k.size, fun i hi => k.block i (by omega)⟩
structure Gr (bs : List Nat) (m g tries : Nat) (w0 : World) (ov : Value) (L : List Lz.Cp) (n p : Nat) (w : World) : Prop where
  row : w.ownsRow w0.heap.size 191 3 ov n (cpv L)
  len : n = L.length
  eq : ∃ f, bs.length < p + f ∧ L ++ Lz.greedyF bs tries f p = Lz.greedy bs tries
  near : w.heap[g]? = some (.cells (nearV bs m m).toArray 3 (0, 0))
  bel : Below w0.heap.size w0 w
  siz : w0.heap.size ≤ w.heap.size
  lim : n ≤ p
set_option maxRecDepth 100000 in
set_option maxHeartbeats 1000000 in
theorem greedy_any (s : ByteArray) (tries : Nat) (w : World) (hs : s.size ≤ 4294967296) (ht : tries ≤ 4294967296) :
    Calls Tryz.prog 93 #[.string s, .int .i64 (tries : Int)] w fun e w' => ∃ v, e = .returned v ∧ Cpr w' v (Lz.greedy (Sums.bl s) tries) ∧ Below w.heap.size w w' := by
  obtain ⟨i0, hi, hz0, hz1, hz2⟩ := info_parts infoM
  have HNS := Hid.mk' (nearestSame_any s w hs)
  have hsl := Sums.bl_length s
  have HSL := Hid.mk' hsl
  obtain ⟨m, hm⟩ : ∃ m, s.size - 3 = m := ⟨_, rfl⟩
  rw [hm] at HNS
  have HM := Hid.mk' hm
  clear hm hsl
  go_enter Tryz.func93, Tryz.ntmps93
  go_wp2_with (first | (go_at_call 120; refine HNS.out.mono ?_; rintro e w1 ⟨g, rfl, hg, hnear, hbel1⟩; have HN := Hid.mk' hnear; have HB1 := Hid.mk' hbel1; clear hnear hbel1) | fail)
  go_loopw [5, 7] (fun ov pv wr => ∃ (L : List Lz.Cp) (n p : Nat), pv = .int .i64 (p : Int) ∧ p ≤ s.size ∧ Gr (Sums.bl s) m g tries w ov L n p wr) (fun _ pv _ => s.size + 1 - (intOf pv).toNat)
  case atStart => exact ⟨[], 0, 0, rfl, Nat.zero_le _, ⟨World.ownsRow_nil _ _ _ _, rfl, ⟨s.size + 1, by rw [HSL.out]; omega, by rw [List.nil_append, Lz.greedy, HSL.out]⟩, HN.out, HB1.out, HB1.out.size, Nat.le_refl _⟩⟩
  case round =>
    obtain ⟨L, n, p, rfl, hps, hgr⟩ := hrel
    clear HNS HN HB1
    obtain ⟨b, cap, rfl⟩ := row_shapeZ hgr.row
    by_cases hend : s.size < p + 12
    · have hI : ¬ (p : Int) ≤ (s.size : Int) - 12 := by omega
      obtain ⟨f, hf, he⟩ := hgr.eq
      rw [greedyF_stop _ _ _ _ (by rw [HSL.out]; exact hend), List.append_nil] at he
      have HG := Hid.mk' hgr
      have HE := Hid.mk' he
      clear hgr he
      go_wp2
      go_ret
      exact ⟨_, rfl, by rw [← HE.out]; exact cpr_of HG.out.row HG.out.len, HG.out.bel⟩
    · have hI : (p : Int) ≤ (s.size : Int) - 12 := by omega
      obtain ⟨off, hoff⟩ : ∃ off, (Lz.long (Sums.bl s) tries p).1 = off := ⟨_, rfl⟩
      obtain ⟨cnt, hcnt⟩ : ∃ cnt, (Lz.long (Sums.bl s) tries p).2 = cnt := ⟨_, rfl⟩
      have hlong : Lz.long (Sums.bl s) tries p = (off, cnt) := by rw [← hoff, ← hcnt]
      have hgood := Lz.long_good (Sums.bl s) (Sums.bl_byt s) tries p (by rw [HSL.out]; omega)
      rw [hlong, Lz.Good, HSL.out] at hgood
      have HL := Hid.mk' (longest_any s g m p tries wr hs HM.out.symm (by have := HM.out; omega) ht hgr.near)
      rw [hlong] at HL
      obtain ⟨f, hf, he⟩ := hgr.eq
      rw [HSL.out] at hf
      obtain ⟨f1, rfl⟩ : ∃ f1, f = f1 + 1 := ⟨f - 1, by omega⟩
      have HG := Hid.mk' hgr
      have hsz := hgr.siz
      have hlim := hgr.lim
      have hglt : g < wr.heap.size := (Array.getElem?_eq_some_iff.1 hgr.near).1
      by_cases hc0 : cnt = 0
      · subst hc0
        rw [greedyF_skip _ _ _ _ (by rw [HSL.out]; exact hend) (by rw [hlong])] at he
        have HE := Hid.mk' he
        clear hgr he hlong hoff hcnt hgood
        go_wp2_with (first | (go_at_call 121; refine HL.out.mono ?_; rintro e w2 ⟨rfl, hb2⟩; unfold mtV; have HB2 := Hid.mk' hb2; clear hb2) | fail)
        go_roundw
        case rel =>
          refine ⟨L, n, p + 1, by simp, by omega, ⟨?_, HG.out.len, ⟨f1, by rw [HSL.out]; omega, HE.out⟩, ?_, ?_, ?_, by omega⟩⟩
          · exact (row_keptZ HG.out.row fun k hk => HB2.out.block k (HG.out.row.lt k hk).2).alloc _
          · rw [Below.heap_alloc _ _ _ (Nat.lt_of_lt_of_le hglt HB2.out.size), HB2.out.block g hglt]
            exact HG.out.near
          · exact (below_up2 HG.out.bel hsz HB2.out).alloc (Nat.le_trans hsz HB2.out.size) _
          · have := HB2.out.size
            simp
            omega
        case measure =>
          simp [intOf]
          omega
      · have hcI : ((cnt : Int) == 0) = false := by simp; exact hc0
        obtain ⟨g1, g2, g3, g4, g5⟩ : 4 ≤ cnt ∧ cnt ≤ s.size - 5 - p ∧ 1 ≤ off ∧ off ≤ 65535 ∧ off ≤ p := by
          rcases hgood with h | h
          · exact absurd h.1 hc0
          · exact h
        rw [greedyF_copy _ _ _ _ off cnt (by rw [HSL.out]; exact hend) hlong hc0] at he
        have hat : atOf p cnt = p := by unfold atOf; rw [if_neg hc0]
        simp only [hat] at HL
        have HE := Hid.mk' he
        have hnb : n + 1 ≤ 4294967297 := by omega
        clear hgr he hlong hoff hcnt hgood hat
        go_wp2_with (first | (go_at_call 121; refine HL.out.mono ?_; rintro e w2 ⟨rfl, hb2⟩; unfold mtV; have hr2 := row_keptZ HG.out.row fun k hk => hb2.block k (HG.out.row.lt k hk).2; have HR2 := Hid.mk' hr2; have hs2 := Nat.le_trans hsz hb2.size; have HB2 := Hid.mk' hb2; clear hb2 hr2) | (at_builtin; refine wpList_append_own _ rfl _ _ 148 rfl w.heap.size 191 i0 _ 3 24 Tryz.underlying148 hi hz0 hz1 hz2 rfl (by decide) (.slice b n cap) n (cpv L) rfl (by exact ((HR2.out.alloc _).alloc _)) ⟨w2.heap.size + 1, 0, none⟩ 1 1 [.int .i64 (p : Int), .int .i64 (off : Int), .int .i64 (cnt : Int)] rfl rfl (n3_next _ _ _ _ _ _) (cp_one _ _ _) (by unfold maxLen; omega) (by omega) (by simp; omega) ?_; intro v3 w3 hown3 hgrow3 _; have hcb : w3.heap[w2.heap.size]? = some (.cells #[.int .i64 (p : Int), .int .i64 (off : Int), .int .i64 (cnt : Int)] 191 (0, 0)) := (hgrow3.block w2.heap.size (by simp; omega) (fun e => by have := (HR2.out.lt _ e.symm).2; omega)).trans ((Below.heap_alloc _ _ _ (by simp)).trans (heap_alloc_new w2 _)); obtain ⟨m0, m1, m2⟩ := three_cell hcb; have HO3 := Hid.mk' hown3; have HG3 := Hid.mk' hgrow3; obtain ⟨b3, cap3, rfl⟩ := row_shapeZ hown3; clear hown3 hgrow3 hcb) | fail)
        go_roundw
        case rel =>
          have hlen := HG.out.len
          have hsz3 : w2.heap.size + 2 ≤ w3.heap.size := by have := HG3.out.size; simp at this; omega
          refine ⟨L ++ [⟨p, off, cnt⟩], n + 1, p + cnt, by simp, by omega, ⟨?_, by simp; omega, ⟨f1, by rw [HSL.out]; omega, by rw [List.append_assoc]; exact HE.out⟩, ?_, ?_, by omega, by omega⟩⟩
          · rw [cpv_append]
            exact HO3.out
          · rw [HG3.out.block g (by have := HB2.out.size; simp; omega) (fun e => row_otherZ HR2.out ((HB2.out.block g hglt).trans HG.out.near) (by decide) e.symm), Below.heap_alloc _ _ _ (by have := HB2.out.size; simp; omega), Below.heap_alloc _ _ _ (Nat.lt_of_lt_of_le hglt HB2.out.size), HB2.out.block g hglt]
            exact HG.out.near
          · exact (((below_up2 HG.out.bel hsz HB2.out).alloc hs2 _).alloc (by simp; omega) _).grown HG3.out (by simp; omega) (fun k hk => (HR2.out.lt k hk).1)
        case measure =>
          simp [intOf]
          omega
end Go.Proofs.YtlplbnlfajdcbaaGreatDoor

namespace Go.Proofs.YtlplbnlfajdcbaaGreatDoor
open Go.RowKit
set_option linter.unusedVariables false
def pkV (s : ByteArray) (l : List Lz.Cp) : Value := .tuple #[.string (nums (Lz.packed (Sums.bl s) 0 l)), .int .i64 0]
theorem cpr_nil (w : World) : Cpr w (.slice none 0 0) [] := .inl ⟨rfl, rfl⟩
theorem ap_below {w w' : World} (h : Ap w.heap.size w w') : Below w.heap.size w w' := h.below
theorem okc_greedy (s : ByteArray) (tries : Nat) : okc s.size 0 (Lz.greedy (Sums.bl s) tries) := by
  have := okc_greedyF (Sums.bl s) (Sums.bl_byt s) tries ((Sums.bl s).length + 1) 0
  rw [Lz.greedy]
  rw [Sums.bl_length] at this ⊢
  exact this
theorem cpr_shape {w : World} {v : Value} {l : List Lz.Cp} (h : Cpr w v l) : ∃ b cap, v = .slice b l.length cap := by
  rcases h with ⟨rfl, rfl⟩ | ⟨g, cap, cur, fz, rfl, _⟩
  · exact ⟨none, 0, rfl⟩
  · exact ⟨_, cap, rfl⟩
set_option maxRecDepth 100000 in
set_option maxHeartbeats 1000000 in
theorem compress0_any (s : ByteArray) (w : World) (hs : s.size ≤ 4294967296) :
    Calls Tryz.prog 52 #[.string s, .int .i64 0] w fun e w' => e = .returned (pkV s []) ∧ Below w.heap.size w w' := by
  unfold pkV
  have HW := Hid.mk' (written_any s (.slice none 0 0) [] w hs (cpr_nil w) trivial)
  go_enter Tryz.func52, Tryz.ntmps52
  go_wp2_with (first | (go_at_call 92; refine HW.out.mono ?_; rintro e w2 ⟨rfl, hap⟩; have HA := Hid.mk' hap.below; clear hap) | fail)
  go_ret2
  exact ⟨rfl, HA.out⟩
set_option maxRecDepth 100000 in
set_option maxHeartbeats 1000000 in
theorem compress1_any (s : ByteArray) (w : World) (hs : s.size ≤ 4294967296) :
    Calls Tryz.prog 52 #[.string s, .int .i64 1] w fun e w' => e = .returned (pkV s (Lz.greedy (Sums.bl s) 1)) ∧ Below w.heap.size w w' := by
  unfold pkV
  have HGR := Hid.mk' (greedy_any s 1 w hs (by omega))
  have HOK := Hid.mk' (okc_greedy s 1)
  have HWR := Hid.mk' (fun (v : Value) (w1 : World) (h : Cpr w1 v (Lz.greedy (Sums.bl s) 1)) => written_any s v _ w1 hs h HOK.out)
  generalize Lz.greedy (Sums.bl s) 1 = l at HGR HOK HWR ⊢
  go_enter Tryz.func52, Tryz.ntmps52
  go_wp2_with (first | (go_at_call 93; refine HGR.out.mono ?_; rintro e w1 ⟨v, rfl, hcp, hb1⟩; have HCP := Hid.mk' hcp; have HB1 := Hid.mk' hb1; obtain ⟨b, cap, rfl⟩ := cpr_shape hcp; clear hcp hb1) | (go_at_call 92; refine (HWR.out (.slice b l.length cap) _ (by exact HCP.out)).mono ?_; rintro e w2 ⟨rfl, hap⟩; have HA := Hid.mk' (below_up2 HB1.out HB1.out.size hap.below); clear hap) | fail)
  go_ret2
  exact ⟨rfl, HA.out⟩
set_option maxRecDepth 100000 in
set_option maxHeartbeats 1000000 in
theorem compress2_any (s : ByteArray) (w : World) (hs : s.size ≤ 4294967296) :
    Calls Tryz.prog 52 #[.string s, .int .i64 2] w fun e w' => e = .returned (pkV s (Lz.greedy (Sums.bl s) 32)) ∧ Below w.heap.size w w' := by
  unfold pkV
  have HGR := Hid.mk' (greedy_any s 32 w hs (by omega))
  have HOK := Hid.mk' (okc_greedy s 32)
  have HWR := Hid.mk' (fun (v : Value) (w1 : World) (h : Cpr w1 v (Lz.greedy (Sums.bl s) 32)) => written_any s v _ w1 hs h HOK.out)
  generalize Lz.greedy (Sums.bl s) 32 = l at HGR HOK HWR ⊢
  go_enter Tryz.func52, Tryz.ntmps52
  go_wp2_with (first | (go_at_call 93; refine HGR.out.mono ?_; rintro e w1 ⟨v, rfl, hcp, hb1⟩; have HCP := Hid.mk' hcp; have HB1 := Hid.mk' hb1; obtain ⟨b, cap, rfl⟩ := cpr_shape hcp; clear hcp hb1) | (go_at_call 92; refine (HWR.out (.slice b l.length cap) _ (by exact HCP.out)).mono ?_; rintro e w2 ⟨rfl, hap⟩; have HA := Hid.mk' (below_up2 HB1.out HB1.out.size hap.below); clear hap) | fail)
  go_ret2
  exact ⟨rfl, HA.out⟩
end Go.Proofs.YtlplbnlfajdcbaaGreatDoor
