/-
  A scope in which the run jumps to labels, inside a fence: what holds at every jump, label by label, and a measure that every pass lowers. No conditions but those.
-/
import Derived.ControlIn
import Derived.Scope
namespace Go.Proofs.Ytchjmhgalbkjkaa
/-- As Q; by a goto to a label l: J l. -/
def jumps (J : Nat → Act → World → Prop) (Q : Exit → Act → World → Prop) : Exit → Act → World → Prop
  | .goto l, a, w => J l a w
  | e, a, w => Q e a w
theorem stepR_scope {P : Program} {b : Frame} {a : Act} {k : List Item} {cs : List Frame} {w : World} {c : Code} : step P (lone (b.atR a (.code (.scope c) :: k)) cs w) = .next (lone (b.atR a (.code c :: .inScope c :: k)) cs w) :=
  step_lone_go (by simp [stepG, stepG.exec, Frame.atR])
theorem stepR_inScope {P : Program} {b : Frame} {a : Act} {k : List Item} {cs : List Frame} {w : World} {c : Code} : step P (lone (b.atR a (.inScope c :: k)) cs w) = .next (lone (b.atR a k) cs w) :=
  step_lone_go (by simp [stepG, stepG.exec, Frame.atR])
theorem wpIn_scope_many {F : Fence} {n : Nat} {P : Program} {a : Act} {w : World} {Q : Exit → Act → World → Prop} {c : Code} (J : Nat → Act → World → Prop) (μ : Nat → Act → World → Nat)
    (rest : Nat → Code) (hf : ∀ l a w, J l a w → findLabel c l = some (rest l))
    (first : c.wpIn F n P (jumps J Q) a w)
    (pass : ∀ l a w, J l a w → (rest l).wpIn F n P (jumps (fun l' a' w' => J l' a' w' ∧ μ l' a' w' < μ l a w) Q) a w) : (Code.scope c).wpIn F n P Q a w := by
  intro b k cs hro hb hr
  have h0 : (lone (b.atR a (.code (.scope c) :: k)) cs w).fenced P F := fenced_calm hb hr rfl
  have hg : ∀ l a w, J l a w → gotoIn l (.inScope c :: k) = some (.code (rest l) :: .inScope c :: k) := by
    intro l a w h
    simp [gotoIn, hf l a w h]
  have key : ∀ m l a w, μ l a w = m → J l a w → ∃ e a' w', Q e a' w' ∧ ArrivesIn (Machine.fenced P F) P (lone (b.atR a (.code (rest l) :: .inScope c :: k)) cs w) b k cs e a' w' := by
    intro m
    induction m using Nat.strongRecOn with
    | _ m ih =>
      intro l a w hn hJ
      obtain ⟨e, a₁, w₁, hq, harr⟩ := pass l a w hJ b (.inScope c :: k) cs hro hb hr
      cases e with
      | normal => exact ⟨.normal, a₁, w₁, hq, StepsIn.trans harr (.one (fenced_calm hb hr rfl) stepR_inScope)⟩
      | exit id => exact ⟨.exit id, a₁, w₁, hq, fun k' hk => harr.1 k' (by simp [exitTo, hk]), fun hr' hk => harr.2 hr' (by simp [exitTo, hk])⟩
      | goto l' =>
        obtain ⟨hJ', hlt⟩ := hq
        obtain ⟨e₂, a₂, w₂, hq₂, harr₂⟩ := ih _ (by omega) l' a₁ w₁ rfl hJ'
        exact ⟨e₂, a₂, w₂, hq₂, .of_steps (harr.1 _ (hg l' a₁ w₁ hJ')) harr₂⟩
      | ret => exact ⟨_, a₁, w₁, hq, harr⟩
      | panic ch => exact ⟨_, a₁, w₁, hq, harr⟩
      | outgrown => exact ⟨_, a₁, w₁, hq, harr⟩
  obtain ⟨e, a₁, w₁, hq, harr⟩ := first b (.inScope c :: k) cs hro hb hr
  cases e with
  | normal => exact ⟨.normal, a₁, w₁, hq, .head h0 stepR_scope (StepsIn.trans harr (.one (fenced_calm hb hr rfl) stepR_inScope))⟩
  | exit id => exact ⟨.exit id, a₁, w₁, hq, fun k' hk => .head h0 stepR_scope (harr.1 k' (by simp [exitTo, hk])), fun hr' hk => let ⟨k₁, h1, h2⟩ := harr.2 hr' (by simp [exitTo, hk]); ⟨k₁, h1, .head h0 stepR_scope h2⟩⟩
  | goto l' =>
    obtain ⟨e₂, a₂, w₂, hq₂, harr₂⟩ := key _ l' a₁ w₁ rfl hq
    exact ⟨e₂, a₂, w₂, hq₂, .of_steps (.head h0 stepR_scope (harr.1 _ (hg l' a₁ w₁ hq))) harr₂⟩
  | ret => exact ⟨_, a₁, w₁, hq, .of_steps (.one h0 stepR_scope) harr⟩
  | panic ch => exact ⟨_, a₁, w₁, hq, .of_steps (.one h0 stepR_scope) harr⟩
  | outgrown => exact ⟨_, a₁, w₁, hq, .of_steps (.one h0 stepR_scope) harr⟩
/-- three labels, out of any fence -/
def jump3 (J0 J1 J2 : Act → World → Prop) (Q : Exit → Act → World → Prop) : Exit → Act → World → Prop
  | .goto 0, a, w => J0 a w
  | .goto 1, a, w => J1 a w
  | .goto 2, a, w => J2 a w
  | .goto _, _, _ => False
  | e, a, w => Q e a w
def pick3 (J0 J1 J2 : Act → World → Prop) : Nat → Act → World → Prop
  | 0 => J0
  | 1 => J1
  | 2 => J2
  | _ => fun _ _ => False
theorem jump3_jumps {J0 J1 J2 : Act → World → Prop} {Q : Exit → Act → World → Prop} {e : Exit} {a : Act} {w : World} (h : jump3 J0 J1 J2 Q e a w) : jumps (pick3 J0 J1 J2) Q e a w := by
  cases e with
  | goto l =>
    match l with
    | 0 => exact h
    | 1 => exact h
    | 2 => exact h
    | (n + 3) => exact h
  | normal => exact h
  | exit id => exact h
  | ret => exact h
  | panic ch => exact h
  | outgrown => exact h
theorem jump3_mono {J0 J1 J2 K0 K1 K2 : Act → World → Prop} {Q : Exit → Act → World → Prop} (h0 : ∀ a w, J0 a w → K0 a w) (h1 : ∀ a w, J1 a w → K1 a w) (h2 : ∀ a w, J2 a w → K2 a w) {e : Exit} {a : Act} {w : World} (h : jump3 J0 J1 J2 Q e a w) : jump3 K0 K1 K2 Q e a w := by
  cases e with
  | goto l =>
    match l with
    | 0 => exact h0 _ _ h
    | 1 => exact h1 _ _ h
    | 2 => exact h2 _ _ h
    | (n + 3) => exact h
  | normal => exact h
  | exit id => exact h
  | ret => exact h
  | panic ch => exact h
  | outgrown => exact h
theorem wp_jump3_mono {P : Program} {c : Code} {J0 J1 J2 K0 K1 K2 : Act → World → Prop} {Q : Exit → Act → World → Prop} (h0 : ∀ a w, J0 a w → K0 a w) (h1 : ∀ a w, J1 a w → K1 a w) (h2 : ∀ a w, J2 a w → K2 a w) {a : Act} {w : World} (h : c.wp P (jump3 J0 J1 J2 Q) a w) : c.wp P (jump3 K0 K1 K2 Q) a w :=
  wpIn_wide (n := 0).1 (wpIn_mono (wpIn_wide.2 h) fun _ _ _ h => jump3_mono h0 h1 h2 h)
theorem wp_scope_three {P : Program} {a : Act} {w : World} {Q : Exit → Act → World → Prop} {c r0 r1 r2 : Code} (J0 J1 J2 : Act → World → Prop) (m0 m1 m2 : Act → World → Nat)
    (h0 : findLabel c 0 = some (.seq .skip r0)) (h1 : findLabel c 1 = some (.seq .skip r1)) (h2 : findLabel c 2 = some (.seq .skip r2))
    (p1 : ∀ a w, J1 a w → r1.wp P (jump3 (fun a' w' => J0 a' w' ∧ m0 a' w' < m1 a w) (fun a' w' => J1 a' w' ∧ m1 a' w' < m1 a w) (fun a' w' => J2 a' w' ∧ m2 a' w' < m1 a w) Q) a w)
    (p2 : ∀ a w, J2 a w → r2.wp P (jump3 (fun a' w' => J0 a' w' ∧ m0 a' w' < m2 a w) (fun a' w' => J1 a' w' ∧ m1 a' w' < m2 a w) (fun a' w' => J2 a' w' ∧ m2 a' w' < m2 a w) Q) a w)
    (p0' : (∀ a w, J1 a w → r1.wp P (jump3 (fun a' w' => J0 a' w' ∧ m0 a' w' < m1 a w) (fun a' w' => J1 a' w' ∧ m1 a' w' < m1 a w) (fun a' w' => J2 a' w' ∧ m2 a' w' < m1 a w) Q) a w) →
      ∀ a w, J0 a w → r0.wp P (jump3 (fun a' w' => J0 a' w' ∧ m0 a' w' < m0 a w) (fun a' w' => J1 a' w' ∧ m1 a' w' < m0 a w) (fun a' w' => J2 a' w' ∧ m2 a' w' < m0 a w) Q) a w)
    (first' : (∀ a w, J0 a w → r0.wp P (jump3 J0 J1 J2 Q) a w) → c.wp P (jump3 J0 J1 J2 Q) a w) :
    (Code.scope c).wp P Q a w := by
  have p0 := p0' p1
  have first : c.wp P (jump3 J0 J1 J2 Q) a w := first' fun a w h => wpIn_wide (n := 0).1 (wpIn_mono (wpIn_wide.2 (p0 a w h)) fun e a' w' h => jump3_mono (fun _ _ h => h.1) (fun _ _ h => h.1) (fun _ _ h => h.1) h)
  refine wpIn_wide (n := 0).1 (wpIn_scope_many (pick3 J0 J1 J2) (fun l => match l with | 0 => m0 | 1 => m1 | _ => m2) (fun l => match l with | 0 => .seq .skip r0 | 1 => .seq .skip r1 | _ => .seq .skip r2) ?_ ?_ ?_)
  · intro l a w h
    match l with
    | 0 => exact h0
    | 1 => exact h1
    | 2 => exact h2
    | (n + 3) => exact h.elim
  · exact wpIn_mono (wpIn_wide.2 first) (fun _ _ _ h => jump3_jumps h)
  · intro l a w h
    match l with
    | 0 => exact wpIn_mono (wpIn_seq (wpIn_skip (wpIn_wide.2 (p0 a w h)))) (fun e a' w' h => by have := jump3_jumps h; cases e with
      | goto l => (match l with
        | 0 => exact this
        | 1 => exact this
        | 2 => exact this
        | (n + 3) => exact this.elim)
      | normal => exact this
      | exit id => exact this
      | ret => exact this
      | panic ch => exact this
      | outgrown => exact this)
    | 1 => exact wpIn_mono (wpIn_seq (wpIn_skip (wpIn_wide.2 (p1 a w h)))) (fun e a' w' h => by have := jump3_jumps h; cases e with
      | goto l => (match l with
        | 0 => exact this
        | 1 => exact this
        | 2 => exact this
        | (n + 3) => exact this.elim)
      | normal => exact this
      | exit id => exact this
      | ret => exact this
      | panic ch => exact this
      | outgrown => exact this)
    | 2 => exact wpIn_mono (wpIn_seq (wpIn_skip (wpIn_wide.2 (p2 a w h)))) (fun e a' w' h => by have := jump3_jumps h; cases e with
      | goto l => (match l with
        | 0 => exact this
        | 1 => exact this
        | 2 => exact this
        | (n + 3) => exact this.elim)
      | normal => exact this
      | exit id => exact this
      | ret => exact this
      | panic ch => exact this
      | outgrown => exact this)
    | (n + 3) => exact h.elim
end Go.Proofs.Ytchjmhgalbkjkaa
