/-
  A region that draws its order, by what holds of what is done. Conditions: as each says.
-/
import Derived.Test.YtlplbnlfajdcbaaGreatDoorMgA
import Derived.OrdersIn
import Derived.Shelf.Abstract
import Derived.OwnWalkIn
import Derived.TacticsInMore
namespace Go.Proofs.YtlplbnlfajdcbaaGreatDoor
open Go.RowKit Go.Shelf
set_option linter.unusedVariables false
set_option linter.unusedSimpArgs false
section
variable {F : Fence} {n : Nat} {P : Program} {ops : Array Oper} {Q : Exit → Act → World → Prop}
theorem set_getD (L : Array Bool) (i k : Nat) (d : Bool) (hi : i < L.size) : (L.setIfInBounds i true).getD k d = if k = i then true else L.getD k d := by
  simp only [Array.getD_eq_getD_getElem?, Array.getElem?_setIfInBounds]
  by_cases h : i = k
  · subst h
    simp [hi]
  · rw [if_neg h, if_neg (Ne.symm h)]
theorem tfB {b c : Bool} (h : b = false → c = false) (hc : c = true) : b = true := by
  cases b with
  | true => rfl
  | false => rw [h rfl] at hc; cases hc
/-- a region that draws its order, by what holds of what is done -/
theorem any_inv (Inv : Array Bool → Act → World → Prop) (hsz : ∀ L a w, Inv L a w → L.size = ops.size)
    (step : ∀ L a w, Inv L a w → ∀ i, i < ops.size → L.getD i true = false → i ∈ Region.ready .any ops L → wpOpIn F n P ops Q i (Inv (L.setIfInBounds i true)) a w)
    (fin : ∀ L a w, Inv L a w → Region.ready .any ops L = [] → Q .normal a w) :
    ∀ (fuel : Nat) (L : Array Bool) (a : Act) (w : World), Inv L a w → L.toList.count false ≤ fuel → wpAnyIn F n P .any ops Q fuel L a w
  | 0, L, a, w, h, hc => by
    have hr : Region.ready .any ops L = [] := by
      unfold Region.ready
      rw [List.filter_eq_nil_iff]
      intro i hi
      have hi2 : i < ops.size := by simpa using hi
      have hlt : i < L.size := by rw [hsz L a w h]; exact hi2
      have : L[i] = true := by
        cases e : L[i] with
        | true => rfl
        | false =>
          have hm : false ∈ L.toList := by
            rw [← e]
            exact Array.getElem_mem_toList ..
          have := List.count_pos_iff.2 hm
          omega
      simp [Array.getD, hlt, this]
    exact ⟨hr, fin L a w h hr⟩
  | fuel + 1, L, a, w, h, hc => by
    refine ⟨fun hr => fin L a w h hr, fun i hi => ?_⟩
    have hi2 := hi
    unfold Region.ready at hi2
    rw [List.mem_filter] at hi2
    obtain ⟨h1, h2⟩ := hi2
    have hlt : i < ops.size := by simpa using h1
    have hf : L.getD i true = false := by
      simp at h2
      rw [Array.getD_eq_getD_getElem?]
      exact h2.1
    refine wpOpIn_mono (fun a' w' h' => any_inv Inv hsz step fin fuel _ a' w' h' ?_) (step L a w h i hlt hf hi)
    have hls : i < L.size := by rw [hsz L a w h]; exact hlt
    have hfe : L[i] = false := by simpa [Array.getD, hls] using hf
    have hset : (L.setIfInBounds i true).toList = L.toList.set i true := by simp
    rw [hset]
    have hls2 : i < L.toList.length := by rw [Array.length_toList]; exact hls
    have hget : L.toList[i]'hls2 = false := by rw [Array.getElem_toList]; exact hfe
    have hpos : 0 < L.toList.count false := List.count_pos_iff.2 (by rw [← hget]; exact List.getElem_mem _)
    rw [List.count_set hls2, hget, show ((false : Bool) == false) = true from rfl, show ((true : Bool) == false) = false from rfl, if_pos rfl, if_neg (by decide)]
    omega
end
def upd (f : Nat → Value) (k : Nat) (v : Value) : Nat → Value := fun j => if j = k then v else f j
section
variable {F : Fence} {n : Nat} {P : Program} {ops : Array Oper} {Q : Exit → Act → World → Prop}
theorem ready_least' (L : Array Bool) (hs : L.size = ops.size) (hd : ∀ (i : Nat) (o : Oper), ops[i]? = some o → ∀ e, e ∈ o.after → Region.binds .any e = true → e.on < i) (h : Region.ready .any ops L = []) : ∀ k, k < ops.size → L.getD k false = true := by
  intro k
  induction k using Nat.strongRecOn with
  | _ k ih =>
    intro hk
    cases e : L.getD k false with
    | true => rfl
    | false =>
      have hm : k ∈ Region.ready .any ops L := by
        unfold Region.ready
        rw [List.mem_filter]
        refine ⟨by simpa using hk, ?_⟩
        have hL : L.getD k true = false := by
          simp only [Array.getD, dif_pos (show k < L.size by omega)] at e ⊢
          exact e
        have ho : ops[k]? = some ops[k] := Array.getElem?_eq_getElem hk
        rw [hL, ho]
        simp only [Bool.not_false, Bool.true_and, Option.map_some, Option.getD_some, Array.all_eq_true']
        intro d hd2
        cases hb : Region.binds .any d with
        | false => rfl
        | true =>
          have := hd k _ ho d hd2 hb
          rw [ih d.on this (by omega), Bool.or_true]
      rw [h] at hm
      cases hm
def depsOk' (ops : Array Oper) : Bool := (List.range ops.size).all fun i => match ops[i]? with | some o => o.after.all (fun e => !(Region.binds .any e) || decide (e.on < i)) | none => true
theorem deps_of' (h : depsOk' ops = true) : ∀ (i : Nat) (o : Oper), ops[i]? = some o → ∀ e, e ∈ o.after → Region.binds .any e = true → e.on < i := by
  intro i o ho e he hb
  have hi : i < ops.size := (Array.getElem?_eq_some_iff.1 ho).1
  have h1 := List.all_eq_true.1 h i (by simpa using hi)
  rw [ho] at h1
  have h2 := (Array.all_eq_true' .. ).1 h1 e he
  rw [hb] at h2
  exact of_decide_eq_true (by simpa using h2)
/-- as region_kept, where what is known of the world hangs on what is done -/
theorem region_done {id : Nat} (hm : P.follows .mixedOrders = true) (vals : Nat → Value) (fr : (Nat → Value) → Act) (f0 : Nat → Value) (w : World) (G : (Nat → Bool) → World → Prop) (hG : ∀ L : Nat → Bool, (∀ k, L k = false) → G L { w with drawn := w.drawn + 1 })
    (hd : ∀ (i : Nat) (o : Oper), ops[i]? = some o → ∀ e, e ∈ o.after → Region.binds .any e = true → e.on < i)
    (hc : ∀ f g : Nat → Value, (∀ k, k < ops.size → f k = g k) → fr f = fr g)
    (step : ∀ (L : Nat → Bool) X, G L X → ∀ i, i < ops.size → L i = false → ∀ o : Oper, ops[i]? = some o → (∀ e, e ∈ o.after → Region.binds .any e = true → L e.on = true) → ∀ f : Nat → Value, (∀ e, e ∈ o.after → Region.binds .any e = true → f e.on = vals e.on) → ∀ K : Act → World → Prop, (∀ Y, (∀ L' : Nat → Bool, (∀ k, L' k = if k = i then true else L k) → G L' Y) → K (fr (upd f i (vals i))) Y) → wpOpIn F n P ops Q i K (fr f) X)
    (fin : ∀ (L : Nat → Bool) X, (∀ k, k < ops.size → L k = true) → G L X → Q .normal (fr vals) X) :
    (Code.region id ops true).wpIn F n P Q (fr f0) w := by
  refine wpIn_region_any hm ?_
  refine any_inv (fun L a X => L.size = ops.size ∧ (∀ M : Nat → Bool, (∀ k, M k = L.getD k false) → G M X) ∧ ∃ f, a = fr f ∧ ∀ k, k < ops.size → L.getD k false = true → f k = vals k) (fun L a X h => h.1) ?_ ?_ _ _ _ _ ?_ (by simp)
  · rintro L a X ⟨hs, hX, f, rfl, hf⟩ i hi h0 hr
    have ho : ops[i]? = some ops[i] := Array.getElem?_eq_getElem hi
    have hr2 := (List.mem_filter.1 hr).2
    rw [ho] at hr2
    simp only [Option.map_some, Option.getD_some, Bool.and_eq_true, Array.all_eq_true'] at hr2
    have hdep : ∀ e, e ∈ ops[i].after → Region.binds .any e = true → L.getD e.on false = true := by
      intro e he hb
      have h1 := hr2.2 e he
      rw [hb] at h1
      simpa using h1
    have h0f : L.getD i false = false := by
      simp only [Array.getD, dif_pos (show i < L.size by omega)] at h0 ⊢
      exact h0
    refine step (fun k => L.getD k false) X (hX _ (fun _ => rfl)) i hi h0f _ ho hdep f ?_ _ ?_
    · intro e he hb
      have hlt := hd i _ ho e he hb
      exact hf e.on (by omega) (hdep e he hb)
    · intro Y hY
      refine ⟨by simpa using hs, fun M hM => hY M (fun k => ?_), _, rfl, fun k hk hl => ?_⟩
      · rw [hM k, set_getD L i k false (by omega)]
      · rw [set_getD L i k false (by omega)] at hl
        unfold upd
        by_cases e : k = i
        · subst e
          rw [if_pos rfl]
        · rw [if_neg e]
          rw [if_neg e] at hl
          exact hf k hk hl
  · rintro L a X ⟨hs, hX, f, rfl, hf⟩ hr
    have hall := ready_least' L hs hd hr
    rw [hc f vals (fun k hk => hf k hk (hall k hk))]
    exact fin (fun k => L.getD k false) X hall (hX _ (fun _ => rfl))
  · refine ⟨by simp, fun M hM => hG M (fun k => ?_), f0, rfl, fun k hk hl => ?_⟩
    · rw [hM k]
      simp only [Array.getD]
      split <;> simp
    · exfalso
      simp only [Array.getD] at hl
      split at hl <;> simp at hl
end
theorem op_append {F : Fence} {n : Nat} {P : Program} {ops : Array Oper} {Q : Exit → Act → World → Prop} {i : Nat} {K : Act → World → Prop} {a : Act} {X X' : World} {o : Oper} {s x : Operand} {t u : TypeId} {v1 v2 v' : Value} (ho : ops[i]? = some o) (hgd : o.guard = none) (hop : o.op = .call { callee := .builtin .append, args := #[s, x], argTypes := #[t, u] }) (hs : a.eval s = v1) (hx : a.eval x = v2)
    (hr : (Builtin.append_ #[t, u] o.type #[v1, v2]).run P X = .ok v' X') (h : K (a.put o.dst v') X') : wpOpIn F n P ops Q i K a X := by
  unfold wpOpIn
  rw [ho]
  have hw : Region.wanted o (yielded ops a.tmps) = true := by simp [Region.wanted, hgd]
  simp only [hw, if_true]
  unfold Oper.wpIn
  refine ⟨by simp [Oper.about, hop, resolve, Target.leads, Sem.run_pure], ?_⟩
  rw [Oper.semAt_eq _ _ _ (fun c e => by rw [hop] at e; cases e)]
  unfold execOp
  simp only [hop, resolve, invoke, builtin, Sem.run_bind, Sem.run_pure, Result.andThen_ok, List.map_toArray, List.map_cons, List.map_nil, hs, hx, hr]
  exact h
/-- a region that makes a block (its operation j), then turns memory (k), then stores (s, the last): its worlds -/
def Stg (j k s : Nat) (X0 X1 X2 X3 : World) (L : Nat → Bool) (X : World) : Prop :=
  (L s = false ∧ ((L k = false ∧ L j = false ∧ X = X0) ∨ (L k = false ∧ L j = true ∧ X = X1) ∨ (L k = true ∧ L j = true ∧ X = X2))) ∨ (L s = true ∧ (∀ i, i < s → L i = true) ∧ X = X3)
section
variable {j k s i : Nat} {X0 X1 X2 X3 X : World} {L L' : Nat → Bool}
theorem Stg.start (h : ∀ i, L i = false) : Stg j k s X0 X1 X2 X3 L X0 := .inl ⟨h s, .inl ⟨h k, h j, rfl⟩⟩
theorem Stg.on (h : Stg j k s X0 X1 X2 X3 L X) (hi : i < s) (hL : L i = false) : X = X0 ∨ X = X1 ∨ X = X2 := by
  rcases h with ⟨_, ⟨_, _, h⟩ | ⟨_, _, h⟩ | ⟨_, _, h⟩⟩ | ⟨_, h, _⟩
  · exact .inl h
  · exact .inr (.inl h)
  · exact .inr (.inr h)
  · rw [h i hi] at hL
    cases hL
theorem Stg.read (h : Stg j k s X0 X1 X2 X3 L X) (hi : i < s) (hj : i ≠ j) (hk : i ≠ k) (hL : L i = false) (hL' : ∀ x, L' x = if x = i then true else L x) : Stg j k s X0 X1 X2 X3 L' X := by
  have e1 : L' j = L j := by rw [hL', if_neg (Ne.symm hj)]
  have e2 : L' k = L k := by rw [hL', if_neg (Ne.symm hk)]
  have e3 : L' s = L s := by rw [hL', if_neg (by omega)]
  rcases h with h | ⟨_, h, _⟩
  · rw [← e1, ← e2, ← e3] at h
    exact .inl h
  · rw [h i hi] at hL
    cases hL
theorem Stg.make (h : Stg j k s X0 X1 X2 X3 L X) (hj : j < s) (hjk : j ≠ k) (hL : L j = false) : X = X0 ∧ ∀ L', (∀ x, L' x = if x = j then true else L x) → Stg j k s X0 X1 X2 X3 L' X1 := by
  rcases h with ⟨h0, ⟨h1, _, h2⟩ | ⟨_, h1, _⟩ | ⟨_, h1, _⟩⟩ | ⟨_, h, _⟩
  · refine ⟨h2, fun L' hL' => .inl ⟨?_, .inr (.inl ⟨?_, ?_, rfl⟩)⟩⟩
    · rw [hL', if_neg (by omega)]
      exact h0
    · rw [hL', if_neg (Ne.symm hjk)]
      exact h1
    · rw [hL', if_pos rfl]
  · rw [h1] at hL
    cases hL
  · rw [h1] at hL
    cases hL
  · rw [h j hj] at hL
    cases hL
theorem Stg.turn (h : Stg j k s X0 X1 X2 X3 L X) (hk : k < s) (hjk : j ≠ k) (hL : L k = false) (hj : L j = true) : X = X1 ∧ ∀ L', (∀ x, L' x = if x = k then true else L x) → Stg j k s X0 X1 X2 X3 L' X2 := by
  rcases h with ⟨h0, ⟨_, h1, _⟩ | ⟨_, _, h2⟩ | ⟨h1, _⟩⟩ | ⟨_, h, _⟩
  · rw [hj] at h1
    cases h1
  · refine ⟨h2, fun L' hL' => .inl ⟨?_, .inr (.inr ⟨?_, ?_, rfl⟩)⟩⟩
    · rw [hL', if_neg (by omega)]
      exact h0
    · rw [hL', if_pos rfl]
    · rw [hL', if_neg hjk]
      exact hj
  · rw [h1] at hL
    cases hL
  · rw [h k hk] at hL
    cases hL
theorem Stg.store (h : Stg j k s X0 X1 X2 X3 L X) (hL : L s = false) (hall : ∀ i, i < s → L i = true) (hk : k < s) : X = X2 ∧ ∀ L', (∀ x, L' x = if x = s then true else L x) → Stg j k s X0 X1 X2 X3 L' X3 := by
  rcases h with ⟨h0, ⟨h1, _⟩ | ⟨h1, _⟩ | ⟨_, _, h2⟩⟩ | ⟨h, _⟩
  · rw [hall k hk] at h1
    cases h1
  · rw [hall k hk] at h1
    cases h1
  · refine ⟨h2, fun L' hL' => .inr ⟨?_, fun i hi => ?_, rfl⟩⟩
    · rw [hL', if_pos rfl]
    · rw [hL', if_neg (by omega)]
      exact hall i hi
  · rw [h] at hL
    cases hL
theorem Stg.done (h : Stg j k s X0 X1 X2 X3 L X) (hs : L s = true) : X = X3 := by
  rcases h with ⟨h0, _⟩ | ⟨_, _, h⟩
  · rw [hs] at h0
    cases h0
  · exact h
end
end Go.Proofs.YtlplbnlfajdcbaaGreatDoor
