/-
  Parts of the proof, one behind the other: each says what it proves. Conditions: as each says.
-/
import Derived.Test.YtlbfnchjbpioeaaFzA
import Derived.Test.YtlbfnchjbpioeaaBas
import Derived.OrdersIn
import Derived.Shelf.Abstract
import Derived.OwnWalkIn
import Derived.TacticsInMore
import Derived.Test.YtlbfnchjbpioeaaRngN
import Derived.Sort.BigQuietIn
import Derived.Maps.AppendAt
import Derived.Stop.RegionWithIn
namespace Mn
/-- a list of numbers below m, none twice, has at most m -/
theorem nodup_len : ∀ (m : Nat) (l : List Nat), l.Nodup → (∀ x ∈ l, x < m) → l.length ≤ m
  | 0, l, _, h => by
    cases l with
    | nil => simp
    | cons a t => exact absurd (h a (by simp)) (by omega)
  | m + 1, l, hn, h => by
    have h1 := nodup_len m (l.erase m) (hn.erase m) (fun x hx => by
      have h2 := (hn.mem_erase_iff).1 hx
      have := h x h2.2
      have := h2.1
      omega)
    rw [List.length_erase] at h1
    split at h1 <;> omega
theorem wsuf_down {W : List (List Nat)} (hn : W.Nodup) : ∀ s, (wsuf W s).Pairwise fun a b => (W.getD b []).length < (W.getD a []).length
  | [] => by simp [wsuf]
  | a :: t => by
    have ih := wsuf_down hn t
    rw [wsuf]
    cases e : ixo W (a :: t) with
    | none => exact ih
    | some k =>
      simp only [List.pairwise_cons]
      refine ⟨fun b hb => ?_, ih⟩
      obtain ⟨x, h1, h2, _⟩ := (mem_wsuf hn t b).1 hb
      have h3 := ixo_some W _ _ e
      rw [List.getD_eq_getElem?_getD, List.getD_eq_getElem?_getD, h1, h3]
      have := h2.length_le
      simp
      omega
theorem wsuf_nodup {W : List (List Nat)} (hn : W.Nodup) (s : List Nat) : (wsuf W s).Nodup := by
  unfold List.Nodup
  refine (wsuf_down hn s).imp ?_
  intro a b h e
  subst e
  omega
theorem wsuf_len {W : List (List Nat)} (hn : W.Nodup) (s : List Nat) : (wsuf W s).length ≤ W.length :=
  nodup_len _ _ (wsuf_nodup hn s) fun k hk => by
    obtain ⟨x, h1, _⟩ := (mem_wsuf hn s k).1 hk
    exact (List.getElem?_eq_some_iff.1 h1).1
theorem allK_len {W : List (List Nat)} (hn : W.Nodup) (T : List Nat) : ∀ k, (allK W T k).length ≤ k * W.length
  | 0 => by simp [allK]
  | k + 1 => by
    rw [allK_next, List.length_append, List.length_map, Nat.succ_mul]
    exact Nat.add_le_add (allK_len hn T k) (wsuf_len hn _)
theorem allF_len {W : List (List Nat)} (hn : W.Nodup) (T : List Nat) : (allF W T).length ≤ T.length * W.length := allK_len hn T _
theorem allK_fst {W : List (List Nat)} {T : List Nat} {k : Nat} {x : Nat × Nat} (h : x ∈ allK W T k) : 1 ≤ x.1 ∧ x.1 ≤ k := by
  unfold allK at h
  obtain ⟨i, h1, h2⟩ := List.mem_flatMap.1 h
  obtain ⟨v, _, rfl⟩ := List.mem_map.1 h2
  have := List.mem_range.1 h1
  exact ⟨by simp, by simp; omega⟩
/-- one behind the other -/
def Bhd (W : List (List Nat)) (x y : Nat × Nat) : Prop := x.1 < y.1 ∨ (x.1 = y.1 ∧ (W.getD y.2 []).length < (W.getD x.2 []).length)
theorem allK_pw {W : List (List Nat)} (hn : W.Nodup) (T : List Nat) : ∀ k, (allK W T k).Pairwise (Bhd W)
  | 0 => by simp [allK]
  | k + 1 => by
    rw [allK_next, List.pairwise_append]
    refine ⟨allK_pw hn T k, ?_, ?_⟩
    · rw [List.pairwise_map]
      exact (wsuf_down hn _).imp fun h => .inr ⟨rfl, h⟩
    · intro x hx y hy
      obtain ⟨v, _, rfl⟩ := List.mem_map.1 hy
      have := (allK_fst hx).2
      exact .inl (by simp; omega)
/-- the place and the length of what was told last -/
def lastP (pre : List (Nat × Nat)) : Nat := (pre.getLast?.map fun x => x.1).getD 0
def lastZ (W : List (List Nat)) (pre : List (Nat × Nat)) : Nat := (pre.getLast?.map fun x => (W.getD x.2 []).length).getD 0
theorem last_snoc (W : List (List Nat)) (pre : List (Nat × Nat)) (x : Nat × Nat) : lastP (pre ++ [x]) = x.1 ∧ lastZ W (pre ++ [x]) = (W.getD x.2 []).length := by
  simp [lastP, lastZ]
/-- what a round may take for granted -/
theorem round_ok {W : List (List Nat)} (hn : W.Nodup) {T : List Nat} {pre : List (Nat × Nat)} {q v : Nat} (h : pre ++ [(q, v)] <+: allF W T) :
    v < W.length ∧ q ≤ T.length ∧ pre.length + 1 ≤ T.length * W.length ∧ (lastP pre < q ∨ (lastP pre = q ∧ (W.getD v []).length < lastZ W pre)) := by
  have hm : (q, v) ∈ allF W T := h.subset (by simp)
  obtain ⟨h1, h2⟩ := all_lt hn hm
  have h3 := h.length_le
  have h4 := allF_len hn T
  rw [List.length_append, List.length_singleton] at h3
  refine ⟨h1, h2, by omega, ?_⟩
  have hp : (pre ++ [(q, v)]).Pairwise (Bhd W) := (allK_pw hn T T.length).sublist h.sublist
  rw [List.pairwise_append] at hp
  cases e : pre.getLast? with
  | none =>
    have := (allK_fst hm).1
    simp [lastP, e]
    simp at this
    omega
  | some y =>
    have hy : y ∈ pre := List.mem_of_getLast? e
    have := hp.2.2 y hy (q, v) (by simp)
    simp only [lastP, lastZ, e, Option.map_some, Option.getD_some]
    rcases this with h5 | ⟨h5, h6⟩
    · exact .inl h5
    · exact .inr ⟨h5, h6⟩
/-- the places behind a word, as they were told -/
def plc (l : List (Nat × Nat)) (i : Nat) : List Nat := (l.filter fun x => x.2 == i).map fun x => x.1
theorem plc_snoc (l : List (Nat × Nat)) (q v i : Nat) : plc (l ++ [(q, v)]) i = if v = i then plc l i ++ [q] else plc l i := by
  unfold plc
  rw [List.filter_append, List.map_append]
  by_cases e : v = i
  · subst e
    simp
  · simp [e]
theorem plc_nil (i : Nat) : plc [] i = [] := rfl
theorem plc_len (l : List (Nat × Nat)) (i : Nat) : (plc l i).length ≤ l.length := by
  unfold plc
  rw [List.length_map]
  exact List.length_filter_le _ _
/-- the places behind a word, by its letters alone -/
def plcK (x T : List Nat) (k : Nat) : List Nat := ((List.range k).filter fun j => decide (x <:+ T.take (j + 1))).map (· + 1)
theorem plcK_next (x T : List Nat) (k : Nat) : plcK x T (k + 1) = if x <:+ T.take (k + 1) then plcK x T k ++ [k + 1] else plcK x T k := by
  unfold plcK
  rw [List.range_succ, List.filter_append, List.map_append]
  by_cases h : x <:+ T.take (k + 1)
  · rw [if_pos h]
    simp [h]
  · rw [if_neg h]
    simp [h]
theorem filter_one : ∀ (l : List Nat), l.Nodup → ∀ i, l.filter (fun v => v == i) = if i ∈ l then [i] else []
  | [], _, i => by simp
  | a :: t, hn, i => by
    rw [List.nodup_cons] at hn
    have ih := filter_one t hn.2 i
    by_cases e : a = i
    · subst e
      rw [if_neg hn.1] at ih
      simp [ih]
    · rw [List.filter_cons_of_neg (by simpa using e), ih]
      simp [Ne.symm e]
theorem plc_allK {W : List (List Nat)} (hn : W.Nodup) (T : List Nat) {i : Nat} {x : List Nat} (hx : W[i]? = some x) (h0 : x ≠ []) : ∀ k, plc (allK W T k) i = plcK x T k
  | 0 => by simp [allK, plc, plcK]
  | k + 1 => by
    rw [allK_next, plcK_next, ← plc_allK hn T hx h0 k]
    unfold plc
    rw [List.filter_append, List.map_append, List.filter_map]
    have e : ((fun x : Nat × Nat => x.2 == i) ∘ fun w => (k + 1, w)) = fun v => v == i := rfl
    rw [e, filter_one _ (wsuf_nodup hn _) i]
    have hm : i ∈ wsuf W (T.take (k + 1)) ↔ x <:+ T.take (k + 1) := by
      rw [mem_wsuf hn]
      constructor
      · rintro ⟨y, h1, h2, _⟩
        rw [hx] at h1
        cases h1
        exact h2
      · exact fun h => ⟨x, hx, h, h0⟩
    by_cases h : x <:+ T.take (k + 1)
    · rw [if_pos h, if_pos (hm.2 h)]
      simp
    · rw [if_neg h, if_neg (fun q => h (hm.1 q))]
      simp
theorem plc_allF {W : List (List Nat)} (hn : W.Nodup) (T : List Nat) {i : Nat} {x : List Nat} (hx : W[i]? = some x) (h0 : x ≠ []) : plc (allF W T) i = plcK x T T.length := plc_allK hn T hx h0 _
end Mn

namespace Go.Proofs.Ytlbfnchjbpioeaa
open Go.RowKit Go.Shelf
set_option linter.unusedVariables false
set_option linter.unusedSimpArgs false
section
variable {F : Fence} {n : Nat} {P : Program} {ops : Array Oper} {Q : Exit → Act → World → Prop}
theorem set_getD (L : Array Bool) (i k : Nat) (d : Bool) (hi : i < L.size) : (L.setIfInBounds i true).getD k d = if k = i then true else L.getD k d := by
  simp only [Array.getD_eq_getD_getElem?, Array.getElem?_setIfInBounds]
  by_cases h : i = k
  · subst h
    simp [hi]
  · rw [if_neg h, if_neg (Ne.symm h)]
theorem tfB {b c : Bool} (h : b = false → c = false) (hc : c = true) : b = true := by
  cases b with
  | true => rfl
  | false => rw [h rfl] at hc; cases hc
/-- a region that draws its order, by what holds of what is done -/
theorem any_inv (Inv : Array Bool → Act → World → Prop) (hsz : ∀ L a w, Inv L a w → L.size = ops.size)
    (step : ∀ L a w, Inv L a w → ∀ i, i < ops.size → L.getD i true = false → i ∈ Region.ready .any ops L → wpOpIn F n P ops Q i (Inv (L.setIfInBounds i true)) a w)
    (fin : ∀ L a w, Inv L a w → Region.ready .any ops L = [] → Q .normal a w) :
    ∀ (fuel : Nat) (L : Array Bool) (a : Act) (w : World), Inv L a w → L.toList.count false ≤ fuel → wpAnyIn F n P .any ops Q fuel L a w
  | 0, L, a, w, h, hc => by
    have hr : Region.ready .any ops L = [] := by
      unfold Region.ready
      rw [List.filter_eq_nil_iff]
      intro i hi
      have hi2 : i < ops.size := by simpa using hi
      have hlt : i < L.size := by rw [hsz L a w h]; exact hi2
      have : L[i] = true := by
        cases e : L[i] with
        | true => rfl
        | false =>
          have hm : false ∈ L.toList := by
            rw [← e]
            exact Array.getElem_mem_toList ..
          have := List.count_pos_iff.2 hm
          omega
      simp [Array.getD, hlt, this]
    exact ⟨hr, fin L a w h hr⟩
  | fuel + 1, L, a, w, h, hc => by
    refine ⟨fun hr => fin L a w h hr, fun i hi => ?_⟩
    have hi2 := hi
    unfold Region.ready at hi2
    rw [List.mem_filter] at hi2
    obtain ⟨h1, h2⟩ := hi2
    have hlt : i < ops.size := by simpa using h1
    have hf : L.getD i true = false := by
      simp at h2
      rw [Array.getD_eq_getD_getElem?]
      exact h2.1
    refine wpOpIn_mono (fun a' w' h' => any_inv Inv hsz step fin fuel _ a' w' h' ?_) (step L a w h i hlt hf hi)
    have hls : i < L.size := by rw [hsz L a w h]; exact hlt
    have hfe : L[i] = false := by simpa [Array.getD, hls] using hf
    have hset : (L.setIfInBounds i true).toList = L.toList.set i true := by simp
    rw [hset]
    have hls2 : i < L.toList.length := by rw [Array.length_toList]; exact hls
    have hget : L.toList[i]'hls2 = false := by rw [Array.getElem_toList]; exact hfe
    have hpos : 0 < L.toList.count false := List.count_pos_iff.2 (by rw [← hget]; exact List.getElem_mem _)
    rw [List.count_set hls2, hget, show ((false : Bool) == false) = true from rfl, show ((true : Bool) == false) = false from rfl, if_pos rfl, if_neg (by decide)]
    omega
end
def upd (f : Nat → Value) (k : Nat) (v : Value) : Nat → Value := fun j => if j = k then v else f j
section
variable {F : Fence} {n : Nat} {P : Program} {ops : Array Oper} {Q : Exit → Act → World → Prop}
theorem ready_least' (L : Array Bool) (hs : L.size = ops.size) (hd : ∀ (i : Nat) (o : Oper), ops[i]? = some o → ∀ e, e ∈ o.after → Region.binds .any e = true → e.on < i) (h : Region.ready .any ops L = []) : ∀ k, k < ops.size → L.getD k false = true := by
  intro k
  induction k using Nat.strongRecOn with
  | _ k ih =>
    intro hk
    cases e : L.getD k false with
    | true => rfl
    | false =>
      have hm : k ∈ Region.ready .any ops L := by
        unfold Region.ready
        rw [List.mem_filter]
        refine ⟨by simpa using hk, ?_⟩
        have hL : L.getD k true = false := by
          simp only [Array.getD, dif_pos (show k < L.size by omega)] at e ⊢
          exact e
        have ho : ops[k]? = some ops[k] := Array.getElem?_eq_getElem hk
        rw [hL, ho]
        simp only [Bool.not_false, Bool.true_and, Option.map_some, Option.getD_some, Array.all_eq_true']
        intro d hd2
        cases hb : Region.binds .any d with
        | false => rfl
        | true =>
          have := hd k _ ho d hd2 hb
          rw [ih d.on this (by omega), Bool.or_true]
      rw [h] at hm
      cases hm
def depsOk' (ops : Array Oper) : Bool := (List.range ops.size).all fun i => match ops[i]? with | some o => o.after.all (fun e => !(Region.binds .any e) || decide (e.on < i)) | none => true
theorem deps_of' (h : depsOk' ops = true) : ∀ (i : Nat) (o : Oper), ops[i]? = some o → ∀ e, e ∈ o.after → Region.binds .any e = true → e.on < i := by
  intro i o ho e he hb
  have hi : i < ops.size := (Array.getElem?_eq_some_iff.1 ho).1
  have h1 := List.all_eq_true.1 h i (by simpa using hi)
  rw [ho] at h1
  have h2 := (Array.all_eq_true' .. ).1 h1 e he
  rw [hb] at h2
  exact of_decide_eq_true (by simpa using h2)
/-- as region_kept, where what is known of the world hangs on what is done -/
theorem region_done {id : Nat} (hm : P.follows .mixedOrders = true) (vals : Nat → Value) (fr : (Nat → Value) → Act) (f0 : Nat → Value) (w : World) (G : (Nat → Bool) → World → Prop) (hG : ∀ L : Nat → Bool, (∀ k, L k = false) → G L { w with drawn := w.drawn + 1 })
    (hd : ∀ (i : Nat) (o : Oper), ops[i]? = some o → ∀ e, e ∈ o.after → Region.binds .any e = true → e.on < i)
    (hc : ∀ f g : Nat → Value, (∀ k, k < ops.size → f k = g k) → fr f = fr g)
    (step : ∀ (L : Nat → Bool) X, G L X → ∀ i, i < ops.size → L i = false → ∀ o : Oper, ops[i]? = some o → (∀ e, e ∈ o.after → Region.binds .any e = true → L e.on = true) → ∀ f : Nat → Value, (∀ e, e ∈ o.after → Region.binds .any e = true → f e.on = vals e.on) → ∀ K : Act → World → Prop, (∀ Y, (∀ L' : Nat → Bool, (∀ k, L' k = if k = i then true else L k) → G L' Y) → K (fr (upd f i (vals i))) Y) → wpOpIn F n P ops Q i K (fr f) X)
    (fin : ∀ (L : Nat → Bool) X, (∀ k, k < ops.size → L k = true) → G L X → Q .normal (fr vals) X) :
    (Code.region id ops true).wpIn F n P Q (fr f0) w := by
  refine wpIn_region_any hm ?_
  refine any_inv (fun L a X => L.size = ops.size ∧ (∀ M : Nat → Bool, (∀ k, M k = L.getD k false) → G M X) ∧ ∃ f, a = fr f ∧ ∀ k, k < ops.size → L.getD k false = true → f k = vals k) (fun L a X h => h.1) ?_ ?_ _ _ _ _ ?_ (by simp)
  · rintro L a X ⟨hs, hX, f, rfl, hf⟩ i hi h0 hr
    have ho : ops[i]? = some ops[i] := Array.getElem?_eq_getElem hi
    have hr2 := (List.mem_filter.1 hr).2
    rw [ho] at hr2
    simp only [Option.map_some, Option.getD_some, Bool.and_eq_true, Array.all_eq_true'] at hr2
    have hdep : ∀ e, e ∈ ops[i].after → Region.binds .any e = true → L.getD e.on false = true := by
      intro e he hb
      have h1 := hr2.2 e he
      rw [hb] at h1
      simpa using h1
    have h0f : L.getD i false = false := by
      simp only [Array.getD, dif_pos (show i < L.size by omega)] at h0 ⊢
      exact h0
    refine step (fun k => L.getD k false) X (hX _ (fun _ => rfl)) i hi h0f _ ho hdep f ?_ _ ?_
    · intro e he hb
      have hlt := hd i _ ho e he hb
      exact hf e.on (by omega) (hdep e he hb)
    · intro Y hY
      refine ⟨by simpa using hs, fun M hM => hY M (fun k => ?_), _, rfl, fun k hk hl => ?_⟩
      · rw [hM k, set_getD L i k false (by omega)]
      · rw [set_getD L i k false (by omega)] at hl
        unfold upd
        by_cases e : k = i
        · subst e
          rw [if_pos rfl]
        · rw [if_neg e]
          rw [if_neg e] at hl
          exact hf k hk hl
  · rintro L a X ⟨hs, hX, f, rfl, hf⟩ hr
    have hall := ready_least' L hs hd hr
    rw [hc f vals (fun k hk => hf k hk (hall k hk))]
    exact fin (fun k => L.getD k false) X hall (hX _ (fun _ => rfl))
  · refine ⟨by simp, fun M hM => hG M (fun k => ?_), f0, rfl, fun k hk hl => ?_⟩
    · rw [hM k]
      simp only [Array.getD]
      split <;> simp
    · exfalso
      simp only [Array.getD] at hl
      split at hl <;> simp at hl
end
theorem op_append {F : Fence} {n : Nat} {P : Program} {ops : Array Oper} {Q : Exit → Act → World → Prop} {i : Nat} {K : Act → World → Prop} {a : Act} {X X' : World} {o : Oper} {s x : Operand} {t u : TypeId} {v1 v2 v' : Value} (ho : ops[i]? = some o) (hgd : o.guard = none) (hop : o.op = .call { callee := .builtin .append, args := #[s, x], argTypes := #[t, u] }) (hs : a.eval s = v1) (hx : a.eval x = v2)
    (hr : (Builtin.append_ #[t, u] o.type #[v1, v2]).run P X = .ok v' X') (h : K (a.put o.dst v') X') : wpOpIn F n P ops Q i K a X := by
  unfold wpOpIn
  rw [ho]
  have hw : Region.wanted o (yielded ops a.tmps) = true := by simp [Region.wanted, hgd]
  simp only [hw, if_true]
  unfold Oper.wpIn
  refine ⟨by simp [Oper.about, hop, resolve, Target.leads, Sem.run_pure], ?_⟩
  rw [Oper.semAt_eq _ _ _ (fun c e => by rw [hop] at e; cases e)]
  unfold execOp
  simp only [hop, resolve, invoke, builtin, Sem.run_bind, Sem.run_pure, Result.andThen_ok, List.map_toArray, List.map_cons, List.map_nil, hs, hx, hr]
  exact h
/-- a region that makes a block (its operation j), then turns memory (k), then stores (s, the last): its worlds -/
def Stg (j k s : Nat) (X0 X1 X2 X3 : World) (L : Nat → Bool) (X : World) : Prop :=
  (L s = false ∧ ((L k = false ∧ L j = false ∧ X = X0) ∨ (L k = false ∧ L j = true ∧ X = X1) ∨ (L k = true ∧ L j = true ∧ X = X2))) ∨ (L s = true ∧ (∀ i, i < s → L i = true) ∧ X = X3)
section
variable {j k s i : Nat} {X0 X1 X2 X3 X : World} {L L' : Nat → Bool}
theorem Stg.start (h : ∀ i, L i = false) : Stg j k s X0 X1 X2 X3 L X0 := .inl ⟨h s, .inl ⟨h k, h j, rfl⟩⟩
theorem Stg.on (h : Stg j k s X0 X1 X2 X3 L X) (hi : i < s) (hL : L i = false) : X = X0 ∨ X = X1 ∨ X = X2 := by
  rcases h with ⟨_, ⟨_, _, h⟩ | ⟨_, _, h⟩ | ⟨_, _, h⟩⟩ | ⟨_, h, _⟩
  · exact .inl h
  · exact .inr (.inl h)
  · exact .inr (.inr h)
  · rw [h i hi] at hL
    cases hL
theorem Stg.read (h : Stg j k s X0 X1 X2 X3 L X) (hi : i < s) (hj : i ≠ j) (hk : i ≠ k) (hL : L i = false) (hL' : ∀ x, L' x = if x = i then true else L x) : Stg j k s X0 X1 X2 X3 L' X := by
  have e1 : L' j = L j := by rw [hL', if_neg (Ne.symm hj)]
  have e2 : L' k = L k := by rw [hL', if_neg (Ne.symm hk)]
  have e3 : L' s = L s := by rw [hL', if_neg (by omega)]
  rcases h with h | ⟨_, h, _⟩
  · rw [← e1, ← e2, ← e3] at h
    exact .inl h
  · rw [h i hi] at hL
    cases hL
theorem Stg.make (h : Stg j k s X0 X1 X2 X3 L X) (hj : j < s) (hjk : j ≠ k) (hL : L j = false) : X = X0 ∧ ∀ L', (∀ x, L' x = if x = j then true else L x) → Stg j k s X0 X1 X2 X3 L' X1 := by
  rcases h with ⟨h0, ⟨h1, _, h2⟩ | ⟨_, h1, _⟩ | ⟨_, h1, _⟩⟩ | ⟨_, h, _⟩
  · refine ⟨h2, fun L' hL' => .inl ⟨?_, .inr (.inl ⟨?_, ?_, rfl⟩)⟩⟩
    · rw [hL', if_neg (by omega)]
      exact h0
    · rw [hL', if_neg (Ne.symm hjk)]
      exact h1
    · rw [hL', if_pos rfl]
  · rw [h1] at hL
    cases hL
  · rw [h1] at hL
    cases hL
  · rw [h j hj] at hL
    cases hL
theorem Stg.turn (h : Stg j k s X0 X1 X2 X3 L X) (hk : k < s) (hjk : j ≠ k) (hL : L k = false) (hj : L j = true) : X = X1 ∧ ∀ L', (∀ x, L' x = if x = k then true else L x) → Stg j k s X0 X1 X2 X3 L' X2 := by
  rcases h with ⟨h0, ⟨_, h1, _⟩ | ⟨_, _, h2⟩ | ⟨h1, _⟩⟩ | ⟨_, h, _⟩
  · rw [hj] at h1
    cases h1
  · refine ⟨h2, fun L' hL' => .inl ⟨?_, .inr (.inr ⟨?_, ?_, rfl⟩)⟩⟩
    · rw [hL', if_neg (by omega)]
      exact h0
    · rw [hL', if_pos rfl]
    · rw [hL', if_neg hjk]
      exact hj
  · rw [h1] at hL
    cases hL
  · rw [h k hk] at hL
    cases hL
theorem Stg.store (h : Stg j k s X0 X1 X2 X3 L X) (hL : L s = false) (hall : ∀ i, i < s → L i = true) (hk : k < s) : X = X2 ∧ ∀ L', (∀ x, L' x = if x = s then true else L x) → Stg j k s X0 X1 X2 X3 L' X3 := by
  rcases h with ⟨h0, ⟨h1, _⟩ | ⟨h1, _⟩ | ⟨_, _, h2⟩⟩ | ⟨h, _⟩
  · rw [hall k hk] at h1
    cases h1
  · rw [hall k hk] at h1
    cases h1
  · refine ⟨h2, fun L' hL' => .inr ⟨?_, fun i hi => ?_, rfl⟩⟩
    · rw [hL', if_pos rfl]
    · rw [hL', if_neg (by omega)]
      exact hall i hi
  · rw [h] at hL
    cases hL
theorem Stg.done (h : Stg j k s X0 X1 X2 X3 L X) (hs : L s = true) : X = X3 := by
  rcases h with ⟨h0, _⟩ | ⟨_, _, h⟩
  · rw [hs] at h0
    cases h0
  · exact h
end
end Go.Proofs.Ytlbfnchjbpioeaa

namespace Go.Proofs.Ytlbfnchjbpioeaa
open Go.RowKit
set_option linter.unusedVariables false
section
variable {F : Fence} {n : Nat} {P : Program}
theorem wpIn_rangeS {α : Type} {g : Operand} {ps : Array Tmp} {assign body : Code} {Q : Exit → Act → World → Prop} {a : Act} {w : World}
    (hro : F.round = none) (h1 : 1 ≤ n) {gf : Nat} {lb : Array Value} (hg : a.eval g = .func (.func gf) #[] lb) (hFg : F.fn gf) (eg : ∀ args w, (callFunc gf args).run P w = .ok (.enter gf args) w)
    {encs : α → Array Value} {Wr : Obj → Prop} {Kp : World → World → Prop} {S Sp : List α → Prop} {w0 : World} (hseq : SeqN F (n - 1) P gf lb encs Wr Kp S Sp w0) (hWr : ∀ o, Wr o → o.isCells = true)
    (hKt : ∀ {X Y Z : World}, Kp X Y → Kp Y Z → Kp X Z) (hKb : ∀ (W : World) (k : Nat) (o o' : Obj), w.heap.size ≤ k → W.heap[k]? = some o → o.isCells = false → Kp W (W.putObj k o')) (hb0 : Below w0.heap.size w0 w) (hps : ∀ x, (encs x).size = ps.size)
    (I : List α → World → Prop) (Ix : Code → List α → World → Prop) (hI : AbW w.heap.size (fun o => o.isCells = false ∨ Wr o) I) (hIx : ∀ c, AbW w.heap.size (fun o => o.isCells = false ∨ Wr o) (Ix c)) (h0 : I [] w) (hKr : ∀ W, Kp W W) (sl : α → List (Nat × Value))
    (hassign : ∀ (l : Nat) (pre : List α) (x : α) (W : World) (K : Act → World → Prop), K { tmps := (sl x).foldl (fun t p => t.setIfInBounds p.1 p.2) ((ps.zip (encs x)).foldl (fun t (p, v) => t.setIfInBounds p v) a.tmps), defers := [] } W →
      assign.wpIn (F.inRound l) (n - 1 - 1) P (Exit.then K (fun _ _ _ => False)) { tmps := (ps.zip (encs x)).foldl (fun t (p, v) => t.setIfInBounds p v) a.tmps, defers := [] } W)
    (hbody : ∀ (l : Nat) (pre : List α) (x : α) (W : World), w.heap.size ≤ l → (∃ r, W.heap[l]? = some (.loop r)) → I pre W → Sp (pre ++ [x]) → body.wpIn (F.inRound l) (n - 1 - 1) P (leftW w.heap.size Wr Kp I Ix (pre ++ [x]) W) { tmps := (sl x).foldl (fun t p => t.setIfInBounds p.1 p.2) ((ps.zip (encs x)).foldl (fun t (p, v) => t.setIfInBounds p v) a.tmps), defers := [] } W)
    (hdone : ∀ (D : Nat) (xs : List α) (W : World), w.heap.size ≤ D → S xs → I xs W → W.heap[D]? = some (.deferred (some [])) → Q .normal { a with defers := { target := .collected D, args := #[] } :: a.defers } W)
    (hstop : ∀ (D : Nat) (c : Code) (pre : List α) (W : World), w.heap.size ≤ D → Sp pre → Ix c pre W → W.heap[D]? = some (.deferred (some [])) → c.wpIn F n P Q { a with defers := { target := .collected D, args := #[] } :: a.defers } W) :
    (Code.rangeFunc g ps assign body).wpIn F n P Q a w := by
  refine wpIn_rangeN hro h1 hg hFg eg hseq hWr hKt hKb hb0 hps I Ix hI hIx h0 (fun x a' _ => a' = { tmps := (sl x).foldl (fun t p => t.setIfInBounds p.1 p.2) ((ps.zip (encs x)).foldl (fun t (p, v) => t.setIfInBounds p v) a.tmps), defers := [] }) (fun x a' _ X Y row hX hg hr => hX) ?_ ?_ hdone hstop
  · intro l pre x W K hi hK
    exact hassign l pre x W K (hK _ _ (KeptW.refl _ _ _) (hKr W) hi rfl)
  · rintro l pre x a' W hl hr hi rfl hp
    exact hbody l pre x W hl hr hi hp
end
end Go.Proofs.Ytlbfnchjbpioeaa

namespace Go.Proofs.Ytlbfnchjbpioeaa
open Go.RowKit
set_option linter.unusedVariables false
section
variable {F : Fence} {n : Nat} {P : Program} {ops : Array Oper} {Q : Exit → Act → World → Prop}
theorem uponIn_round (l : Nat) (o : Oper) (a : Act) (K : Act → World → Prop) (r : Result Next) (h : o.uponIn F n P a K Q r) : o.uponIn (F.inRound l) n P a K Q r := by
  rcases r with ⟨x, w'⟩ | ⟨x, w'⟩ <;> first | exact h | (cases x <;> exact h)
theorem wpOpIn_round (l : Nat) (hd : ∀ (i : Nat) (o : Oper), ops[i]? = some o → ∀ c, o.op ≠ .defer c) (i : Nat) (K : Act → World → Prop) (a : Act) (w : World) (h : wpOpIn F n P ops Q i K a w) : wpOpIn (F.inRound l) n P ops Q i K a w := by
  unfold wpOpIn at *
  split at h
  · rename_i e
    exact h
  · rename_i o e
    by_cases hw : Region.wanted o (yielded ops a.tmps) = true
    · rw [if_pos hw] at h ⊢
      unfold Oper.wpIn at *
      refine ⟨h.1, uponIn_round l o a K _ ?_⟩
      have h2 := h.2
      rw [Oper.semAt_eq _ _ _ (hd i o e)] at h2 ⊢
      exact h2
    · rw [if_neg hw] at h ⊢
      exact h
theorem wpAnyIn_round {md : Region.Mode} (l : Nat) (hd : ∀ (i : Nat) (o : Oper), ops[i]? = some o → ∀ c, o.op ≠ .defer c) : ∀ (fuel : Nat) (listed : Array Bool) (a : Act) (w : World), wpAnyIn F n P md ops Q fuel listed a w → wpAnyIn (F.inRound l) n P md ops Q fuel listed a w
  | 0, _, _, _, h => h
  | fuel + 1, listed, a, w, h => by
    refine ⟨h.1, fun i hi => ?_⟩
    refine wpOpIn_mono (fun a w h => wpAnyIn_round l hd fuel _ a w h) (wpOpIn_round l hd i _ a w (h.2 i hi))
theorem wpIn_region_quiet_rnd {id : Nat} {a : Act} {w : World} {L : List Oper} (l : Nat) (hro : F.round = none) (hm : P.follows .mixedOrders = true) (hB : Region.lexB .any L.toArray = true) (hd0 : L.all (fun o => match o.op with | .defer _ => false | _ => true) = true)
    (h : wpQuietIn F n P L.toArray (fun w' => ∃ n, w' = w.drewN n) (fun a' => ∀ w', (∃ n, w' = w.drewN n) → Q .normal a' w') L a) : (Code.region id L.toArray true).wpIn (F.inRound l) n P Q a w := by
  have hd : ∀ o ∈ L, ∀ c, o.op ≠ .defer c := fun o ho c e => by
    rw [List.all_eq_true] at hd0
    have := hd0 o ho
    rw [e] at this
    cases this
  simp only [Region.lexB, Bool.and_eq_true] at hB
  refine wpIn_region_any hm (wpAnyIn_round l (fun i o ho => hd o (by rw [List.getElem?_toArray] at ho; exact List.mem_of_getElem? ho)) _ _ _ _ (wpAnyIn_of_quiet (C := fun w' => ∃ n, w' = w.drewN n) (Q := fun a' => ∀ w', (∃ n, w' = w.drewN n) → Q .normal a' w') hro (fun _ w' hw' h => h w' hw') _ _ _ _ ⟨1, rfl⟩ ?_))
  have := wpAnyQIn_lex (F := F) (n := n) (C := fun w' => ∃ n, w' = w.drewN n) (md := .any) hB.1 L.toArray.toList 0 (Array.replicate L.toArray.size false) a (by simp) (by simpa using hB.2) (by simpa using h)
  simpa using this
end
end Go.Proofs.Ytlbfnchjbpioeaa

namespace Go.Proofs.Ytlbfnchjbpioeaa
open Go.RowKit Go.Shelf
set_option linter.unusedVariables false
theorem put_rowV {V : World} {b k i : Nat} {t : TypeId} {F : Nat → Value} (h : V.heap[b]? = some (.cells (rowV F k).toArray t (0, 0))) (hi : i < k) (u : Value) : (V.setCell ⟨b, i, none⟩ u).heap[b]? = some (.cells (rowV (fun j => if j = i then u else F j) k).toArray t (0, 0)) := by
  have h1 : (V.setCell ⟨b, i, none⟩ u).heap[b]? = some (.cells ((rowV F k).toArray.setIfInBounds i u) t (0, 0)) := by
    simp [World.setCell, Array.getElem?_modify, h]
  rw [h1]
  congr 2
  apply Array.ext_getElem?
  intro j
  rw [Array.getElem?_setIfInBounds, List.getElem?_toArray, List.getElem?_toArray]
  by_cases hj : j < k
  · rw [rowV_get _ _ _ hj, rowV_get _ _ _ hj]
    by_cases e : i = j
    · subst e
      simp [rowV_len, hj]
    · rw [if_neg e, if_neg (fun h => e h.symm)]
  · rw [if_neg (by omega), List.getElem?_eq_none (by rw [rowV_len]; omega), List.getElem?_eq_none (by rw [rowV_len]; omega)]
def Away (o r : Value) : Prop := ∀ k, o.ownBlock = some k → r.ownBlock ≠ some k
theorem away_nil (o : Value) : Away o (.slice none 0 0) := fun k _ h => by simp [Value.ownBlock] at h
theorem away_sym {o r : Value} (h : Away o r) : Away r o := fun k h1 h2 => h k h2 h1
theorem away_next {w w' : World} {base2 n : Nat} {o o' r : Value} {xs : List Value} (hr : w.ownsRow base2 3 1 r n xs) (ha : Away o r) (hg : w.grownBy w' o.ownBlock) (hat : o'.ownBlock = o.ownBlock ∨ o'.ownBlock = some w.heap.size) : w'.ownsRow base2 3 1 r n xs ∧ Away o' r := by
  refine ⟨mr_kept hr fun k hk => hg.block k (hr.lt k hk).2 (fun e => ha k e.symm hk), fun k hk hk2 => ?_⟩
  rcases hat with h | h
  · exact ha k (by rw [← h]; exact hk) hk2
  · rw [h] at hk
    simp only [Option.some.injEq] at hk
    have := (hr.lt k hk2).2
    omega
/-- rows of numbers, in a row of theirs -/
structure RowsM (base o m : Nat) (F : Nat → List Nat) (v : Nat → Value) (V : World) : Prop where
  top : V.heap[o]? = some (.cells (rowV v m).toArray 53 (0, 0))
  row : ∀ i, i < m → V.ownsRow base 3 1 (v i) (F i).length (intL (F i))
  apart : ∀ i j, i < m → j < m → i ≠ j → Away (v i) (v j)
  lo : o < base
section
variable {base o m : Nat} {F : Nat → List Nat} {v : Nat → Value} {V V' : World}
theorem RowsM.lt (h : RowsM base o m F v V) : o < V.heap.size := (Array.getElem?_eq_some_iff.1 h.top).1
theorem RowsM.kept (h : RowsM base o m F v V) (h0 : V'.heap[o]? = V.heap[o]?) (hk : ∀ i k, i < m → (v i).ownBlock = some k → V'.heap[k]? = V.heap[k]?) : RowsM base o m F v V' :=
  ⟨h0.trans h.top, fun i hi => mr_kept (h.row i hi) fun k e => hk i k hi e, h.apart, h.lo⟩
theorem RowsM.keep (h : RowsM base o m F v V) (hb : Below V.heap.size V V') : RowsM base o m F v V' :=
  h.kept (hb.block o h.lt) fun i k hi e => hb.block k ((h.row i hi).lt k e).2
theorem RowsM.cell (h : RowsM base o m F v V) (i : Nat) (hi : i < m) : V.cell? ⟨o, i, none⟩ = some (v i) ∧ V.frozen? ⟨o, i, none⟩ = false := by
  refine ⟨?_, by simp [World.frozen?, h.top]⟩
  simp only [World.cell?, h.top]
  rw [List.getElem?_toArray, rowV_get _ _ _ hi]
  rfl
/-- a row that is no row of cells turns, or one of no row here -/
theorem RowsM.turn (h : RowsM base o m F v V) {r : Option Nat} (hg : V.grownBy V' r) (hr : ∀ k, r = some k → ∃ x : Obj, V.heap[k]? = some x ∧ x.isCells = false) : RowsM base o m F v V' := by
  have hne : ∀ k cs t z, V.heap[k]? = some (.cells cs t z) → some k ≠ r := by
    intro k cs t z hk e
    obtain ⟨x, h1, h2⟩ := hr k e.symm
    rw [hk] at h1
    cases h1
    simp [Obj.isCells] at h2
  refine h.kept (hg.block o h.lt (hne _ _ _ _ h.top)) fun i k hi e => ?_
  obtain ⟨cur, hc⟩ := mr_block (h.row i hi) e
  exact hg.block k ((h.row i hi).lt k e).2 (hne _ _ _ _ hc)
/-- a number more in one row -/
theorem RowsM.next {i : Nat} {q : Nat} {u : Value} {W : World} (h : RowsM base o m F v V) (hi : i < m) (ho : W.ownsRow base 3 1 u ((F i).length + 1) (intL (F i) ++ [.int .i64 (q : Int)])) (hg : V.grownBy W (v i).ownBlock) (hat : u.ownBlock = (v i).ownBlock ∨ u.ownBlock = some V.heap.size) {G : Nat → List Nat} (hG : ∀ j, G j = if i = j then F j ++ [q] else F j) :
    RowsM base o m G (fun j => if j = i then u else v j) (W.setCell ⟨o, i, none⟩ u) := by
  have hne : ∀ k, (v i).ownBlock = some k → o ≠ k := fun k e => by
    have := ((h.row i hi).lt k e).1
    have := h.lo
    omega
  have htop : W.heap[o]? = some (.cells (rowV v m).toArray 53 (0, 0)) := (hg.block o h.lt (fun e => hne o e.symm rfl)).trans h.top
  refine ⟨?_, fun j hj => ?_, fun j k hj hk hjk => ?_, h.lo⟩
  · refine (put_rowV htop hi u).trans ?_
    rfl
  · have hno : ∀ (x : Value) (n : Nat) (xs : List Value), W.ownsRow base 3 1 x n xs → (W.setCell ⟨o, i, none⟩ u).ownsRow base 3 1 x n xs := fun x n xs hx => mr_set hx (fun e => by
      have := (hx.lt o e).1
      have := h.lo
      omega) _ _
    rw [hG j]
    by_cases e : j = i
    · subst e
      rw [if_pos rfl, if_pos rfl, List.length_append, List.length_singleton]
      refine hno _ _ _ ?_
      have e2 : intL (F j ++ [q]) = intL (F j) ++ [.int .i64 (q : Int)] := by simp [intL]
      rw [e2]
      exact ho
    · rw [if_neg e, if_neg (fun q => e q.symm)]
      exact hno _ _ _ (away_next (h.row j hj) (h.apart i j hi hj (fun q => e q.symm)) hg hat).1
  · by_cases e1 : j = i
    · subst e1
      rw [if_pos rfl, if_neg (fun q => hjk q.symm)]
      exact (away_next (h.row k hk) (h.apart j k hi hk hjk) hg hat).2
    · rw [if_neg e1]
      by_cases e2 : k = i
      · subst e2
        rw [if_pos rfl]
        exact away_sym (away_next (h.row j hj) (h.apart k j hi hj (fun q => hjk q.symm)) hg hat).2
      · rw [if_neg e2]
        exact h.apart j k hj hk hjk
end
theorem RowsM.start (base o m : Nat) (V : World) (h : V.heap[o]? = some (.cells (rowV (fun _ => .slice none 0 0) m).toArray 53 (0, 0))) (lo : o < base) : RowsM base o m (fun _ => []) (fun _ => .slice none 0 0) V :=
  ⟨h, fun i hi => World.ownsRow_nil _ _ _ _, fun i j _ _ _ => away_nil _, lo⟩
theorem infoSl : (Try.prog.info? 53).map (fun i => (i.zero, i.size, i.bytes)) = some (some (.slice none 0 0), 1, 24) := by kernel_rfl
theorem made_rows (n : Nat) : madeCells (Value.slice none 0 0).cells (n * 1) = (rowV (fun _ => .slice none 0 0) n).toArray := by
  apply Array.ext'
  apply List.ext_getElem
  · simp [rowV, madeCells]
  · intro i h1 h2
    simp [rowV, madeCells, Value.cells, Nat.mod_one]
theorem make_rows (n : Nat) (hn : n ≤ 1000000) (w : World) : (Instr.makeSlice 38 (.int .i64 (n : Int)) (.int .i64 (n : Int))).run Try.prog w = .ok (.slice (some ⟨w.heap.size, 0, none⟩) n n) (w.alloc (.cells (rowV (fun _ => .slice none 0 0) n).toArray 53)) := by
  obtain ⟨i0, hi, hz0, hz1, hz2⟩ := info_parts infoSl
  have := run_make (P := Try.prog) w 38 53 i0 (.slice none 0 0) Try.underlying38 hi hz0 .i64 .i64 (n : Int) (n : Int) (by omega) (by omega) (by rw [hz2]; omega) (by omega)
  rw [this, hz1, Int.toNat_natCast, made_rows n]
theorem RowsM.set {base o m : Nat} {F : Nat → List Nat} {v : Nat → Value} {V : World} (h : RowsM base o m F v V) {k : Nat} (hk : k < base) (hko : k ≠ o) (j : Nat) (u : Value) : RowsM base o m F v (V.setCell ⟨k, j, none⟩ u) :=
  h.kept (set_heap V k o j u (Ne.symm hko)) fun i r hi e => set_heap V k r j u (by have := ((h.row i hi).lt r e).1; omega)
/-- what found knows, from round to round -/
structure FoJ (b m : Nat) (w5 : World) (F : Nat → List Nat) (l z k : Nat) (v : Nat → Value) (V : World) : Prop where
  kp : ∀ i, i < b + 11 → i ≠ b + 4 → i ≠ b + 6 → i ≠ b + 7 → i ≠ b + 8 → V.heap[i]? = w5.heap[i]?
  rows : RowsM (b + 11) (b + 4) m F v V
  bl : V.heap[b + 6]? = some (.cells #[.int .i64 (l : Int)] 3 (0, 0))
  bz : V.heap[b + 7]? = some (.cells #[.int .i64 (z : Int)] 3 (0, 0))
  bn : V.heap[b + 8]? = some (.cells #[.int .i64 (k : Int)] 3 (0, 0))
  bel : Below b w5 V
  siz : b + 11 ≤ V.heap.size
section
variable {b m l z k : Nat} {w5 : World} {F : Nat → List Nat} {v : Nat → Value} {X Y : World}
theorem FoJ.ab {row : Option Nat} (h : FoJ b m w5 F l z k v X) (hg : X.grownBy Y row) (hr : ∀ r, row = some r → b + 11 ≤ r ∧ ∃ o : Obj, X.heap[r]? = some o ∧ (o.isCells = false ∨ noW o)) : FoJ b m w5 F l z k v Y := by
  have hs := h.siz
  have k : ∀ i, i < b + 11 → Y.heap[i]? = X.heap[i]? := fun i hi => hg.block i (by omega) (fun e => by have := (hr i e.symm).1; omega)
  refine ⟨fun i h1 h2 h3 h4 h5 => (k i h1).trans (h.kp i h1 h2 h3 h4 h5), h.rows.turn hg (fun r e => ?_), (k _ (by omega)).trans h.bl, (k _ (by omega)).trans h.bz, (k _ (by omega)).trans h.bn, h.bel.trans ⟨hg.os, hg.tape, hg.output, hg.size, fun i hi => k i (by omega)⟩, Nat.le_trans hs hg.size⟩
  obtain ⟨_, o, h1, h2⟩ := hr r e
  exact ⟨o, h1, h2.elim id (fun h => h.elim)⟩
theorem FoJ.drewN (h : FoJ b m w5 F l z k v X) (j : Nat) : FoJ b m w5 F l z k v (X.drewN j) := ⟨h.kp, ⟨h.rows.top, h.rows.row, h.rows.apart, h.rows.lo⟩, h.bl, h.bz, h.bn, h.bel.drewN' j, h.siz⟩
theorem one_set {V : World} {a : Nat} {x y : Value} {t : TypeId} (h : V.heap[a]? = some (.cells #[x] t (0, 0))) : (V.setCell ⟨a, 0, none⟩ y).heap[a]? = some (.cells #[y] t (0, 0)) := by
  simp [World.setCell, Array.getElem?_modify] at h ⊢
  simp [h]
theorem FoJ.putL (h : FoJ b m w5 F l z k v X) (l' : Nat) : FoJ b m w5 F l' z k v (X.setCell ⟨b + 6, 0, none⟩ (.int .i64 (l' : Int))) :=
  ⟨fun i h1 h2 h3 h4 h5 => (set_heap X (b + 6) i 0 _ h3).trans (h.kp i h1 h2 h3 h4 h5), h.rows.set (by omega) (by omega) _ _, one_set h.bl, (set_heap X (b + 6) _ 0 _ (by omega)).trans h.bz, (set_heap X (b + 6) _ 0 _ (by omega)).trans h.bn, mb_set h.bel (by omega) _ _, by simpa [World.setCell] using h.siz⟩
theorem FoJ.putZ (h : FoJ b m w5 F l z k v X) (z' : Nat) : FoJ b m w5 F l z' k v (X.setCell ⟨b + 7, 0, none⟩ (.int .i64 (z' : Int))) :=
  ⟨fun i h1 h2 h3 h4 h5 => (set_heap X (b + 7) i 0 _ h4).trans (h.kp i h1 h2 h3 h4 h5), h.rows.set (by omega) (by omega) _ _, (set_heap X (b + 7) _ 0 _ (by omega)).trans h.bl, one_set h.bz, (set_heap X (b + 7) _ 0 _ (by omega)).trans h.bn, mb_set h.bel (by omega) _ _, by simpa [World.setCell] using h.siz⟩
theorem FoJ.putN (h : FoJ b m w5 F l z k v X) (k' : Nat) : FoJ b m w5 F l z k' v (X.setCell ⟨b + 8, 0, none⟩ (.int .i64 (k' : Int))) :=
  ⟨fun i h1 h2 h3 h4 h5 => (set_heap X (b + 8) i 0 _ h5).trans (h.kp i h1 h2 h3 h4 h5), h.rows.set (by omega) (by omega) _ _, (set_heap X (b + 8) _ 0 _ (by omega)).trans h.bl, (set_heap X (b + 8) _ 0 _ (by omega)).trans h.bz, one_set h.bn, mb_set h.bel (by omega) _ _, by simpa [World.setCell] using h.siz⟩
theorem keptW_set {B : Nat} {V : World} {a : Nat} (ha : a < B) (j : Nat) (u : Value) : KeptW B noW V (V.setCell ⟨a, j, none⟩ u) :=
  ⟨by simp [World.setCell], fun k o hk ho _ => (set_heap V a k j u (by omega)).trans ho⟩
/-- a number is laid behind one of the rows -/
theorem FoJ.next {i q : Nat} {u : Value} (h : FoJ b m w5 F l z k v X) (hi : i < m) (hY : Y.ownsRow (b + 11) 3 1 u ((F i).length + 1) (intL (F i) ++ [.int .i64 (q : Int)])) (hg : (X.alloc (.cells #[.int .i64 (q : Int)] 3)).grownBy Y (v i).ownBlock) (hat : u.ownBlock = (v i).ownBlock ∨ u.ownBlock = some (X.heap.size + 1)) {G : Nat → List Nat} (hG : ∀ j, G j = if i = j then F j ++ [q] else F j) :
    FoJ b m w5 G l z k (fun j => if j = i then u else v j) (Y.setCell ⟨b + 4, i, none⟩ u) ∧ KeptW (b + 11) noW X (Y.setCell ⟨b + 4, i, none⟩ u) := by
  have hs := h.siz
  have ha : Below X.heap.size X (X.alloc (.cells #[.int .i64 (q : Int)] 3)) := (Below.refl _ X).alloc (Nat.le_refl _) _
  have hr := h.rows.keep ha
  have hlo : ∀ r, (v i).ownBlock = some r → b + 11 ≤ r := fun r e => ((h.rows.row i hi).lt r e).1
  have hk : ∀ j, j < b + 11 → Y.heap[j]? = X.heap[j]? := fun j hj => (hg.block j (by simp; omega) (fun e => by have := hlo j e.symm; omega)).trans (ha.block j (by omega))
  have hk4 : ∀ j, j < b + 11 → j ≠ b + 4 → (Y.setCell ⟨b + 4, i, none⟩ u).heap[j]? = X.heap[j]? := fun j hj h4 => (set_heap Y (b + 4) j i u h4).trans (hk j hj)
  refine ⟨⟨fun j h1 h2 h3 h4 h5 => (hk4 j h1 h2).trans (h.kp j h1 h2 h3 h4 h5), hr.next hi hY hg (by rw [World.size_alloc]; exact hat) hG, (hk4 _ (by omega) (by omega)).trans h.bl, (hk4 _ (by omega) (by omega)).trans h.bz, (hk4 _ (by omega) (by omega)).trans h.bn, ?_, ?_⟩, ?_, ?_⟩
  · refine mb_set (h.bel.trans ⟨hg.os, hg.tape, hg.output, ?_, fun j hj => hk j (by omega)⟩) (by omega) _ _
    have := hg.size
    simp at this
    omega
  · have := hg.size
    simp [World.setCell] at this ⊢
    omega
  · have := hg.size
    simp [World.setCell] at this ⊢
    omega
  · intro r o hr2 ho hn
    have hlt := (Array.getElem?_eq_some_iff.1 ho).1
    refine (set_heap Y (b + 4) r i u (by omega)).trans ((hg.block r (by simp; omega) ?_).trans ((ha.block r hlt).trans ho))
    intro e
    obtain ⟨cur, hc⟩ := mr_block (h.rows.row i hi) e.symm
    rw [ho] at hc
    cases hc
    rcases hn with h1 | h1
    · simp [Obj.isCells] at h1
    · exact h1
end
end Go.Proofs.Ytlbfnchjbpioeaa

namespace Mn
/-- does a word stand at a place? -/
def stB (x t : ByteArray) (a : Nat) : Bool := decide (a + x.size ≤ t.size ∧ t.extract a (a + x.size) = x)
def anyB (x t : ByteArray) (k : Nat) : Bool := (List.range k).any fun a => stB x t a
theorem anyB_next (x t : ByteArray) (k : Nat) : anyB x t (k + 1) = (anyB x t k || stB x t k) := by
  unfold anyB
  rw [List.range_succ, List.any_append]
  simp
theorem anyB_stop (x t : ByteArray) (k : Nat) (h : anyB x t k = true) (hk : k ≤ t.size) : anyB x t t.size = true := by
  unfold anyB at h ⊢
  obtain ⟨a, h1, h2⟩ := List.any_eq_true.1 h
  exact List.any_eq_true.2 ⟨a, List.mem_range.2 (by have := List.mem_range.1 h1; omega), h2⟩
def hasK (D : List ByteArray) (t : ByteArray) (k : Nat) : List Nat := (List.range k).filter fun i => anyB (D.getD i ByteArray.empty) t t.size
theorem hasK_next (D : List ByteArray) (t : ByteArray) (k : Nat) : hasK D t (k + 1) = if anyB (D.getD k ByteArray.empty) t t.size = true then hasK D t k ++ [k] else hasK D t k := by
  unfold hasK
  rw [List.range_succ, List.filter_append]
  by_cases h : anyB (D.getD k ByteArray.empty) t t.size = true
  · rw [if_pos h, List.filter_cons_of_pos (by exact h), List.filter_nil]
  · rw [if_neg h, List.filter_cons_of_neg (by exact h), List.filter_nil, List.append_nil]
theorem hasK_len (D : List ByteArray) (t : ByteArray) (k : Nat) : (hasK D t k).length ≤ k := by
  unfold hasK
  have := List.length_filter_le (fun i => anyB (D.getD i ByteArray.empty) t t.size) (List.range k)
  rw [List.length_range] at this
  exact this
end Mn
namespace Go.Proofs.Ytlbfnchjbpioeaa
open Go.RowKit Go.Shelf
set_option linter.unusedVariables false
theorem sl_runR (s : ByteArray) (a z : Nat) (h : a + z ≤ s.size) (W : World) : (Instr.slice 9 (.string s) (some (.int .i64 (a : Int))) (some (.int .i64 ((a : Int) + (z : Int)))) none).run Try.prog W = .ok (.string (s.extract a (a + z))) W := by
  have e1 : ((a : Int) + (z : Int)).toNat = a + z := by omega
  have e3 : (a : Int) + (z : Int) ≤ (s.size : Int) := by omega
  have e4 : (0 : Int) ≤ (a : Int) + (z : Int) := by omega
  simp [go_sem, Instr.slice, e1, e3, e4]
set_option maxHeartbeats 1000000 in
theorem stands_any (x t : ByteArray) (a : Nat) (w : World) (hx : x.size ≤ 1125899906842624) (ht : t.size ≤ 1125899906842624) (ha : a ≤ t.size) :
    Calls Try.prog 42 #[.string x, .string t, .int .i64 (a : Int)] w fun e w' => e = .returned (.bool (Mn.stB x t a)) ∧ w' = w := by
  have hwr1 : IntKind.i64.wrap ((t.size : Int) - (a : Int)) = (t.size : Int) - (a : Int) := by rw [IntKind.wrap_i64]; omega
  have hwr2 : IntKind.i64.wrap ((a : Int) + (x.size : Int)) = (a : Int) + (x.size : Int) := by rw [IntKind.wrap_i64]; omega
  by_cases h : a + x.size ≤ t.size
  · have hI : (x.size : Int) ≤ (t.size : Int) - (a : Int) := by omega
    have hsl := fun W => sl_runR t a x.size h W
    by_cases he : t.extract a (a + x.size) = x
    · rw [he] at hsl
      have HV : Hid (Mn.stB x t a = true) := Hid.mk' (decide_eq_true ⟨h, he⟩)
      clear he
      go_enter Try.func42, Try.ntmps42
      go_wp2
      go_ret
      rw [HV.out]
      exact ⟨rfl, rfl⟩
    · obtain ⟨y, hy⟩ : ∃ y, t.extract a (a + x.size) = y := ⟨_, rfl⟩
      have HV : Hid (Mn.stB x t a = false) := Hid.mk' (decide_eq_false (fun q => he q.2))
      rw [hy] at hsl he
      have hneL := toL_ne he
      have hneB : (y.toList == x.toList) = false := by simp [hneL]
      clear hy
      go_enter Try.func42, Try.ntmps42
      go_wp2
      go_ret
      rw [HV.out]
      exact ⟨rfl, rfl⟩
  · have hI : ¬ (x.size : Int) ≤ (t.size : Int) - (a : Int) := by omega
    have HV : Hid (Mn.stB x t a = false) := Hid.mk' (decide_eq_false (fun q => h q.1))
    go_enter Try.func42, Try.ntmps42
    go_wp2
    go_ret
    rw [HV.out]
    exact ⟨rfl, rfl⟩
set_option maxRecDepth 100000 in
set_option maxHeartbeats 2000000 in
theorem refHas_any (g n c : Nat) (q : Option Addr) (fold : Bool) (D : List ByteArray) (s : ByteArray) (w : World) (hst : w.heap[g]? = some (.cells #[.slice q n c, .bool fold] 64 (0, 0))) (h : StrAt w q D) (hn : D.length = n) (h64 : n ≤ 64) (hz : ∀ x ∈ D, x.size ≤ 256) (hs : s.size ≤ 4294967296) :
    Calls Try.prog 29 #[.pointer (some ⟨g, 0, none⟩), .string s] w fun e w' => ∃ v, e = .returned v ∧ w'.ownsRow w.heap.size 3 1 v (Mn.hasK D (Mn.fd fold s) n).length (intL (Mn.hasK D (Mn.fd fold s) n)) ∧ Below w.heap.size w w' := by
  obtain ⟨b, hb⟩ : ∃ b, w.heap.size = b := ⟨_, rfl⟩
  obtain ⟨t, ht⟩ : ∃ t, Mn.fd fold s = t := ⟨_, rfl⟩
  have hts : t.size ≤ 4294967296 := by rw [← ht, Mn.fd_size]; exact hs
  have HFO := Hid.mk' (fun V => folded_any s fold V (by omega))
  rw [ht] at HFO ⊢
  have HST := Hid.mk' hst
  have HS := Hid.mk' h
  have HN := Hid.mk' hn
  have HZ := Hid.mk' hz
  have HGL : Hid (g < b) := Hid.mk' (by rw [← hb]; exact (Array.getElem?_eq_some_iff.1 hst).1)
  have c0 : w.cell? ⟨g, 1, none⟩ = some (.bool fold) := by simp [World.cell?, hst]
  have HC : Hid (∀ V, Below b w V → V.cell? ⟨g, 0, none⟩ = some (.slice q n c)) := fun V hV => (World.cell?_of_block (a := ⟨g, 0, none⟩) (hV.block g HGL.out)).trans (by simp [World.cell?, HST.out])
  have HD : Hid (∀ V i, Below b w V → i < n → ∃ gq off, q = some ⟨gq, off, none⟩ ∧ V.cell? ⟨gq, off + i, none⟩ = some (.string (D.getD i ByteArray.empty))) := fun V i hV hi => (HS.out.keep (w' := V) (by rw [hb]; exact hV)) i (by rw [HN.out]; exact hi)
  rw [hb]
  clear hst h hn hz ht
  go_enter Try.func29, Try.ntmps29
  go_wp2_with (first
    | (go_at_call 28; refine (HFO.out _).mono ?_; rintro e w1 ⟨rfl, hb1⟩; have HB1 : Hid (Below b w w1) := Hid.mk' (by rw [← hb]; exact hb1); clear hb1 HFO)
    | fail)
  go_loopw [6, 7, 8, 9] (fun ov iv uv av wr => ∃ (i : Nat) (q2 : Option Addr) (n2 c2 : Nat), ov = .slice q2 n2 c2 ∧ iv = .int .i64 (i : Int) ∧ i ≤ n ∧ Hid (n2 = (Mn.hasK D t i).length) ∧ Hid (wr.ownsRow b 3 1 (.slice q2 n2 c2) n2 (intL (Mn.hasK D t i))) ∧ Hid (Below b w wr)) (fun ov iv uv av _ => n - (intOf iv).toNat)
  case atStart => exact ⟨0, none, 0, 0, rfl, rfl, Nat.zero_le _, rfl, World.ownsRow_nil _ _ _ _, HB1⟩
  case round =>
    obtain ⟨i, q2, n2, c2, rfl, rfl, hi, hn2, hrow, hbel⟩ := hrel
    rename World => wr
    have cW := HC.out wr hbel.out
    by_cases hin : i < n
    · have hinI : (i : Int) < (n : Int) := by omega
      obtain ⟨gq, off, hq, hcx⟩ := HD.out wr i hbel.out hin
      obtain ⟨x, hx⟩ : ∃ x, D.getD i ByteArray.empty = x := ⟨_, rfl⟩
      rw [hx] at hcx
      have hxs : x.size ≤ 256 := HZ.out x (by rw [← hx, List.getD_eq_getElem?_getD, List.getElem?_eq_getElem (by rw [HN.out]; exact hin)]; exact List.getElem_mem _)
      have hnx := Mn.hasK_next D t i
      rw [hx] at hnx
      have HNX := Hid.mk' hnx
      have HSD := Hid.mk' (fun a V ha => stands_any x t a V (by omega) (by omega) ha)
      subst hq
      clear hnx hx
      go_wp2_with fail
      go_loopw [8, 9] (fun uv av wx => ∃ (a : Nat) (ub : Bool), uv = .bool ub ∧ av = .int .i64 (a : Int) ∧ a ≤ t.size ∧ Hid (ub = Mn.anyB x t a) ∧ wx = wr) (fun uv av _ => t.size - (intOf av).toNat)
      case atStart => exact ⟨0, false, rfl, rfl, Nat.zero_le _, rfl, rfl⟩
      case round =>
        obtain ⟨a, ub, rfl, rfl, ha, hub, hwx⟩ := hrel
        rename World => wx
        have hwx' := hwx.symm
        subst hwx'
        cases ub
        · have HU1 : Hid (Mn.anyB x t a = false) := Hid.mk' hub.out.symm
          clear hub
          by_cases hat : a < t.size
          · have hatI : (a : Int) < (t.size : Int) := by omega
            have hwa : IntKind.i64.wrap ((a : Int) + 1) = (a : Int) + 1 := by rw [IntKind.wrap_i64]; omega
            go_wp2_with (first | (go_at_call 42; refine (HSD.out a _ (by omega)).mono ?_; rintro e wz ⟨rfl, hwz⟩; have hwz' := hwz.symm; subst hwz') | fail)
            go_roundw
            case rel => exact ⟨a + 1, Mn.stB x t a, rfl, by simp, by omega, Hid.mk' (by rw [Mn.anyB_next, HU1.out]; rfl), trivial⟩
            case measure =>
              simp [intOf]
              omega
          · have hatI : ¬ (a : Int) < (t.size : Int) := by omega
            have e8 : a = t.size := by omega
            have HNY : Hid (Mn.hasK D t (i + 1) = Mn.hasK D t i) := Hid.mk' (by rw [HNX.out, ← e8, HU1.out, if_neg (by decide)])
            clear e8
            go_wp2_with fail
            go_roundw
            case rel => exact ⟨i + 1, q2, n2, c2, rfl, by simp, by omega, by rw [HNY.out]; exact hn2, by rw [HNY.out]; exact hrow, hbel⟩
            case measure =>
              simp [intOf]
              omega
        · have HU1 : Hid (Mn.anyB x t t.size = true) := Hid.mk' (Mn.anyB_stop x t a hub.out.symm ha)
          have HNY : Hid (Mn.hasK D t (i + 1) = Mn.hasK D t i ++ [i]) := Hid.mk' (by rw [HNX.out, HU1.out, if_pos rfl])
          have hnl := Mn.hasK_len D t i
          have hnl2 : n2 ≤ 64 := by rw [hn2.out]; omega
          have hszw : b ≤ wr.heap.size := by have := hbel.out.size; omega
          obtain ⟨i0, j1, j2, j3, j4⟩ := info_parts infoI
          have HJ := Hid.mk' (And.intro j1 (And.intro j2 (And.intro j3 j4)))
          clear hub j1 j2 j3 j4 hnl
          by_cases hat : a < t.size
          · have hatI : (a : Int) < (t.size : Int) := by omega
            go_wp2_with (first | (at_builtin; refine wpList_append_own _ rfl _ _ 53 rfl b 3 i0 (.int .i64 0) 1 8 Try.underlying53 HJ.out.1 HJ.out.2.1 HJ.out.2.2.1 HJ.out.2.2.2 rfl (by decide) _ _ _ rfl (hrow.out.alloc _) ⟨wr.heap.size, 0, none⟩ 1 1 [.int .i64 (i : Int)] rfl rfl (int_news _ _ _ rfl) (int_one _) (by unfold maxLen; omega) (by omega) (by simp only [World.size_alloc]; omega) ?_; intro v6 w6 ho6 hg6 _; obtain ⟨p6, c6, rfl⟩ := mr_shape ho6; have HB6 : Hid (Below b w w6) := Hid.mk' (own_relI hszw hrow.out hbel.out hg6); have HR6 : Hid (w6.ownsRow b 3 1 (.slice p6 (n2 + 1) c6) (n2 + 1) (intL (Mn.hasK D t i ++ [i]))) := Hid.mk' (by rw [show intL (Mn.hasK D t i ++ [i]) = intL (Mn.hasK D t i) ++ [.int .i64 (i : Int)] by simp [intL]]; exact ho6); clear ho6 hg6) | fail)
            go_roundw
            case rel => exact ⟨i + 1, p6, n2 + 1, c6, rfl, by simp, by omega, by rw [HNY.out, List.length_append, ← hn2.out]; rfl, by rw [HNY.out]; exact HR6, HB6⟩
            case measure =>
              simp [intOf]
              omega
          · have hatI : ¬ (a : Int) < (t.size : Int) := by omega
            go_wp2_with (first | (at_builtin; refine wpList_append_own _ rfl _ _ 53 rfl b 3 i0 (.int .i64 0) 1 8 Try.underlying53 HJ.out.1 HJ.out.2.1 HJ.out.2.2.1 HJ.out.2.2.2 rfl (by decide) _ _ _ rfl (hrow.out.alloc _) ⟨wr.heap.size, 0, none⟩ 1 1 [.int .i64 (i : Int)] rfl rfl (int_news _ _ _ rfl) (int_one _) (by unfold maxLen; omega) (by omega) (by simp only [World.size_alloc]; omega) ?_; intro v6 w6 ho6 hg6 _; obtain ⟨p6, c6, rfl⟩ := mr_shape ho6; have HB6 : Hid (Below b w w6) := Hid.mk' (own_relI hszw hrow.out hbel.out hg6); have HR6 : Hid (w6.ownsRow b 3 1 (.slice p6 (n2 + 1) c6) (n2 + 1) (intL (Mn.hasK D t i ++ [i]))) := Hid.mk' (by rw [show intL (Mn.hasK D t i ++ [i]) = intL (Mn.hasK D t i) ++ [.int .i64 (i : Int)] by simp [intL]]; exact ho6); clear ho6 hg6) | fail)
            go_roundw
            case rel => exact ⟨i + 1, p6, n2 + 1, c6, rfl, by simp, by omega, by rw [HNY.out, List.length_append, ← hn2.out]; rfl, by rw [HNY.out]; exact HR6, HB6⟩
            case measure =>
              simp [intOf]
              omega
    · have e9 : n = i := by omega
      subst e9
      have hinI : ¬ (n : Int) < (n : Int) := by omega
      go_wp2
      go_ret
      refine ⟨_, rfl, ?_, hbel.out⟩
      rw [← hn2.out]
      exact hrow.out
set_option maxHeartbeats 1000000 in
theorem refAny_any (g n c : Nat) (q : Option Addr) (fold : Bool) (D : List ByteArray) (s : ByteArray) (w : World) (hst : w.heap[g]? = some (.cells #[.slice q n c, .bool fold] 64 (0, 0))) (h : StrAt w q D) (hn : D.length = n) (h64 : n ≤ 64) (hz : ∀ x ∈ D, x.size ≤ 256) (hs : s.size ≤ 4294967296) :
    Calls Try.prog 31 #[.pointer (some ⟨g, 0, none⟩), .string s] w fun e w' => e = .returned (.bool (decide (0 < (Mn.hasK D (Mn.fd fold s) n).length))) ∧ Below w.heap.size w w' := by
  have HH := Hid.mk' (refHas_any g n c q fold D s w hst h hn h64 hz hs)
  obtain ⟨l, hl⟩ : ∃ l, Mn.hasK D (Mn.fd fold s) n = l := ⟨_, rfl⟩
  rw [hl] at HH ⊢
  obtain ⟨k, hk⟩ : ∃ k, l.length = k := ⟨_, rfl⟩
  rw [hk] at HH ⊢
  clear hst h hz hl hk
  go_enter Try.func31, Try.ntmps31
  go_wp2_with (first
    | (go_at_call 29; refine HH.out.mono ?_; rintro e w1 ⟨v, rfl, ho, hb1⟩; obtain ⟨p1, c1, rfl⟩ := mr_shape ho; have HB1 := Hid.mk' hb1; clear ho hb1)
    | fail)
  go_ret
  refine ⟨?_, HB1.out⟩
  simp
end Go.Proofs.Ytlbfnchjbpioeaa
namespace Mn
/-- the document's Has is the program's -/
theorem stB_occ {fold : Bool} {L : List ByteArray} {s : ByteArray} {i a : Nat} (hi : i < L.length) (h1 : 1 ≤ (L.getD i ByteArray.empty).size) : stB (fd fold (L.getD i ByteArray.empty)) (fd fold s) a = true ↔ Occ (wds fold L) ((Sums.bl s).map (lf fold)) a i := by
  obtain ⟨x, hx⟩ : ∃ x, fd fold (L.getD i ByteArray.empty) = x := ⟨_, rfl⟩
  obtain ⟨t, ht⟩ : ∃ t, fd fold s = t := ⟨_, rfl⟩
  have hxs : 1 ≤ x.size := by rw [← hx, fd_size]; exact h1
  have hg := wds_get fold L i hi
  rw [← bl_fd, ht, hx]
  rw [hx] at hg
  unfold stB
  rw [decide_eq_true_eq]
  constructor
  · rintro ⟨h2, h3⟩
    refine ⟨Sums.bl x, hg, ?_, fun e => ?_⟩
    · have h4 := congrArg Sums.bl h3
      rw [Sums.bl_extract] at h4
      rw [← h4, List.drop_take]
      exact List.take_prefix _ _
    · have := congrArg List.length e
      rw [Sums.bl_length, List.length_nil] at this
      omega
  · rintro ⟨y, h2, h3, _⟩
    rw [hg] at h2
    cases h2
    have h4 := h3.length_le
    rw [List.length_drop, Sums.bl_length, Sums.bl_length] at h4
    have h5 : a + x.size ≤ t.size := by omega
    refine ⟨h5, Sums.bl_inj ?_⟩
    rw [Sums.bl_extract, List.drop_take, Nat.add_sub_cancel_left]
    have h6 := List.prefix_iff_eq_take.1 h3
    rw [Sums.bl_length] at h6
    exact h6.symm
end Mn

namespace Go.Proofs.Ytlbfnchjbpioeaa
open Go.RowKit Go.Shelf BigFrame
set_option linter.unusedVariables false
set_option linter.unusedSimpArgs false
attribute [local go_sem] Oper.semAt_some
def allocs (w : World) : List Obj → World
  | [] => w
  | o :: l => allocs (w.alloc o) l
theorem allocs_size : ∀ (l : List Obj) (w : World), (allocs w l).heap.size = w.heap.size + l.length
  | [], w => rfl
  | o :: l, w => by
    rw [allocs, allocs_size l, World.size_alloc, List.length_cons]
    omega
theorem allocs_below : ∀ (l : List Obj) (w : World), Below w.heap.size w (allocs w l)
  | [], w => Below.refl _ _
  | o :: l, w => by
    have h := allocs_below l (w.alloc o)
    rw [allocs]
    exact ((Below.refl _ w).alloc (Nat.le_refl _) o).trans ⟨h.os, h.tape, h.output, h.size, fun k hk => h.block k (by simp; omega)⟩
theorem allocs_get : ∀ (l : List Obj) (w : World) (k : Nat), k < l.length → (allocs w l).heap[w.heap.size + k]? = l[k]?
  | [], w, k, h => by simp at h
  | o :: l, w, 0, h => by
    have h1 := (allocs_below l (w.alloc o)).block w.heap.size (by simp)
    rw [allocs, Nat.add_zero, h1]
    exact heap_alloc_new w o
  | o :: l, w, k + 1, h => by
    have h1 := allocs_get l (w.alloc o) k (by simpa using h)
    rw [World.size_alloc] at h1
    rw [allocs, List.getElem?_cons_succ, ← h1]
    congr 1
    omega
theorem nil_alf (fn : Fn) (first cap : Array Value) (w : World) : (binOp .eql 49 (.func fn first cap) .nilFunc).run Try.prog w = .ok (.bool false) w := by kernel_rfl
theorem fk_to {K : Act → World → Prop} {a a' : Act} {V : World} (h : K a V) (e : a = a') : K a' V := e ▸ h
theorem fp_act {F : Fence} {n : Nat} {P : Program} {c : Code} {Q : Exit → Act → World → Prop} {a a' : Act} {V : World} (e : a = a') (h : Code.wpIn F n P c Q a' V) : Code.wpIn F n P c Q a V := e ▸ h
theorem fo_reg (id : Nat) {F : Fence} {n : Nat} {P : Program} {Q : Exit → Act → World → Prop} {a : Act} {w : World} {ops : Array Oper} {d : Bool} (h : Hid (Code.wpIn F n P (.region id ops d) Q a w)) : Code.wpIn F n P (.region id ops d) Q a w := h.out
/-- the eleven blocks that found makes ahead of its range -/
structure Fo5 (b m c sb : Nat) (pw : Option Addr) (s : ByteArray) (w w5 : World) : Prop where
  c0 : w5.heap[b]? = some (.cells #[.slice pw m c] 22 (0, 0))
  c1 : w5.heap[b + 1]? = some (.cells #[.string s] 9 (0, 0))
  c2 : w5.heap[b + 2]? = some (.cells #[.slice none 0 0] 38 (0, 0))
  c3 : w5.heap[b + 3]? = some (.cells #[.bool false] 4 (0, 0))
  c5 : w5.heap[b + 5]? = some (.cells #[.slice (some ⟨b + 4, 0, none⟩) m m] 38 (0, 0))
  c9 : w5.heap[b + 9]? = some (.cells #[.pointer (some ⟨sb, 0, none⟩)] 25 (0, 0))
  c10 : w5.heap[b + 10]? = some (.cells #[.string s] 9 (0, 0))
  size : w5.heap.size = b + 11
  bel : Below b w w5
theorem fo_start (w : World) (b m c sb : Nat) (pw : Option Addr) (s : ByteArray) (hb : w.heap.size = b) (w5 : World) (h : w5 = allocs w [.cells #[.slice pw m c] 22, .cells #[.string s] 9, .cells #[.slice none 0 0] 38, .cells #[.bool false] 4, .cells (rowV (fun _ => .slice none 0 0) m).toArray 53, .cells #[.slice (some ⟨b + 4, 0, none⟩) m m] 38, .cells #[.int .i64 0] 3, .cells #[.int .i64 0] 3, .cells #[.int .i64 0] 3, .cells #[.pointer (some ⟨sb, 0, none⟩)] 25, .cells #[.string s] 9]) :
    Fo5 b m c sb pw s w w5 ∧ FoJ b m w5 (fun _ => []) 0 0 0 (fun _ => .slice none 0 0) w5 := by
  have hsz : w5.heap.size = b + 11 := by rw [h, allocs_size, hb]; rfl
  have hbel : Below b w w5 := by rw [h, ← hb]; exact allocs_below _ _
  have hg := fun k hk => allocs_get [.cells #[.slice pw m c] 22, .cells #[.string s] 9, .cells #[.slice none 0 0] 38, .cells #[.bool false] 4, .cells (rowV (fun _ => .slice none 0 0) m).toArray 53, .cells #[.slice (some ⟨b + 4, 0, none⟩) m m] 38, .cells #[.int .i64 0] 3, .cells #[.int .i64 0] 3, .cells #[.int .i64 0] 3, .cells #[.pointer (some ⟨sb, 0, none⟩)] 25, .cells #[.string s] 9] w k hk
  rw [← h, hb] at hg
  simp only [List.length_cons, List.length_nil, Nat.reduceAdd] at hg
  refine ⟨⟨hg 0 (by omega), hg 1 (by omega), hg 2 (by omega), hg 3 (by omega), hg 5 (by omega), hg 9 (by omega), hg 10 (by omega), hsz, hbel⟩, ?_⟩
  exact ⟨fun _ _ _ _ _ _ => rfl, RowsM.start _ _ _ _ (hg 4 (by omega)) (by omega), hg 6 (by omega), hg 7 (by omega), hg 8 (by omega), Below.refl _ _, by omega⟩
theorem one_cell {V : World} {a : Nat} {x : Value} {t : TypeId} {z : Nat × Nat} (h : V.heap[a]? = some (.cells #[x] t z)) : V.cell? ⟨a, 0, none⟩ = some x := by simp [World.cell?, h]
theorem one_frozen {V : World} {a : Nat} {x : Value} {t : TypeId} (h : V.heap[a]? = some (.cells #[x] t (0, 0))) : V.frozen? ⟨a, 0, none⟩ = false := by simp [World.frozen?, h]
theorem fo_fin {b m l z k D : Nat} {w w5 V : World} {F : Nat → List Nat} {v : Nat → Value} (hi : FoJ b m w5 F l z k v V) (h2 : V.heap[b + 2]? = some (.cells #[.slice none 0 0] 38 (0, 0))) (h3 : V.heap[b + 3]? = some (.cells #[.bool false] 4 (0, 0))) (hbel : Below b w w5) (hD : b + 11 ≤ D) (hdf : V.heap[D]? = some (.deferred (some []))) :
    ((V.setCell ⟨b + 2, 0, none⟩ (.slice (some ⟨b + 4, 0, none⟩) m m)).setCell ⟨b + 3, 0, none⟩ (.bool true)).heap[D]? = some (.deferred (some [])) ∧ (((V.setCell ⟨b + 2, 0, none⟩ (.slice (some ⟨b + 4, 0, none⟩) m m)).setCell ⟨b + 3, 0, none⟩ (.bool true)).putObj D (.deferred none)).cell? ⟨b + 2, 0, none⟩ = some (.slice (some ⟨b + 4, 0, none⟩) m m) ∧ (((V.setCell ⟨b + 2, 0, none⟩ (.slice (some ⟨b + 4, 0, none⟩) m m)).setCell ⟨b + 3, 0, none⟩ (.bool true)).putObj D (.deferred none)).cell? ⟨b + 3, 0, none⟩ = some (.bool true) ∧ RowsM (b + 11) (b + 4) m F v (((V.setCell ⟨b + 2, 0, none⟩ (.slice (some ⟨b + 4, 0, none⟩) m m)).setCell ⟨b + 3, 0, none⟩ (.bool true)).putObj D (.deferred none)) ∧ Below b w (((V.setCell ⟨b + 2, 0, none⟩ (.slice (some ⟨b + 4, 0, none⟩) m m)).setCell ⟨b + 3, 0, none⟩ (.bool true)).putObj D (.deferred none)) := by
  obtain ⟨V1, hV1⟩ : ∃ V1, V.setCell ⟨b + 2, 0, none⟩ (.slice (some ⟨b + 4, 0, none⟩) m m) = V1 := ⟨_, rfl⟩
  have k1 : ∀ i, i ≠ b + 2 → V1.heap[i]? = V.heap[i]? := fun i h => by rw [← hV1]; exact set_heap V (b + 2) i 0 _ h
  have g1 : V1.heap[b + 2]? = some (.cells #[.slice (some ⟨b + 4, 0, none⟩) m m] 38 (0, 0)) := by rw [← hV1]; exact one_set h2
  have r1 : RowsM (b + 11) (b + 4) m F v V1 := by rw [← hV1]; exact hi.rows.set (by omega) (by omega) _ _
  have b1 : Below b w5 V1 := by rw [← hV1]; exact mb_set hi.bel (by omega) _ _
  have s1 : V1.heap.size = V.heap.size := by rw [← hV1]; simp [World.setCell]
  rw [hV1]
  obtain ⟨V2, hV2⟩ : ∃ V2, V1.setCell ⟨b + 3, 0, none⟩ (.bool true) = V2 := ⟨_, rfl⟩
  have k2 : ∀ i, i ≠ b + 3 → V2.heap[i]? = V1.heap[i]? := fun i h => by rw [← hV2]; exact set_heap V1 (b + 3) i 0 _ h
  have g3 : V2.heap[b + 3]? = some (.cells #[.bool true] 4 (0, 0)) := by rw [← hV2]; exact one_set ((k1 _ (by omega)).trans h3)
  have r2 : RowsM (b + 11) (b + 4) m F v V2 := by rw [← hV2]; exact r1.set (by omega) (by omega) _ _
  have b2 : Below b w5 V2 := by rw [← hV2]; exact mb_set b1 (by omega) _ _
  have s2 : V2.heap.size = V.heap.size := by rw [← hV2, ← s1]; simp [World.setCell]
  rw [hV2]
  have hd : V2.heap[D]? = some (.deferred (some [])) := (k2 D (by omega)).trans ((k1 D (by omega)).trans hdf)
  have hDl : D < V2.heap.size := (Array.getElem?_eq_some_iff.1 hd).1
  have kp : ∀ i, i ≠ D → (V2.putObj D (.deferred none)).heap[i]? = V2.heap[i]? := fun i h => World.putObj_heap_other h
  refine ⟨hd, one_cell ((kp (b + 2) (by omega)).trans ((k2 _ (by omega)).trans g1)), one_cell ((kp (b + 3) (by omega)).trans g3), r2.turn (grownBy_putObj' V2 D (.deferred none)) (fun k e => by cases e; exact ⟨_, hd, rfl⟩), ?_⟩
  exact (hbel.trans b2).trans ((Below.refl b _).grown (grownBy_putObj' _ D (.deferred none)) (by have := hi.siz; omega) (fun k e => by cases e; omega))
set_option maxRecDepth 100000 in
set_option maxHeartbeats 4000000 in
theorem found_any (B sb : Nat) (pw : Option Addr) (c m : Nat) (L : List ByteArray) (fold : Bool) (s : ByteArray) (w : World) (hM : ManyM B sb (Mn.wds fold L) fold w) (hS : StrAt w pw L) (hm : L.length = m) (hg : Mn.Good fold L) (hs : s.size ≤ 4294967296) :
    Calls Try.prog 21 #[.pointer (some ⟨sb, 0, none⟩), .slice pw m c, .string s] w fun e w' => ∃ v, e = .returned (.tuple #[.slice (some ⟨w.heap.size + 4, 0, none⟩) m m, .bool true]) ∧ RowsM (w.heap.size + 11) (w.heap.size + 4) m (Mn.plc (Mn.allF (Mn.wds fold L) (tx fold s))) v w' ∧ Below w.heap.size w w' := by
  refine (callsIn_wide (n := 6)).1 ?_
  obtain ⟨b, hb⟩ : ∃ b, w.heap.size = b := ⟨_, rfl⟩
  have HWK := Hid.mk' (Wok.of hg)
  have hfew := hg.few
  have HS := Hid.mk' hS
  have HM := Hid.mk' hm
  have HMM := Hid.mk' hM
  rw [hm] at hfew
  have hmk := fun w => make_rows m (by omega) w
  rw [hb]
  clear hM hS hm hg
  refine callsIn_of_wp_marks Try.func21 rfl trivial ?_ rfl
  simp only [Try.ntmps21, List.size_toArray, List.length_cons, List.length_nil, Nat.reduceAdd, Nat.reduceSub, Array.replicate_succ, Array.replicate_zero, List.push_toArray, List.append_toArray, List.nil_append, List.cons_append]
  have hs50 : s.size ≤ 1125899906842624 := by omega
  gi_wp2_with (first
    | (refine ⟨trivial, ?_⟩; gi_at_call 19; refine (callsIn_wide.2 (all_any sb s _)).mono ?_; rintro e w5 ⟨rfl, hw5⟩; have HW5 := Hid.mk' hw5; have hnl := nil_alf (.func 35) #[] #[.pointer (some ⟨b + 10, 0, none⟩), .pointer (some ⟨b + 9, 0, none⟩)] w5; simp only [World.size_alloc, hb, Nat.add_assoc, Nat.reduceAdd]; clear hw5))
  obtain ⟨HF5, HJ0⟩ : Hid (Fo5 b m c sb pw s w w5) ∧ Hid (FoJ b m w5 (fun _ => []) 0 0 0 (fun _ => .slice none 0 0) w5) := fo_start w b m c sb pw s hb w5 HW5.out
  obtain ⟨g, cn, g2, cw, h4⟩ := HMM.out
  have hgl : g < b := by rw [← hb]; exact h4.gB.2
  have hg2l : g2 < b := by rw [← hb]; exact (h4.wrd.lt g2 rfl).2
  have hsbl : sb < b := by rw [← hb]; exact h4.lt
  have HM5 := Hid.mk' (h4.keep (w' := w5) (by rw [hb]; exact HF5.out.bel))
  have HS5 : Hid (∀ i, i < m → ∃ g off, pw = some ⟨g, off, none⟩ ∧ g < b ∧ w5.cell? ⟨g, off + i, none⟩ = some (.string (L.getD i ByteArray.empty))) := fun i hi => by
    obtain ⟨g, off, h1, h2⟩ := HS.out i (by have := HM.out; omega)
    have h3 := World.block_lt_of_cell? w _ h2
    simp only [hb] at h3
    exact ⟨g, off, h1, h3, (World.cell?_of_block (a := ⟨g, off + i, none⟩) (HF5.out.bel.block g h3)).trans h2⟩
  have hz5 := HF5.out.size
  have hnod := HWK.out.nod
  clear h4 HMM HW5 hnl hmk HS
  refine wpIn_rangeS rfl (by omega) (gf := 35) (lb := #[.pointer (some ⟨b + 10, 0, none⟩), .pointer (some ⟨b + 9, 0, none⟩)]) rfl trivial (enters_of Try.func35 (by kernel_rfl) rfl)
    (all_seqN 5 (by omega) (b + 10) (b + 9) B sb g g2 cn cw (Mn.wds fold L) fold s HWK.out hs50 w5 (by simp [World.cell?, HF5.out.c10]) (by simp [World.cell?, HF5.out.c9]) HM5.out) (fun _ h => h.elim) KpB.t (fun V k o o' hk _ _ i hi => World.putObj_heap_other (by rw [hz5] at hk; rcases hi with rfl | rfl | rfl | rfl | rfl <;> omega)) (Below.refl _ _) (fun _ => rfl)
    (fun pre V => ∃ v, FoJ b m w5 (Mn.plc pre) (Mn.lastP pre) (Mn.lastZ (Mn.wds fold L) pre) pre.length v V) (fun _ _ _ => False)
    (fun pre X Y row hX hg hr => by obtain ⟨v, hX⟩ := hX; exact ⟨v, hX.ab hg (fun r e => by rw [← hz5]; exact hr r e)⟩)
    (fun c pre X Y row hX hg hr => hX)
    ⟨_, HJ0.out⟩ (fun _ _ _ => rfl) (fun x => [(13, .int .i64 (x.1 : Int)), (14, .int .i64 (x.2 : Int))]) ?assign ?body ?done ?stop
  case assign =>
    intro l pre x V K hK
    simp only [encM] at hK ⊢
    gi_wp2
    refine fk_to hK ?_
    simp
  case stop => exact fun D c pre V hD hpre h => h.elim
  case done =>
    rintro D xs V hD rfl ⟨v, hi⟩ hdf
    have c5 : V.cell? ⟨b + 5, 0, none⟩ = some (.slice (some ⟨b + 4, 0, none⟩) m m) := (World.cell?_of_block (a := ⟨b + 5, 0, none⟩) (hi.kp (b + 5) (by omega) (by omega) (by omega) (by omega) (by omega))).trans (one_cell HF5.out.c5)
    have h2 := (hi.kp (b + 2) (by omega) (by omega) (by omega) (by omega) (by omega)).trans HF5.out.c2
    have h3 := (hi.kp (b + 3) (by omega) (by omega) (by omega) (by omega) (by omega)).trans HF5.out.c3
    have c2 := one_cell h2
    have f2 := one_frozen h2
    have h3' : (V.setCell ⟨b + 2, 0, none⟩ (.slice (some ⟨b + 4, 0, none⟩) m m)).heap[b + 3]? = _ := (set_heap V (b + 2) (b + 3) 0 _ (by omega)).trans h3
    have c3 := one_cell h3'
    have f3 := one_frozen h3'
    have FIN := Hid.mk' (fo_fin hi h2 h3 HF5.out.bel (by omega) hdf)
    clear hi h2 h3 h3'
    gi_wp2
    refine ⟨by simp, .inl ⟨_, _, rfl, run_takeDeferred FIN.out.1, ?_⟩⟩
    refine ⟨.tuple #[.slice (some ⟨b + 4, 0, none⟩) m m, .bool true], ?_, v, rfl, FIN.out.2.2.2.1, FIN.out.2.2.2.2⟩
    simp [results, Try.f21, go_sem, FIN.out.2.1, FIN.out.2.2.1]
  case body =>
    rintro l pre ⟨q, v⟩ V hl ⟨rr, hrr⟩ ⟨rv, hi⟩ hpre
    obtain ⟨hvm, hqs, hnn, hor⟩ := Mn.round_ok hnod hpre
    rw [Mn.wds_len, HM.out] at hvm
    rw [Mn.wds_len, HM.out, tx_len] at hnn
    rw [tx_len] at hqs
    obtain ⟨x, hx⟩ : ∃ x, L.getD v ByteArray.empty = x := ⟨_, rfl⟩
    have hxl : ((Mn.wds fold L).getD v []).length = x.size := by
      rw [List.getD_eq_getElem?_getD, Mn.wds_get fold L v (by have := HM.out; omega), Option.getD_some, Sums.bl_length, Mn.fd_size, hx]
    have hxs := (HWK.out.len _ (List.mem_of_getElem? (Mn.wds_get fold L v (by have := HM.out; omega)))).2
    rw [Sums.bl_length, Mn.fd_size, hx] at hxs
    rw [hxl] at hor
    have HLS := Hid.mk' (Mn.last_snoc (Mn.wds fold L) pre (q, v))
    rw [hxl] at HLS
    have HPS := Hid.mk' (Mn.plc_snoc pre q v)
    obtain ⟨lp, hlp⟩ : ∃ lp, Mn.lastP pre = lp := ⟨_, rfl⟩
    obtain ⟨lz, hlz⟩ : ∃ lz, Mn.lastZ (Mn.wds fold L) pre = lz := ⟨_, rfl⟩
    obtain ⟨np, hnp⟩ : ∃ np, pre.length = np := ⟨_, rfl⟩
    obtain ⟨F, hF⟩ : ∃ F, Mn.plc pre = F := ⟨_, rfl⟩
    have hFl : (F v).length ≤ np := by rw [← hF, ← hnp]; exact Mn.plc_len pre v
    rw [hF] at HPS
    rw [hlp, hlz] at hor
    rw [hnp] at hnn
    rw [hlp, hlz, hnp, hF] at hi
    have hmul : s.size * m ≤ 4294967296 * 64 := Nat.mul_le_mul hs hfew
    obtain ⟨sm, hsm⟩ : ∃ sm, s.size * m = sm := ⟨_, rfl⟩
    rw [hsm] at hmul hnn
    have hsmI : (s.size : Int) * (m : Int) = (sm : Int) := by rw [← hsm]; simp
    have hwr0 : IntKind.i64.wrap (sm : Int) = (sm : Int) := by rw [IntKind.wrap_i64]; omega
    obtain ⟨k1, hk1⟩ : ∃ k1, np + 1 = k1 := ⟨_, rfl⟩
    have hnpI : (np : Int) + 1 = (k1 : Int) := by omega
    have hwr1 : IntKind.i64.wrap (k1 : Int) = (k1 : Int) := by rw [IntKind.wrap_i64]; omega
    have hgt : ¬ (sm : Int) < (k1 : Int) := by omega
    have hvmI : (v : Int) < (m : Int) := by omega
    have hvmN : ¬ (m : Int) ≤ (v : Int) := by omega
    have hv0 : ¬ (v : Int) < 0 := by omega
    have hqsN : ¬ (s.size : Int) < (q : Int) := by omega
    have hqlN : ¬ (q : Int) < (lp : Int) := by omega
    have c8 : V.cell? ⟨b + 8, 0, none⟩ = some (.int .i64 (np : Int)) := by simp [World.cell?, hi.bn]
    have f8 : V.frozen? ⟨b + 8, 0, none⟩ = false := by simp [World.frozen?, hi.bn]
    have HI1 := Hid.mk' (hi.putN k1)
    have HK1 := Hid.mk' (keptW_set (V := V) (show b + 8 < b + 11 by omega) 0 (.int .i64 (k1 : Int)))
    have HI0 := Hid.mk' hi
    have hx0 := Hid.mk' hx
    have hlen : Hid (pre.length + 1 = k1) := Hid.mk' (by rw [hnp]; exact hk1)
    clear hi hpre hx hlp hlz hnp hF hsm
    apply fp_act
    case e => simp [encM]; rfl
    iterate 120 (first | (with_reducible refine fo_reg 12 ?_) | go_values | gi_guarded | gi_step | gi_upon | go_simp | skip)
    apply Hid.mk'
    obtain ⟨V1, hV1⟩ : ∃ V1, V.setCell ⟨b + 8, 0, none⟩ (.int .i64 (k1 : Int)) = V1 := ⟨_, rfl⟩
    rw [hV1] at HI1 HK1 ⊢
    obtain ⟨gw, off, hpw, hgw, hcx⟩ := HS5.out v hvm
    rw [hx0.out] at hcx
    have kb : ∀ i, i < b → V1.heap[i]? = w5.heap[i]? := fun i hi => HI1.out.kp i (by omega) (by omega) (by omega) (by omega) (by omega)
    have cW : V1.cell? ⟨b, 0, none⟩ = some (.slice pw m c) := (World.cell?_of_block (a := ⟨b, 0, none⟩) (HI1.out.kp b (by omega) (by omega) (by omega) (by omega) (by omega))).trans (by simp [World.cell?, HF5.out.c0])
    have cT : V1.cell? ⟨b + 1, 0, none⟩ = some (.string s) := (World.cell?_of_block (a := ⟨b + 1, 0, none⟩) (HI1.out.kp (b + 1) (by omega) (by omega) (by omega) (by omega) (by omega))).trans (by simp [World.cell?, HF5.out.c1])
    have cL : V1.cell? ⟨b + 6, 0, none⟩ = some (.int .i64 (lp : Int)) := by simp [World.cell?, HI1.out.bl]
    have cZ : V1.cell? ⟨b + 7, 0, none⟩ = some (.int .i64 (lz : Int)) := by simp [World.cell?, HI1.out.bz]
    have cN : V1.cell? ⟨b + 8, 0, none⟩ = some (.int .i64 (k1 : Int)) := by simp [World.cell?, HI1.out.bn]
    have cX : V1.cell? ⟨gw, off + v, none⟩ = some (.string x) := (World.cell?_of_block (a := ⟨gw, off + v, none⟩) (kb gw hgw)).trans hcx
    rw [hpw] at cW
    have hcx0 := Hid.mk' hcx
    clear kb hcx hV1 c8 f8
    have hcase : (¬ (q : Int) = (lp : Int) ∧ ((q : Int) == (lp : Int)) = false) ∨ (q = lp ∧ ¬ (lz : Int) ≤ (x.size : Int)) := by
      rcases hor with h | ⟨h, h2⟩
      · have h3 : ¬ (q : Int) = (lp : Int) := by omega
        exact .inl ⟨h3, beq_eq_false_iff_ne.2 h3⟩
      · exact .inr ⟨h.symm, by omega⟩
    clear hor
    rcases hcase with ⟨a1, a2⟩ | ⟨rfl, a1⟩
    · refine wpIn_region_quiet_rnd (F := Fence.wide) l rfl (by kernel_rfl) (by kernel_rfl) (by kernel_rfl) ?_
      repeat (gi_big_quiet_step (fail))
      refine wpQuietIn_nil ?_
      intro _ hwq0
      obtain ⟨nq, hwq1⟩ := hwq0
      subst hwq1
      iterate 120 (first | (with_reducible refine fo_reg 14 ?_) | go_values | gi_guarded | gi_step | gi_upon | go_simp | skip)
      apply Hid.mk'
      obtain ⟨X0, hX0⟩ : ∃ X0 : World, { (V1.drewN nq) with drawn := (V1.drewN nq).drawn + 1 } = X0 := ⟨_, rfl⟩
      have HJ := Hid.mk' ((HI1.out.drewN nq).drewN 1)
      rw [show (V1.drewN nq).drewN 1 = X0 from hX0] at HJ
      have HK0 : Hid (KeptW (b + 11) noW V X0) := by rw [← hX0]; exact Hid.mk' (⟨HK1.out.size, HK1.out.same⟩ : KeptW (b + 11) noW V { (V1.drewN nq) with drawn := (V1.drewN nq).drawn + 1 })
      obtain ⟨X1, hX1⟩ : ∃ X1, X0.alloc (.cells #[.int .i64 (q : Int)] 3) = X1 := ⟨_, rfl⟩
      have hown : X1.ownsRow (b + 11) 3 1 (rv v) (F v).length (intL (F v)) := by
        rw [← hX1]
        exact (HJ.out.rows.keep ((Below.refl _ X0).alloc (Nat.le_refl _) _)).row v hvm
      obtain ⟨pv, cv, hpv⟩ := mr_shape hown
      obtain ⟨nv, hnv⟩ : ∃ nv, (F v).length = nv := ⟨_, rfl⟩
      have hsz0 := HJ.out.siz
      obtain ⟨i0, ji, jz0, jz1, jz2⟩ := info_parts infoI
      obtain ⟨u2, X2, hrun, ho2, hg2, _, hat⟩ := run_append_own_at (P := Try.prog) X1 (b + 11) 53 53 3 i0 (.int .i64 0) 1 8 Try.underlying53 ji jz0 jz1 jz2 rfl (by decide) (rv v) (F v).length (intL (F v)) hown ⟨X0.heap.size, 0, none⟩ 1 1 [.int .i64 (q : Int)] rfl (by rw [← hX1]; exact cell_one_new _ _ _) (int_one _) (by unfold maxLen; omega) (by omega) (by rw [← hX1]; simp; omega)
      rw [← hX1] at hg2
      have HNX := Hid.mk' (HJ.out.next hvm ho2 hg2 (by rw [← hX1] at hat; simpa using hat) (G := Mn.plc (pre ++ [(q, v)])) (fun j => HPS.out j))
      obtain ⟨pu, cu, rfl⟩ := mr_shape ho2
      rw [hpv, hnv] at hrun
      rw [hnv] at HNX
      have k2 : ∀ i, i < b + 11 → X2.heap[i]? = X0.heap[i]? := fun i hi => (hg2.block i (by simp; omega) (fun e => by have := ((HJ.out.rows.row v hvm).lt i e.symm).1; omega)).trans (Below.heap_alloc _ _ _ (by omega))
      have k1' : ∀ i, i < b + 11 → X1.heap[i]? = X0.heap[i]? := fun i hi => by rw [← hX1]; exact Below.heap_alloc _ _ _ (by omega)
      obtain ⟨d0, e0⟩ := HJ.out.rows.cell v hvm
      rw [hpv, hnv] at d0
      have c50 : X0.cell? ⟨b + 5, 0, none⟩ = some (.slice (some ⟨b + 4, 0, none⟩) m m) := (World.cell?_of_block (a := ⟨b + 5, 0, none⟩) (HJ.out.kp (b + 5) (by omega) (by omega) (by omega) (by omega) (by omega))).trans (by simp [World.cell?, HF5.out.c5])
      have d2 : X2.cell? ⟨b + 4, v, none⟩ = some (.slice pv nv cv) := (World.cell?_of_block (a := ⟨b + 4, v, none⟩) (k2 (b + 4) (by omega))).trans d0
      have e2 : X2.frozen? ⟨b + 4, v, none⟩ = false := (World.frozen?_of_block (a := ⟨b + 4, v, none⟩) (k2 (b + 4) (by omega))).trans e0
      have HRD : Hid (∀ X, (X = X0 ∨ X = X1 ∨ X = X2) → X.cell? ⟨b + 5, 0, none⟩ = some (.slice (some ⟨b + 4, 0, none⟩) m m) ∧ X.cell? ⟨b + 4, v, none⟩ = some (.slice pv nv cv)) := fun X hX => by
        rcases hX with rfl | rfl | rfl
        · exact ⟨c50, d0⟩
        · exact ⟨(World.cell?_of_block (a := ⟨b + 5, 0, none⟩) (k1' (b + 5) (by omega))).trans c50, (World.cell?_of_block (a := ⟨b + 4, v, none⟩) (k1' (b + 4) (by omega))).trans d0⟩
        · exact ⟨(World.cell?_of_block (a := ⟨b + 5, 0, none⟩) (k2 (b + 5) (by omega))).trans c50, d2⟩
      have hbs : X0.alloc (.cells #[.int .i64 (q : Int)] 3) = X1 := hX1
      clear hown ho2 hg2 hat k2 k1' cW cT cL cZ cN cX hnv hpv
      refine region_done (by kernel_rfl) (fun kz => (#[.slice (some ⟨b + 4, 0, none⟩) m m, .int .i64 (v : Int), .slice (some ⟨b + 4, 0, none⟩) m m, .int .i64 (v : Int), .pointer (some ⟨b + 4, v, none⟩), .slice pv nv cv, .int .i64 (q : Int), .slice (some ⟨X0.heap.size, 0, none⟩) 1 1, .slice pu (nv + 1) cu, .pointer (some ⟨b + 4, v, none⟩), undef] : Array Value).getD kz undef) (fun u => { tmps := #[.pointer (some ⟨sb, 0, none⟩), .slice (some ⟨gw, off, none⟩) m c, .string s, undef, .pointer (some ⟨b, 0, none⟩), .pointer (some ⟨b + 1, 0, none⟩), .pointer (some ⟨b + 2, 0, none⟩), .pointer (some ⟨b + 3, 0, none⟩), .pointer (some ⟨b + 5, 0, none⟩), .pointer (some ⟨b + 6, 0, none⟩), .pointer (some ⟨b + 7, 0, none⟩), .pointer (some ⟨b + 8, 0, none⟩), .func (.func 35) #[] #[.pointer (some ⟨b + 10, 0, none⟩), .pointer (some ⟨b + 9, 0, none⟩)], .int .i64 (q : Int), .int .i64 (v : Int), .slice (some ⟨gw, off, none⟩) m c, .int .i64 (m : Int), .slice (some ⟨b + 4, 0, none⟩) m m, .pointer (some ⟨sb, 0, none⟩), .string s, .func (.func 35) #[] #[.pointer (some ⟨b + 10, 0, none⟩), .pointer (some ⟨b + 9, 0, none⟩)], .func (.func 35) #[] #[.pointer (some ⟨b + 10, 0, none⟩), .pointer (some ⟨b + 9, 0, none⟩)], .bool false, .func (.func 35) #[] #[.pointer (some ⟨b + 10, 0, none⟩), .pointer (some ⟨b + 9, 0, none⟩)], .int .i64 (q : Int), .int .i64 (v : Int), .int .i64 (np : Int), .int .i64 (k1 : Int), .int .i64 (v : Int), .bool false, .bool false, .int .i64 (v : Int), .slice (some ⟨gw, off, none⟩) m c, .int .i64 (m : Int), .bool false, .bool false, .bool false, .int .i64 (q : Int), .int .i64 (lp : Int), .bool false, .bool false, .bool false, .int .i64 (q : Int), .string s, .int .i64 (s.size : Int), .bool false, .bool false, .bool false, .int .i64 (q : Int), .int .i64 (lp : Int), .bool false, .bool false, undef, undef, undef, undef, undef, undef, undef, .bool false, .bool false, .bool false, .int .i64 (k1 : Int), .string s, .int .i64 (s.size : Int), .slice (some ⟨gw, off, none⟩) m c, .int .i64 (m : Int), .int .i64 (sm : Int), .bool false, .bool false, u 0, u 1, u 2, u 3, u 4, u 5, u 6, u 7, u 8, u 9, undef, undef, undef, undef, undef, undef, undef], defers := [] }) (fun k => undef) _ (Stg 7 8 10 X0 X1 X2 (X2.setCell ⟨b + 4, v, none⟩ (.slice pu (nv + 1) cu))) (fun L hL => by rw [hX0]; exact Stg.start hL) (deps_of' (by kernel_rfl)) ?_ ?_ ?_
      · intro f1 f2 hfg
        simp only [hfg 0 (by decide), hfg 1 (by decide), hfg 2 (by decide), hfg 3 (by decide), hfg 4 (by decide), hfg 5 (by decide), hfg 6 (by decide), hfg 7 (by decide), hfg 8 (by decide), hfg 9 (by decide)]
      · intro L X hS i0 hi0 hL o ho hdone u hdeps KK hKK
        rcases (show i0 = 0 ∨ i0 = 1 ∨ i0 = 2 ∨ i0 = 3 ∨ i0 = 4 ∨ i0 = 5 ∨ i0 = 6 ∨ i0 = 7 ∨ i0 = 8 ∨ i0 = 9 ∨ i0 = 10 by have : i0 < 11 := hi0; omega) with rfl | rfl | rfl | rfl | rfl | rfl | rfl | rfl | rfl | rfl | rfl
        case inr.inr.inr.inr.inr.inr.inr.inl =>
          obtain ⟨rfl, hN⟩ := hS.make (by omega) (by omega) hL
          have hKX := hKK X1 hN
          simp at ho; subst ho; simp [Region.binds] at hdeps
          simp [wpOpIn, Region.wanted, yielded, Oper.wpIn, Oper.semAt_some, execOp, Oper.uponIn, go_sem, hdeps, hbs]
          first | exact hKX | (simp [upd, hdeps] at hKX; exact hKX)
        case inr.inr.inr.inr.inr.inr.inr.inr.inl =>
          obtain ⟨rfl, hN⟩ := hS.turn (by omega) (by omega) hL (by simp at ho; subst ho; simp [Region.binds] at hdone; exact hdone.2)
          have hKX := hKK X2 hN
          simp at ho; subst ho; simp [Region.binds] at hdeps
          refine op_append rfl rfl rfl (v1 := .slice pv nv cv) (v2 := .slice (some ⟨X0.heap.size, 0, none⟩) 1 1) ?_ ?_ hrun ?_
          · simp [go_sem, hdeps]
          · simp [go_sem, hdeps]
          · first | exact hKX | (simp [upd, hdeps, go_sem] at hKX ⊢; exact hKX)
        case inr.inr.inr.inr.inr.inr.inr.inr.inr.inr =>
          simp at ho; subst ho; simp [Region.binds] at hdone hdeps
          obtain ⟨rfl, hN⟩ := hS.store hL (fun i hi => by rcases (show i = 0 ∨ i = 1 ∨ i = 2 ∨ i = 3 ∨ i = 4 ∨ i = 5 ∨ i = 6 ∨ i = 7 ∨ i = 8 ∨ i = 9 by omega) with rfl | rfl | rfl | rfl | rfl | rfl | rfl | rfl | rfl | rfl <;> simp [hdone]) (by omega)
          have hKX := hKK _ hN
          simp [wpOpIn, Region.wanted, yielded, Oper.wpIn, Oper.semAt_some, execOp, Oper.uponIn, go_sem, hdeps, d2, e2]
          first | exact hKX | (simp [upd, hdeps] at hKX; exact hKX)
        all_goals (obtain ⟨r1, r2⟩ := HRD.out X (hS.on (by omega) hL); have hKX := hKK X (fun L' hL' => hS.read (by omega) (by omega) (by omega) hL hL'); simp at ho; subst ho; simp [Region.binds] at hdeps; simp [wpOpIn, Region.wanted, yielded, Oper.wpIn, Oper.semAt_some, execOp, Oper.uponIn, go_sem, hdeps, r1, r2, hv0, hvmI, hvmN]; first | exact hKX | (simp [upd, hdeps] at hKX; exact hKX))
      · intro L X hall hS
        obtain rfl := hS.done (hall 10 (by decide))
        obtain ⟨X3, hX3⟩ : ∃ X3, X2.setCell ⟨b + 4, v, none⟩ (.slice pu (nv + 1) cu) = X3 := ⟨_, rfl⟩
        rw [hX3] at HNX ⊢
        have c6 := one_cell HNX.out.1.bl
        have f6 := one_frozen HNX.out.1.bl
        have HJ4 := Hid.mk' (HNX.out.1.putL q)
        have c7 := one_cell HJ4.out.bz
        have f7 := one_frozen HJ4.out.bz
        have cW4 : (X3.setCell ⟨b + 6, 0, none⟩ (.int .i64 (q : Int))).cell? ⟨b, 0, none⟩ = some (.slice pw m c) := (World.cell?_of_block (a := ⟨b, 0, none⟩) (HJ4.out.kp b (by omega) (by omega) (by omega) (by omega) (by omega))).trans (one_cell HF5.out.c0)
        rw [hpw] at cW4
        have cX4 : (X3.setCell ⟨b + 6, 0, none⟩ (.int .i64 (q : Int))).cell? ⟨gw, off + v, none⟩ = some (.string x) := (World.cell?_of_block (a := ⟨gw, off + v, none⟩) (HJ4.out.kp gw (by omega) (by omega) (by omega) (by omega) (by omega))).trans hcx0.out
        have HJ5 := Hid.mk' (HJ4.out.putZ x.size)
        clear hX3 hrun
        gi_wp2
        refine ⟨?_, ?_, ?_⟩
        · exact ((HK0.out.trans HNX.out.2).trans (keptW_set (by omega) _ _)).trans (keptW_set (by omega) _ _)
        · exact fun i hi => (HJ5.out.kp i (by rcases hi with rfl | rfl | rfl | rfl | rfl <;> omega) (by rcases hi with rfl | rfl | rfl | rfl | rfl <;> omega) (by rcases hi with rfl | rfl | rfl | rfl | rfl <;> omega) (by rcases hi with rfl | rfl | rfl | rfl | rfl <;> omega) (by rcases hi with rfl | rfl | rfl | rfl | rfl <;> omega)).trans (HI0.out.kp i (by rcases hi with rfl | rfl | rfl | rfl | rfl <;> omega) (by rcases hi with rfl | rfl | rfl | rfl | rfl <;> omega) (by rcases hi with rfl | rfl | rfl | rfl | rfl <;> omega) (by rcases hi with rfl | rfl | rfl | rfl | rfl <;> omega) (by rcases hi with rfl | rfl | rfl | rfl | rfl <;> omega)).symm
        · refine Exists.intro (fun j => if j = v then Value.slice pu (nv + 1) cu else rv j) ?_
          rw [HLS.out.1, HLS.out.2, List.length_append, List.length_singleton, hlen.out]
          exact HJ5.out
    · refine wpIn_region_quiet_rnd (F := Fence.wide) l rfl (by kernel_rfl) (by kernel_rfl) (by kernel_rfl) ?_
      repeat (gi_big_quiet_step (fail))
      refine wpQuietIn_nil ?_
      intro _ hwq0
      obtain ⟨nq, hwq1⟩ := hwq0
      subst hwq1
      iterate 120 (first | (with_reducible refine fo_reg 14 ?_) | go_values | gi_guarded | gi_step | gi_upon | go_simp | skip)
      apply Hid.mk'
      obtain ⟨X0, hX0⟩ : ∃ X0 : World, { (V1.drewN nq) with drawn := (V1.drewN nq).drawn + 1 } = X0 := ⟨_, rfl⟩
      have HJ := Hid.mk' ((HI1.out.drewN nq).drewN 1)
      rw [show (V1.drewN nq).drewN 1 = X0 from hX0] at HJ
      have HK0 : Hid (KeptW (b + 11) noW V X0) := by rw [← hX0]; exact Hid.mk' (⟨HK1.out.size, HK1.out.same⟩ : KeptW (b + 11) noW V { (V1.drewN nq) with drawn := (V1.drewN nq).drawn + 1 })
      obtain ⟨X1, hX1⟩ : ∃ X1, X0.alloc (.cells #[.int .i64 (q : Int)] 3) = X1 := ⟨_, rfl⟩
      have hown : X1.ownsRow (b + 11) 3 1 (rv v) (F v).length (intL (F v)) := by
        rw [← hX1]
        exact (HJ.out.rows.keep ((Below.refl _ X0).alloc (Nat.le_refl _) _)).row v hvm
      obtain ⟨pv, cv, hpv⟩ := mr_shape hown
      obtain ⟨nv, hnv⟩ : ∃ nv, (F v).length = nv := ⟨_, rfl⟩
      have hsz0 := HJ.out.siz
      obtain ⟨i0, ji, jz0, jz1, jz2⟩ := info_parts infoI
      obtain ⟨u2, X2, hrun, ho2, hg2, _, hat⟩ := run_append_own_at (P := Try.prog) X1 (b + 11) 53 53 3 i0 (.int .i64 0) 1 8 Try.underlying53 ji jz0 jz1 jz2 rfl (by decide) (rv v) (F v).length (intL (F v)) hown ⟨X0.heap.size, 0, none⟩ 1 1 [.int .i64 (q : Int)] rfl (by rw [← hX1]; exact cell_one_new _ _ _) (int_one _) (by unfold maxLen; omega) (by omega) (by rw [← hX1]; simp; omega)
      rw [← hX1] at hg2
      have HNX := Hid.mk' (HJ.out.next hvm ho2 hg2 (by rw [← hX1] at hat; simpa using hat) (G := Mn.plc (pre ++ [(q, v)])) (fun j => HPS.out j))
      obtain ⟨pu, cu, rfl⟩ := mr_shape ho2
      rw [hpv, hnv] at hrun
      rw [hnv] at HNX
      have k2 : ∀ i, i < b + 11 → X2.heap[i]? = X0.heap[i]? := fun i hi => (hg2.block i (by simp; omega) (fun e => by have := ((HJ.out.rows.row v hvm).lt i e.symm).1; omega)).trans (Below.heap_alloc _ _ _ (by omega))
      have k1' : ∀ i, i < b + 11 → X1.heap[i]? = X0.heap[i]? := fun i hi => by rw [← hX1]; exact Below.heap_alloc _ _ _ (by omega)
      obtain ⟨d0, e0⟩ := HJ.out.rows.cell v hvm
      rw [hpv, hnv] at d0
      have c50 : X0.cell? ⟨b + 5, 0, none⟩ = some (.slice (some ⟨b + 4, 0, none⟩) m m) := (World.cell?_of_block (a := ⟨b + 5, 0, none⟩) (HJ.out.kp (b + 5) (by omega) (by omega) (by omega) (by omega) (by omega))).trans (by simp [World.cell?, HF5.out.c5])
      have d2 : X2.cell? ⟨b + 4, v, none⟩ = some (.slice pv nv cv) := (World.cell?_of_block (a := ⟨b + 4, v, none⟩) (k2 (b + 4) (by omega))).trans d0
      have e2 : X2.frozen? ⟨b + 4, v, none⟩ = false := (World.frozen?_of_block (a := ⟨b + 4, v, none⟩) (k2 (b + 4) (by omega))).trans e0
      have HRD : Hid (∀ X, (X = X0 ∨ X = X1 ∨ X = X2) → X.cell? ⟨b + 5, 0, none⟩ = some (.slice (some ⟨b + 4, 0, none⟩) m m) ∧ X.cell? ⟨b + 4, v, none⟩ = some (.slice pv nv cv)) := fun X hX => by
        rcases hX with rfl | rfl | rfl
        · exact ⟨c50, d0⟩
        · exact ⟨(World.cell?_of_block (a := ⟨b + 5, 0, none⟩) (k1' (b + 5) (by omega))).trans c50, (World.cell?_of_block (a := ⟨b + 4, v, none⟩) (k1' (b + 4) (by omega))).trans d0⟩
        · exact ⟨(World.cell?_of_block (a := ⟨b + 5, 0, none⟩) (k2 (b + 5) (by omega))).trans c50, d2⟩
      have hbs : X0.alloc (.cells #[.int .i64 (q : Int)] 3) = X1 := hX1
      clear hown ho2 hg2 hat k2 k1' cW cT cL cZ cN cX hnv hpv
      refine region_done (by kernel_rfl) (fun kz => (#[.slice (some ⟨b + 4, 0, none⟩) m m, .int .i64 (v : Int), .slice (some ⟨b + 4, 0, none⟩) m m, .int .i64 (v : Int), .pointer (some ⟨b + 4, v, none⟩), .slice pv nv cv, .int .i64 (q : Int), .slice (some ⟨X0.heap.size, 0, none⟩) 1 1, .slice pu (nv + 1) cu, .pointer (some ⟨b + 4, v, none⟩), undef] : Array Value).getD kz undef) (fun u => { tmps := #[.pointer (some ⟨sb, 0, none⟩), .slice (some ⟨gw, off, none⟩) m c, .string s, undef, .pointer (some ⟨b, 0, none⟩), .pointer (some ⟨b + 1, 0, none⟩), .pointer (some ⟨b + 2, 0, none⟩), .pointer (some ⟨b + 3, 0, none⟩), .pointer (some ⟨b + 5, 0, none⟩), .pointer (some ⟨b + 6, 0, none⟩), .pointer (some ⟨b + 7, 0, none⟩), .pointer (some ⟨b + 8, 0, none⟩), .func (.func 35) #[] #[.pointer (some ⟨b + 10, 0, none⟩), .pointer (some ⟨b + 9, 0, none⟩)], .int .i64 (q : Int), .int .i64 (v : Int), .slice (some ⟨gw, off, none⟩) m c, .int .i64 (m : Int), .slice (some ⟨b + 4, 0, none⟩) m m, .pointer (some ⟨sb, 0, none⟩), .string s, .func (.func 35) #[] #[.pointer (some ⟨b + 10, 0, none⟩), .pointer (some ⟨b + 9, 0, none⟩)], .func (.func 35) #[] #[.pointer (some ⟨b + 10, 0, none⟩), .pointer (some ⟨b + 9, 0, none⟩)], .bool false, .func (.func 35) #[] #[.pointer (some ⟨b + 10, 0, none⟩), .pointer (some ⟨b + 9, 0, none⟩)], .int .i64 (q : Int), .int .i64 (v : Int), .int .i64 (np : Int), .int .i64 (k1 : Int), .int .i64 (v : Int), .bool false, .bool false, .int .i64 (v : Int), .slice (some ⟨gw, off, none⟩) m c, .int .i64 (m : Int), .bool false, .bool false, .bool false, .int .i64 (q : Int), .int .i64 (q : Int), .bool false, .bool false, .bool false, .int .i64 (q : Int), .string s, .int .i64 (s.size : Int), .bool false, .bool false, .bool false, .int .i64 (q : Int), .int .i64 (q : Int), .bool true, .bool true, .slice (some ⟨gw, off, none⟩) m c, .int .i64 (v : Int), .pointer (some ⟨gw, off + v, none⟩), .string x, .int .i64 (x.size : Int), .int .i64 (lz : Int), .bool false, .bool false, .bool false, .bool false, .int .i64 (k1 : Int), .string s, .int .i64 (s.size : Int), .slice (some ⟨gw, off, none⟩) m c, .int .i64 (m : Int), .int .i64 (sm : Int), .bool false, .bool false, u 0, u 1, u 2, u 3, u 4, u 5, u 6, u 7, u 8, u 9, undef, undef, undef, undef, undef, undef, undef], defers := [] }) (fun k => undef) _ (Stg 7 8 10 X0 X1 X2 (X2.setCell ⟨b + 4, v, none⟩ (.slice pu (nv + 1) cu))) (fun L hL => by rw [hX0]; exact Stg.start hL) (deps_of' (by kernel_rfl)) ?_ ?_ ?_
      · intro f1 f2 hfg
        simp only [hfg 0 (by decide), hfg 1 (by decide), hfg 2 (by decide), hfg 3 (by decide), hfg 4 (by decide), hfg 5 (by decide), hfg 6 (by decide), hfg 7 (by decide), hfg 8 (by decide), hfg 9 (by decide)]
      · intro L X hS i0 hi0 hL o ho hdone u hdeps KK hKK
        rcases (show i0 = 0 ∨ i0 = 1 ∨ i0 = 2 ∨ i0 = 3 ∨ i0 = 4 ∨ i0 = 5 ∨ i0 = 6 ∨ i0 = 7 ∨ i0 = 8 ∨ i0 = 9 ∨ i0 = 10 by have : i0 < 11 := hi0; omega) with rfl | rfl | rfl | rfl | rfl | rfl | rfl | rfl | rfl | rfl | rfl
        case inr.inr.inr.inr.inr.inr.inr.inl =>
          obtain ⟨rfl, hN⟩ := hS.make (by omega) (by omega) hL
          have hKX := hKK X1 hN
          simp at ho; subst ho; simp [Region.binds] at hdeps
          simp [wpOpIn, Region.wanted, yielded, Oper.wpIn, Oper.semAt_some, execOp, Oper.uponIn, go_sem, hdeps, hbs]
          first | exact hKX | (simp [upd, hdeps] at hKX; exact hKX)
        case inr.inr.inr.inr.inr.inr.inr.inr.inl =>
          obtain ⟨rfl, hN⟩ := hS.turn (by omega) (by omega) hL (by simp at ho; subst ho; simp [Region.binds] at hdone; exact hdone.2)
          have hKX := hKK X2 hN
          simp at ho; subst ho; simp [Region.binds] at hdeps
          refine op_append rfl rfl rfl (v1 := .slice pv nv cv) (v2 := .slice (some ⟨X0.heap.size, 0, none⟩) 1 1) ?_ ?_ hrun ?_
          · simp [go_sem, hdeps]
          · simp [go_sem, hdeps]
          · first | exact hKX | (simp [upd, hdeps, go_sem] at hKX ⊢; exact hKX)
        case inr.inr.inr.inr.inr.inr.inr.inr.inr.inr =>
          simp at ho; subst ho; simp [Region.binds] at hdone hdeps
          obtain ⟨rfl, hN⟩ := hS.store hL (fun i hi => by rcases (show i = 0 ∨ i = 1 ∨ i = 2 ∨ i = 3 ∨ i = 4 ∨ i = 5 ∨ i = 6 ∨ i = 7 ∨ i = 8 ∨ i = 9 by omega) with rfl | rfl | rfl | rfl | rfl | rfl | rfl | rfl | rfl | rfl <;> simp [hdone]) (by omega)
          have hKX := hKK _ hN
          simp [wpOpIn, Region.wanted, yielded, Oper.wpIn, Oper.semAt_some, execOp, Oper.uponIn, go_sem, hdeps, d2, e2]
          first | exact hKX | (simp [upd, hdeps] at hKX; exact hKX)
        all_goals (obtain ⟨r1, r2⟩ := HRD.out X (hS.on (by omega) hL); have hKX := hKK X (fun L' hL' => hS.read (by omega) (by omega) (by omega) hL hL'); simp at ho; subst ho; simp [Region.binds] at hdeps; simp [wpOpIn, Region.wanted, yielded, Oper.wpIn, Oper.semAt_some, execOp, Oper.uponIn, go_sem, hdeps, r1, r2, hv0, hvmI, hvmN]; first | exact hKX | (simp [upd, hdeps] at hKX; exact hKX))
      · intro L X hall hS
        obtain rfl := hS.done (hall 10 (by decide))
        obtain ⟨X3, hX3⟩ : ∃ X3, X2.setCell ⟨b + 4, v, none⟩ (.slice pu (nv + 1) cu) = X3 := ⟨_, rfl⟩
        rw [hX3] at HNX ⊢
        have c6 := one_cell HNX.out.1.bl
        have f6 := one_frozen HNX.out.1.bl
        have HJ4 := Hid.mk' (HNX.out.1.putL q)
        have c7 := one_cell HJ4.out.bz
        have f7 := one_frozen HJ4.out.bz
        have cW4 : (X3.setCell ⟨b + 6, 0, none⟩ (.int .i64 (q : Int))).cell? ⟨b, 0, none⟩ = some (.slice pw m c) := (World.cell?_of_block (a := ⟨b, 0, none⟩) (HJ4.out.kp b (by omega) (by omega) (by omega) (by omega) (by omega))).trans (one_cell HF5.out.c0)
        rw [hpw] at cW4
        have cX4 : (X3.setCell ⟨b + 6, 0, none⟩ (.int .i64 (q : Int))).cell? ⟨gw, off + v, none⟩ = some (.string x) := (World.cell?_of_block (a := ⟨gw, off + v, none⟩) (HJ4.out.kp gw (by omega) (by omega) (by omega) (by omega) (by omega))).trans hcx0.out
        have HJ5 := Hid.mk' (HJ4.out.putZ x.size)
        clear hX3 hrun
        gi_wp2
        refine ⟨?_, ?_, ?_⟩
        · exact ((HK0.out.trans HNX.out.2).trans (keptW_set (by omega) _ _)).trans (keptW_set (by omega) _ _)
        · exact fun i hi => (HJ5.out.kp i (by rcases hi with rfl | rfl | rfl | rfl | rfl <;> omega) (by rcases hi with rfl | rfl | rfl | rfl | rfl <;> omega) (by rcases hi with rfl | rfl | rfl | rfl | rfl <;> omega) (by rcases hi with rfl | rfl | rfl | rfl | rfl <;> omega) (by rcases hi with rfl | rfl | rfl | rfl | rfl <;> omega)).trans (HI0.out.kp i (by rcases hi with rfl | rfl | rfl | rfl | rfl <;> omega) (by rcases hi with rfl | rfl | rfl | rfl | rfl <;> omega) (by rcases hi with rfl | rfl | rfl | rfl | rfl <;> omega) (by rcases hi with rfl | rfl | rfl | rfl | rfl <;> omega) (by rcases hi with rfl | rfl | rfl | rfl | rfl <;> omega)).symm
        · refine Exists.intro (fun j => if j = v then Value.slice pu (nv + 1) cu else rv j) ?_
          rw [HLS.out.1, HLS.out.2, List.length_append, List.length_singleton, hlen.out]
          exact HJ5.out
end Go.Proofs.Ytlbfnchjbpioeaa

namespace Mn
theorem sorted_one : ∀ (l m : List Nat), l.Pairwise (· < ·) → m.Pairwise (· < ·) → (∀ x, x ∈ l ↔ x ∈ m) → l = m
  | [], [], _, _, _ => rfl
  | [], b :: m, _, _, h => absurd ((h b).2 (by simp)) (by simp)
  | a :: l, [], _, _, h => absurd ((h a).1 (by simp)) (by simp)
  | a :: l, b :: m, hl, hm, h => by
    rw [List.pairwise_cons] at hl hm
    have hab : a = b := by
      have h1 := (h a).1 (by simp)
      have h2 := (h b).2 (by simp)
      rw [List.mem_cons] at h1 h2
      rcases h1 with h1 | h1
      · exact h1
      · rcases h2 with h2 | h2
        · exact h2.symm
        · have := hm.1 a h1
          have := hl.1 b h2
          omega
    subst hab
    rw [sorted_one l m hl.2 hm.2 fun x => ?_]
    constructor
    · intro hx
      have h1 := (h x).1 (by simp [hx])
      rw [List.mem_cons] at h1
      rcases h1 with rfl | h1
      · have := hl.1 x hx
        omega
      · exact h1
    · intro hx
      have h1 := (h x).2 (by simp [hx])
      rw [List.mem_cons] at h1
      rcases h1 with rfl | h1
      · have := hm.1 x hx
        omega
      · exact h1
/-- the places behind a word, looked for alone, as far as a place -/
def alL (x s : ByteArray) (k : Nat) : List Nat := ((List.range k).filter fun a => decide (s.extract a (a + x.size) = x)).map (· + x.size)
theorem alL_next (x s : ByteArray) (k : Nat) : alL x s (k + 1) = if s.extract k (k + x.size) = x then alL x s k ++ [k + x.size] else alL x s k := by
  unfold alL
  rw [List.range_succ, List.filter_append, List.map_append]
  by_cases h : s.extract k (k + x.size) = x
  · rw [if_pos h]
    simp [h]
  · rw [if_neg h]
    simp [h]
theorem alL_skip (x s : ByteArray) (k : Nat) : ∀ d, (∀ i, i < d → s.extract (k + i) (k + i + x.size) ≠ x) → alL x s (k + d) = alL x s k
  | 0, _ => rfl
  | d + 1, h => by
    rw [← Nat.add_assoc, alL_next, if_neg (h d (by omega)), alL_skip x s k d fun i hi => h i (by omega)]
theorem alL_len (x s : ByteArray) (k : Nat) : (alL x s k).length ≤ k := by
  unfold alL
  rw [List.length_map]
  have := List.length_filter_le (fun a => decide (s.extract a (a + x.size) = x)) (List.range k)
  rw [List.length_range] at this
  exact this
theorem ext_fits {x s : ByteArray} {a : Nat} (h1 : 1 ≤ x.size) (h : s.extract a (a + x.size) = x) : a + x.size ≤ s.size := by
  have := congrArg ByteArray.size h
  rw [ByteArray.size_extract] at this
  omega
theorem plc_alone (x s : ByteArray) (h1 : 1 ≤ x.size) : plcK (Sums.bl x) (Sums.bl s) s.size = alL x s s.size := by
  apply sorted_one
  · unfold plcK
    rw [List.pairwise_map]
    refine ((List.pairwise_lt_range).filter _).imp ?_
    intro a b h
    omega
  · unfold alL
    rw [List.pairwise_map]
    refine ((List.pairwise_lt_range).filter _).imp ?_
    intro a b h
    omega
  · intro p
    unfold plcK alL
    simp only [List.mem_map, List.mem_filter, List.mem_range, decide_eq_true_eq]
    constructor
    · rintro ⟨j, ⟨hj, t, ht⟩, rfl⟩
      have hl := congrArg List.length ht
      rw [List.length_append, List.length_take, Sums.bl_length, Sums.bl_length] at hl
      refine ⟨t.length, ⟨by omega, Sums.bl_inj ?_⟩, by omega⟩
      rw [Sums.bl_extract, show t.length + x.size = j + 1 by omega, ← ht, List.drop_left]
    · rintro ⟨a, ⟨ha, he⟩, rfl⟩
      have hf := ext_fits h1 he
      refine ⟨a + x.size - 1, ⟨by omega, ?_⟩, by omega⟩
      have hb := congrArg Sums.bl he
      rw [Sums.bl_extract] at hb
      rw [show a + x.size - 1 + 1 = a + x.size by omega, ← hb]
      exact List.drop_suffix _ _
end Mn
namespace Go.Proofs.Ytlbfnchjbpioeaa
open Go.RowKit Go.Shelf
set_option linter.unusedVariables false
set_option maxHeartbeats 1000000 in
theorem same_emp (p1 p2 : Option Addr) (c1 c2 : Nat) (w : World) : Calls Try.prog 22 #[.slice p1 0 c1, .slice p2 0 c2] w fun e w' => e = .returned (.bool true) ∧ ∃ n, w' = w.drewN n := by
  go_enter Try.func22, Try.ntmps22
  go_wp2_with fail
  refine wp_loop_rounds 1 ?_
  rw [rounds_succ]
  go_wp2_with fail
  go_ret
  exact ⟨rfl, 0, rfl⟩
set_option maxHeartbeats 1000000 in
theorem same_cel (g1 g2 c1 c2 n : Nat) (f : Nat → Nat) (w : World) (hn : n ≤ 1125899906842624) (h1 : ∀ i, i < n → w.cell? ⟨g1, i, none⟩ = some (.int .i64 (f i : Int))) (h2 : ∀ i, i < n → w.cell? ⟨g2, i, none⟩ = some (.int .i64 (f i : Int))) :
    Calls Try.prog 22 #[.slice (some ⟨g1, 0, none⟩) n c1, .slice (some ⟨g2, 0, none⟩) n c2] w fun e w' => e = .returned (.bool true) ∧ ∃ n, w' = w.drewN n := by
  have H1 := Hid.mk' h1
  have H2 := Hid.mk' h2
  clear h1 h2
  have hne : ((n : Int) != (n : Int)) = false := by simp
  go_enter Try.func22, Try.ntmps22
  go_wp2_with fail
  go_loopw [5] (fun i wr => ∃ k : Nat, k ≤ n ∧ i = .int .i64 (k : Int) ∧ Hid (∃ n, wr = w.drewN n)) (fun i _ => n - (intOf i).toNat)
  case atStart => exact ⟨0, by omega, rfl, 0, rfl⟩
  case round =>
    obtain ⟨k, hk, rfl, HW⟩ := hrel
    by_cases hlt : k < n
    · have hlI : (k : Int) < (n : Int) := by omega
      have k1 : wr.cell? ⟨g1, k, none⟩ = some (.int .i64 (f k : Int)) := by obtain ⟨n, rfl⟩ := HW.out; exact H1.out k hlt
      have k2 : wr.cell? ⟨g2, k, none⟩ = some (.int .i64 (f k : Int)) := by obtain ⟨n, rfl⟩ := HW.out; exact H2.out k hlt
      generalize f k = x at *
      have hne2 : ((x : Int) != (x : Int)) = false := by simp
      go_wp2_with fail
      go_quiet (fail)
      have HW3 : Hid (∃ n, wr.drewN nq = w.drewN n) := by obtain ⟨n, rfl⟩ := HW.out; exact ⟨n + nq, World.drewN_drewN _ _ _⟩
      generalize wr.drewN nq = W3 at *
      go_wp2_with fail
      go_roundw
      case rel => exact ⟨k + 1, by omega, by simp, HW3.out⟩
      case measure => simp [intOf]; omega
    · have hlI : ¬ (k : Int) < (n : Int) := by omega
      go_wp2_with fail
      go_ret
      exact ⟨rfl, HW.out⟩
theorem own_ints {w : World} {b : Nat} {v : Value} {l : List Nat} (h : w.ownsRow b 3 1 v l.length (intL l)) : (v = .slice none 0 0 ∧ l = []) ∨ ∃ g c, v = .slice (some ⟨g, 0, none⟩) l.length c ∧ b ≤ g ∧ g < w.heap.size ∧ ∀ i, i < l.length → w.cell? ⟨g, i, none⟩ = some (.int .i64 (l.getD i 0 : Int)) := by
  rcases h.2 with ⟨rfl, h0⟩ | ⟨g, cap, cur, rfl, hb, hg, _⟩
  · exact .inl ⟨rfl, List.length_eq_zero_iff.1 h0⟩
  · refine .inr ⟨g, cap, rfl, hb, (Array.getElem?_eq_some_iff.1 hg).1, fun i hi => ?_⟩
    have c := h.cells (g := g) rfl i (.int .i64 (l.getD i 0 : Int)) (by
      unfold intL
      rw [List.getElem?_map, List.getElem?_eq_getElem hi, List.getD_eq_getElem?_getD, List.getElem?_eq_getElem hi]
      rfl)
    rw [Addr.add_lit, Nat.zero_add] at c
    exact c
/-- two rows of one list; a row that is nil is one only if the list is empty -/
theorem sameInts_any (b1 b2 : Nat) (v1 v2 : Value) (l : List Nat) (w : World) (hl : l.length ≤ 1125899906842624) (h1 : w.ownsRow b1 3 1 v1 l.length (intL l)) (h2 : w.ownsRow b2 3 1 v2 l.length (intL l)) :
    Calls Try.prog 22 #[v1, v2] w fun e w' => e = .returned (.bool true) ∧ ∃ n, w' = w.drewN n := by
  by_cases h0 : l = []
  · subst h0
    obtain ⟨p1, c1, rfl⟩ := mr_shape h1
    obtain ⟨p2, c2, rfl⟩ := mr_shape h2
    exact same_emp p1 p2 c1 c2 w
  · rcases own_ints h1 with ⟨_, e⟩ | ⟨g1, c1, rfl, _, _, k1⟩
    · exact absurd e h0
    · rcases own_ints h2 with ⟨_, e⟩ | ⟨g2, c2, rfl, _, _, k2⟩
      · exact absurd e h0
      · exact same_cel g1 g2 c1 c2 l.length (fun i => l.getD i 0) w hl k1 k2
end Go.Proofs.Ytlbfnchjbpioeaa

namespace Mn
theorem seen_plc (l : List (Nat × Nat)) (i : Nat) : seen l i = decide (0 < (plc l i).length) := by
  unfold seen plc
  rw [List.length_map]
  by_cases h : (l.any fun x => x.2 == i) = true
  · rw [h]
    obtain ⟨x, h1, h2⟩ := List.any_eq_true.1 h
    have := List.length_pos_of_mem (List.mem_filter (p := fun x => x.2 == i).2 ⟨h1, h2⟩)
    exact (decide_eq_true this).symm
  · rw [Bool.not_eq_true] at h
    rw [h]
    have : l.filter (fun x => x.2 == i) = [] := by
      rw [List.filter_eq_nil_iff]
      intro x hx hx2
      have := List.any_eq_false.1 h x hx
      exact this hx2
    rw [this]
    rfl
def cntK (l : List (Nat × Nat)) (i : Nat) : Nat := ((List.range i).filter fun j => seen l j).length
theorem cntK_next (l : List (Nat × Nat)) (i : Nat) : cntK l (i + 1) = if seen l i = true then cntK l i + 1 else cntK l i := by
  unfold cntK
  rw [List.range_succ, List.filter_append, List.length_append]
  by_cases h : seen l i = true
  · rw [if_pos h]
    simp [h]
  · rw [if_neg h]
    simp [h]
theorem hasL_split (W : List (List Nat)) (T : List Nat) (i : Nat) (hi : i ≤ 64) : hasL W T = ((List.range i).filter fun j => seen (allF W T) j) ++ ((List.range (64 - i)).map (i + ·)).filter fun j => seen (allF W T) j := by
  unfold hasL
  rw [← List.filter_append, ← List.range_add]
  congr 2
  omega
theorem hasL_at (W : List (List Nat)) (T : List Nat) (i : Nat) (hi : i < 64) (h : seen (allF W T) i = true) : (hasL W T)[cntK (allF W T) i]? = some i := by
  rw [hasL_split W T i (by omega), List.getElem?_append_right (by unfold cntK; omega)]
  unfold cntK
  rw [Nat.sub_self]
  obtain ⟨d, hd⟩ : ∃ d, 64 - i = d + 1 := ⟨63 - i, by omega⟩
  rw [hd, List.range_succ_eq_map, List.map_cons, List.filter_cons_of_pos (by simpa using h)]
  simp
theorem hasL_len (W : List (List Nat)) (hn : W.Nodup) (T : List Nat) (hW : W.length ≤ 64) : (hasL W T).length = cntK (allF W T) W.length := by
  rw [hasL_split W T W.length hW, List.length_append]
  have : (((List.range (64 - W.length)).map (W.length + ·)).filter fun j => seen (allF W T) j) = [] := by
    rw [List.filter_eq_nil_iff]
    intro j hj hs
    obtain ⟨d, _, rfl⟩ := List.mem_map.1 hj
    obtain ⟨⟨q, v⟩, h1, h2⟩ := List.any_eq_true.1 hs
    have h3 := (all_lt hn h1).1
    have h4 : v = W.length + d := by simpa using h2
    omega
  rw [this]
  rfl
theorem fst_zero {W : List (List Nat)} (T : List Nat) : Fs W T 0 (fstF (nsOf W) W T [] 0 0 (-1)).1 (fstF (nsOf W) W T [] 0 0 (-1)).2 := by
  have h := fst_right (nsOf_tr W) (nsOf_word (W := W)) T 0 (T.drop 0) 0 0 (-1) rfl (Nat.le_refl _) (Nat.zero_le _) (Fi.start W T 0)
  exact h
theorem any_has {W : List (List Nat)} (hn : W.Nodup) (hW : W.length ≤ 64) (T : List Nat) : decide ((fstF (nsOf W) W T [] 0 0 (-1)).2 ≠ -1) = decide (0 < (hasL W T).length) := by
  have hF := fst_zero (W := W) T
  have hmem : ∀ v, v ∈ hasL W T ↔ v < 64 ∧ ∃ q, (q, v) ∈ allF W T := by
    intro v
    unfold hasL
    rw [List.mem_filter, List.mem_range]
    constructor
    · rintro ⟨h1, h2⟩
      obtain ⟨⟨q, u⟩, h3, h4⟩ := List.any_eq_true.1 h2
      have h5 : u = v := by simpa using h4
      subst h5
      exact ⟨h1, q, h3⟩
    · rintro ⟨h1, q, h2⟩
      exact ⟨h1, List.any_eq_true.2 ⟨(q, v), h2, by simp⟩⟩
  by_cases h : (fstF (nsOf W) W T [] 0 0 (-1)).2 = -1
  · have h1 : hasL W T = [] := by
      rw [List.eq_nil_iff_forall_not_mem]
      intro v hv
      obtain ⟨_, q, h2⟩ := (hmem v).1 hv
      exact hF.none_ h _ _ (Nat.zero_le _) (all_occ hn h2).2
    rw [h, h1]
    rfl
  · have hge := hF.ge
    obtain ⟨v, hv⟩ := Int.eq_ofNat_of_zero_le (show 0 ≤ (fstF (nsOf W) W T [] 0 0 (-1)).2 by omega)
    have h2 := (hF.some_ v hv).2.1
    have h3 := occ_all hn h2
    have h4 := (all_lt hn h3).1
    have h5 := List.length_pos_of_mem ((hmem v).2 ⟨by omega, _, h3⟩)
    rw [decide_eq_true h, decide_eq_true h5]
end Mn
namespace Go.Proofs.Ytlbfnchjbpioeaa
open Go.RowKit Go.Shelf
set_option linter.unusedVariables false
/-- it is kept where what lies there is kept -/
def KeptA (K : World → Prop) : Prop := ∀ V V', Below V.heap.size V V' → K V → K V'
structure AlW (K : World → Prop) (b : Nat) (w V : World) : Prop where
  bel : Below b w V
  siz : b ≤ V.heap.size
  kp : KeptA K
  ex : K V
section
variable {K : World → Prop} {b : Nat} {w V V' : World} {fold : Bool}
theorem AlW.keep (h : AlW K b w V) (hb : Below V.heap.size V V') : AlW K b w V' :=
  ⟨h.bel.trans ⟨hb.os, hb.tape, hb.output, hb.size, fun k hk => hb.block k (by have := h.siz; omega)⟩, Nat.le_trans h.siz hb.size, h.kp, h.kp _ _ hb h.ex⟩
theorem AlW.drew (h : AlW K b w V) (e : ∃ j, V' = V.drewN j) : AlW K b w V' := by
  obtain ⟨j, rfl⟩ := e
  exact h.keep ((Below.refl _ V).drewN' j)
theorem AlW.more {K' : World → Prop} (h : AlW K b w V) (hk : KeptA K') (hx : K' V) : AlW (fun V => K V ∧ K' V) b w V :=
  ⟨h.bel, h.siz, fun V V' hb hx => ⟨h.kp V V' hb hx.1, hk V V' hb hx.2⟩, h.ex, hx⟩
theorem kept_str (p : Option Addr) (R : List ByteArray) : KeptA (fun V => StrAt V p R) := fun V V' hb h => h.keep hb
theorem kept_many (sb : Nat) (W : List (List Nat)) (fold : Bool) : KeptA (fun V => ∃ B, ManyM B sb W fold V) := fun V V' hb ⟨B, h⟩ => ⟨B, h.keep hb⟩
theorem kept_rows (base o m : Nat) (F : Nat → List Nat) (v : Nat → Value) : KeptA (fun V => RowsM base o m F v V) := fun V V' hb h => h.keep hb
theorem kept_row (B n : Nat) (t : TypeId) (v : Value) (xs : List Value) : KeptA (fun V => V.ownsRow B t 1 v n xs) := fun V V' hb h => mr_kept h fun k hk => hb.block k (h.lt k hk).2
theorem al_fits (p : Option Addr) (cap n : Nat) (R : List ByteArray) (hn : R.length = n) (h : AlW K b w V) (hs : StrAt V p R) (hl : n ≤ 1125899906842624) (hR : ∀ x ∈ R, x.size ≤ 1125899906842624) {L : List ByteArray} (hL : Mn.fitL fold R = L) {m : Nat} (hm : L.length = m) (h0 : 0 < m) :
    Calls Try.prog 17 #[.slice p n cap, .bool fold] V fun e w' => ∃ gw c, e = .returned (.slice (some ⟨gw, 0, none⟩) m c) ∧ m ≤ c ∧ c ≤ 9223372036854775807 ∧ AlW (fun V => K V ∧ StrAt V (some ⟨gw, 0, none⟩) L) b w w' := by
  subst hn hL
  refine (fits_any p cap R fold V hs hl hR).mono ?_
  rintro e w' ⟨q, c, rfl, ho, hb⟩
  rcases ho.2 with ⟨_, h1⟩ | ⟨g, cap', cur, h1, h2, h3, h4, h5, _⟩
  · omega
  · simp only [Value.slice.injEq] at h1
    obtain ⟨rfl, _, rfl⟩ := h1
    refine ⟨g, c, by rw [hm], by omega, by unfold maxLen at h5; omega, (h.keep hb).more (kept_str _ _) (str_at ho rfl)⟩
theorem al_new (q : Option Addr) (c : Nat) {L : List ByteArray} {m : Nat} (hm : L.length = m) (h : AlW K b w V) (hs : StrAt V q L) (hg : Mn.Good fold L) (hz : ∀ x ∈ L, x.size ≤ 1125899906842624) (hc : m ≤ c) (hcm : c ≤ 9223372036854775807) :
    Calls Try.prog 9 #[.slice q m c, .bool fold] V fun e w' => ∃ sb, e = .returned (.tuple #[.pointer (some ⟨sb, 0, none⟩), .int .i64 0, .int .i64 0]) ∧ AlW (fun V => K V ∧ ∃ B, ManyM B sb (Mn.wds fold L) fold V) b w w' := by
  subst hm
  refine (new_any q c L fold V hs hg.some_ hg.few hc hcm hz).mono ?_
  rintro e w' ⟨hB, h1⟩
  rcases h1 with ⟨k, hk, h2, _⟩ | ⟨_, sb, rfl, hm⟩
  · rw [hg.none_ k hk] at h2
    cases h2
  · exact ⟨sb, rfl, (h.keep hB).more (kept_many _ _ _) ⟨_, hm⟩⟩
theorem al_found (sb : Nat) (q : Option Addr) (c : Nat) (s : ByteArray) {L : List ByteArray} {m : Nat} (hm : L.length = m) (h : AlW K b w V) (hM : ∃ B, ManyM B sb (Mn.wds fold L) fold V) (hs : StrAt V q L) (hg : Mn.Good fold L) (hz : s.size ≤ 4294967296) :
    Calls Try.prog 21 #[.pointer (some ⟨sb, 0, none⟩), .slice q m c, .string s] V fun e w' => ∃ o base v, e = .returned (.tuple #[.slice (some ⟨o, 0, none⟩) m m, .bool true]) ∧ AlW (fun V => K V ∧ RowsM base o m (Mn.plc (Mn.allF (Mn.wds fold L) (tx fold s))) v V) b w w' := by
  obtain ⟨B, hM⟩ := hM
  refine (found_any B sb q c m L fold s V hM hs hm hg hz).mono ?_
  rintro e w' ⟨v, rfl, hr, hb⟩
  exact ⟨_, _, v, rfl, (h.keep hb).more (kept_rows _ _ _ _ _) hr⟩
end
end Go.Proofs.Ytlbfnchjbpioeaa

namespace Mn
theorem map_getD (fold : Bool) (L : List ByteArray) (i : Nat) (hi : i < L.length) : (L.map (fd fold)).getD i ByteArray.empty = fd fold (L.getD i ByteArray.empty) := by
  rw [List.getD_eq_getElem?_getD, List.getElem?_map, List.getElem?_eq_getElem hi, List.getD_eq_getElem?_getD, List.getElem?_eq_getElem hi]
  rfl
theorem any_occB {fold : Bool} {L : List ByteArray} {s : ByteArray} {i : Nat} (hi : i < L.length) (h1 : 1 ≤ (L.getD i ByteArray.empty).size) : anyB (fd fold (L.getD i ByteArray.empty)) (fd fold s) (fd fold s).size = true ↔ ∃ a, Occ (wds fold L) ((Sums.bl s).map (lf fold)) a i := by
  unfold anyB
  rw [List.any_eq_true]
  constructor
  · rintro ⟨a, _, h2⟩
    exact ⟨a, (stB_occ hi h1).1 h2⟩
  · rintro ⟨a, h2⟩
    have h3 := (occ_len h2)
    rw [List.length_map, Sums.bl_length] at h3
    refine ⟨a, List.mem_range.2 (by rw [fd_size]; omega), (stB_occ hi h1).2 h2⟩
theorem seen_occ {W : List (List Nat)} (hn : W.Nodup) {T : List Nat} {i : Nat} : seen (allF W T) i = true ↔ ∃ a, Occ W T a i := by
  unfold seen
  rw [List.any_eq_true]
  constructor
  · rintro ⟨⟨q, v⟩, h1, h2⟩
    have h3 : v = i := by simpa using h2
    subst h3
    exact ⟨_, (all_occ hn h1).2⟩
  · rintro ⟨a, h⟩
    exact ⟨_, occ_all hn h, by simp⟩
theorem hasK_hasL {fold : Bool} {L : List ByteArray} (hg : Good fold L) (s : ByteArray) : hasK (L.map (fd fold)) (fd fold s) L.length = hasL (wds fold L) ((Sums.bl s).map (lf fold)) := by
  have hn := hg.nodup
  rw [hasL_split (wds fold L) _ L.length hg.few]
  have h2 : (((List.range (64 - L.length)).map (L.length + ·)).filter fun j => seen (allF (wds fold L) ((Sums.bl s).map (lf fold))) j) = [] := by
    rw [List.filter_eq_nil_iff]
    intro j hj hs
    obtain ⟨d, _, rfl⟩ := List.mem_map.1 hj
    obtain ⟨⟨q, v⟩, h1, h2⟩ := List.any_eq_true.1 hs
    have h3 := (all_lt hn h1).1
    have h4 : v = L.length + d := by simpa using h2
    rw [wds_len] at h3
    omega
  rw [h2, List.append_nil]
  unfold hasK
  apply List.filter_congr
  intro i hi
  have hi2 := List.mem_range.1 hi
  rw [map_getD fold L i hi2]
  have h3 := any_occB (fold := fold) (s := s) hi2 (hg.fits i hi2).1
  rw [← seen_occ hn] at h3
  rw [Bool.eq_iff_iff]
  exact h3
/-- the longest word that stands at a place, of the first j -/
def bstF (D : List ByteArray) (t : ByteArray) (a : Nat) : Nat → Int
  | 0 => -1
  | j + 1 => if stB (D.getD j ByteArray.empty) t a = true ∧ (bstF D t a j < 0 ∨ (D.getD (bstF D t a j).toNat ByteArray.empty).size < (D.getD j ByteArray.empty).size) then (j : Int) else bstF D t a j
theorem bstF_in (D : List ByteArray) (t : ByteArray) (a : Nat) : ∀ j, -1 ≤ bstF D t a j ∧ bstF D t a j < (j : Int)
  | 0 => by simp [bstF]
  | j + 1 => by
    have := bstF_in D t a j
    rw [bstF]
    split <;> omega
theorem bstF_none (D : List ByteArray) (t : ByteArray) (a : Nat) : ∀ j, bstF D t a j < 0 → ∀ i, i < j → stB (D.getD i ByteArray.empty) t a = false
  | 0, _, i, hi => by omega
  | j + 1, h, i, hi => by
    rw [bstF] at h
    split at h
    · omega
    · rename_i hc
      rcases Nat.lt_or_ge i j with h1 | h1
      · exact bstF_none D t a j h i h1
      · have e : i = j := by omega
        subst e
        cases e2 : stB (D.getD i ByteArray.empty) t a with
        | false => rfl
        | true => exact absurd ⟨e2, .inl h⟩ hc
theorem bstF_some (D : List ByteArray) (t : ByteArray) (a : Nat) : ∀ j (v : Nat), bstF D t a j = (v : Int) → stB (D.getD v ByteArray.empty) t a = true ∧ ∀ i, i < j → stB (D.getD i ByteArray.empty) t a = true → (D.getD i ByteArray.empty).size ≤ (D.getD v ByteArray.empty).size
  | 0, v, h => by simp [bstF] at h
  | j + 1, v, h => by
    rw [bstF] at h
    split at h
    · rename_i hc
      have e : v = j := by omega
      subst e
      refine ⟨hc.1, fun i hi hs => ?_⟩
      rcases Nat.lt_or_ge i v with h1 | h1
      · rcases hc.2 with h2 | h2
        · rw [bstF_none D t a v h2 i h1] at hs
          cases hs
        · by_cases h3 : bstF D t a v < 0
          · rw [bstF_none D t a v h3 i h1] at hs
            cases hs
          · obtain ⟨u, hu⟩ := Int.eq_ofNat_of_zero_le (show 0 ≤ bstF D t a v by omega)
            have h4 := (bstF_some D t a v u hu).2 i h1 hs
            rw [hu, Int.toNat_natCast] at h2
            omega
      · have e : i = v := by omega
        subst e
        exact Nat.le_refl _
    · rename_i hc
      obtain ⟨h1, h2⟩ := bstF_some D t a j v h
      refine ⟨h1, fun i hi hs => ?_⟩
      rcases Nat.lt_or_ge i j with h3 | h3
      · exact h2 i h3 hs
      · have e : i = j := by omega
        subst e
        rcases Nat.lt_or_ge (D.getD v ByteArray.empty).size (D.getD i ByteArray.empty).size with h4 | h4
        · exact absurd ⟨hs, .inr (by rw [h, Int.toNat_natCast]; exact h4)⟩ hc
        · exact h4
/-- First tells one thing alone -/
theorem fs_one {W : List (List Nat)} (hn : W.Nodup) {T : List Nat} {k p p' : Nat} {f f' : Int} (h : Fs W T k p f) (h' : Fs W T k p' f') : f = f' ∧ (f ≠ -1 → p = p') := by
  have g1 := h.ge
  have g2 := h'.ge
  by_cases e : f = -1
  · by_cases e' : f' = -1
    · exact ⟨by rw [e, e'], fun q => absurd e q⟩
    · obtain ⟨v, hv⟩ := Int.eq_ofNat_of_zero_le (show 0 ≤ f' by omega)
      have h1 := h'.some_ v hv
      exact absurd h1.2.1 (h.none_ e _ _ h1.1)
  · obtain ⟨v, hv⟩ := Int.eq_ofNat_of_zero_le (show 0 ≤ f by omega)
    obtain ⟨a1, a2, a3⟩ := h.some_ v hv
    by_cases e' : f' = -1
    · exact absurd a2 (h'.none_ e' _ _ a1)
    · obtain ⟨v', hv'⟩ := Int.eq_ofNat_of_zero_le (show 0 ≤ f' by omega)
      obtain ⟨b1, b2, b3⟩ := h'.some_ v' hv'
      have c1 := a3 p' v' b1 b2
      have c2 := b3 p v a1 a2
      have hp : p = p' := by omega
      subst hp
      have hl : (W.getD v []).length = (W.getD v' []).length := by omega
      obtain ⟨_, d1, d2, _⟩ := occ_get a2
      obtain ⟨_, d3, d4, _⟩ := occ_get b2
      have hw : W.getD v [] = W.getD v' [] := by
        rw [List.prefix_iff_eq_take.1 d2, List.prefix_iff_eq_take.1 d4, hl]
      have hvv : v = v' := by
        rw [hw] at d1
        have x1 := (List.getElem?_eq_some_iff.1 d1)
        have x2 := (List.getElem?_eq_some_iff.1 d3)
        obtain ⟨y1, z1⟩ := x1
        obtain ⟨y2, z2⟩ := x2
        exact (List.getElem_inj hn).1 (z1.trans z2.symm)
      rw [hv, hv', hvv]
      exact ⟨rfl, fun _ => rfl⟩
end Mn

namespace Mn
/-- none stands from k0 up to a -/
def NoB (D : List ByteArray) (t : ByteArray) (k0 a : Nat) : Prop := ∀ p, k0 ≤ p → p < a → ∀ i, i < D.length → stB (D.getD i ByteArray.empty) t p = false
theorem fs_of_some {fold : Bool} {L : List ByteArray} (hg : Good fold L) (s : ByteArray) {k0 a v : Nat} (hk : k0 ≤ a) (hno : NoB (L.map (fd fold)) (fd fold s) k0 a) (h : bstF (L.map (fd fold)) (fd fold s) a L.length = (v : Int)) : Fs (wds fold L) ((Sums.bl s).map (lf fold)) k0 a (v : Int) := by
  have hin := (bstF_in (L.map (fd fold)) (fd fold s) a L.length).2
  have hv : v < L.length := by omega
  obtain ⟨h1, h2⟩ := bstF_some _ _ _ _ _ h
  rw [map_getD fold L v hv] at h1 h2
  have hlen : ∀ j, j < L.length → ((wds fold L).getD j []).length = (fd fold (L.getD j ByteArray.empty)).size := fun j hj => by
    rw [List.getD_eq_getElem?_getD, wds_get fold L j hj, Option.getD_some, Sums.bl_length]
  refine ⟨fun e => by omega, fun u hu => ?_, by omega⟩
  have e : u = v := by omega
  subst e
  refine ⟨hk, (stB_occ hv (hg.fits _ hv).1).1 h1, fun p j hp ho => ?_⟩
  have hj : j < L.length := by
    have := (List.getElem?_eq_some_iff.1 (occ_get ho).2.1).1
    rwa [wds_len] at this
  have hs := (stB_occ (fold := fold) (s := s) hj (hg.fits _ hj).1).2 ho
  rcases Nat.lt_trichotomy a p with h3 | h3 | h3
  · exact .inl h3
  · subst h3
    refine .inr ⟨rfl, ?_⟩
    rw [hlen j hj, hlen u hv]
    have := h2 j hj (by rw [map_getD fold L j hj]; exact hs)
    rw [map_getD fold L j hj] at this
    exact this
  · have := hno p hp h3 j (by rw [List.length_map]; exact hj)
    rw [map_getD fold L j hj, hs] at this
    cases this
theorem fs_of_none {fold : Bool} {L : List ByteArray} (hg : Good fold L) (s : ByteArray) {k0 a p : Nat} (ha : (fd fold s).size ≤ a) (hno : NoB (L.map (fd fold)) (fd fold s) k0 a) : Fs (wds fold L) ((Sums.bl s).map (lf fold)) k0 p (-1) := by
  refine ⟨fun _ b j hb ho => ?_, fun v hv => by omega, by omega⟩
  have hj : j < L.length := by
    have := (List.getElem?_eq_some_iff.1 (occ_get ho).2.1).1
    rwa [wds_len] at this
  have hs := (stB_occ (fold := fold) (s := s) hj (hg.fits _ hj).1).2 ho
  have hl := occ_len ho
  rw [List.length_map, Sums.bl_length] at hl
  rw [fd_size] at ha
  have := hno b hb (by omega) j (by rw [List.length_map]; exact hj)
  rw [map_getD fold L j hj, hs] at this
  cases this
end Mn
namespace Go.Proofs.Ytlbfnchjbpioeaa
open Go.RowKit Go.Shelf
set_option linter.unusedVariables false
set_option maxRecDepth 100000 in
set_option maxHeartbeats 2000000 in
theorem refFirst_any (g n c : Nat) (q : Option Addr) (fold : Bool) (D : List ByteArray) (s : ByteArray) (frm : Int) (w : World) (hst : w.heap[g]? = some (.cells #[.slice q n c, .bool fold] 64 (0, 0))) (h : StrAt w q D) (hn : D.length = n) (h64 : n ≤ 64) (hz : ∀ x ∈ D, x.size ≤ 256) (hs : s.size ≤ 4294967296) (hf1 : -9223372036854775808 ≤ frm) (hf2 : frm ≤ 9223372036854775807) :
    Calls Try.prog 32 #[.pointer (some ⟨g, 0, none⟩), .string s, .int .i64 frm] w fun e w' => ((∃ a v : Nat, e = .returned (.tuple #[.int .i64 (a : Int), .int .i64 (v : Int), .bool true]) ∧ frm.toNat ≤ a ∧ Mn.NoB D (Mn.fd fold s) frm.toNat a ∧ Mn.bstF D (Mn.fd fold s) a n = (v : Int)) ∨ (e = .returned (.tuple #[.int .i64 0, .int .i64 0, .bool false]) ∧ ∃ a, (Mn.fd fold s).size ≤ a ∧ Mn.NoB D (Mn.fd fold s) frm.toNat a)) ∧ Below w.heap.size w w' := by
  obtain ⟨b, hb⟩ : ∃ b, w.heap.size = b := ⟨_, rfl⟩
  obtain ⟨t, ht⟩ : ∃ t, Mn.fd fold s = t := ⟨_, rfl⟩
  have hts : t.size ≤ 4294967296 := by rw [← ht, Mn.fd_size]; exact hs
  have HFO := Hid.mk' (fun V => folded_any s fold V (by omega))
  rw [ht] at HFO ⊢
  have HST := Hid.mk' hst
  have HS := Hid.mk' h
  have HN := Hid.mk' hn
  have HZ := Hid.mk' hz
  have HGL : Hid (g < b) := Hid.mk' (by rw [← hb]; exact (Array.getElem?_eq_some_iff.1 hst).1)
  have c0 : w.cell? ⟨g, 1, none⟩ = some (.bool fold) := by simp [World.cell?, hst]
  have HC : Hid (∀ V, Below b w V → V.cell? ⟨g, 0, none⟩ = some (.slice q n c)) := fun V hV => (World.cell?_of_block (a := ⟨g, 0, none⟩) (hV.block g HGL.out)).trans (by simp [World.cell?, HST.out])
  have HD : Hid (∀ V i, Below b w V → i < n → ∃ gq off, q = some ⟨gq, off, none⟩ ∧ V.cell? ⟨gq, off + i, none⟩ = some (.string (D.getD i ByteArray.empty))) := fun V i hV hi => (HS.out.keep (w' := V) (by rw [hb]; exact hV)) i (by rw [HN.out]; exact hi)
  obtain ⟨k0, hk0⟩ : ∃ k0, frm.toNat = k0 := ⟨_, rfl⟩
  have hmx : max frm 0 = (k0 : Int) := by omega
  have hk0b : k0 ≤ 9223372036854775807 := by omega
  rw [hb, hk0]
  clear hst h hn hz ht hk0
  go_enter Try.func32, Try.ntmps32
  go_wp2_with (first
    | (go_at_call 28; refine (HFO.out _).mono ?_; rintro e w1 ⟨rfl, hb1⟩; have HB1 : Hid (Below b w w1) := Hid.mk' (by rw [← hb]; exact hb1); clear hb1 HFO)
    | fail)
  go_loopw [10, 11, 12, 13] (fun av wv iv sv wr => ∃ a : Nat, av = .int .i64 (a : Int) ∧ k0 ≤ a ∧ a ≤ 9223372036854775807 ∧ Hid (Mn.NoB D t k0 a) ∧ Hid (∃ e, wr = w1.drewN e)) (fun av wv iv sv _ => t.size - (intOf av).toNat)
  case atStart => exact ⟨k0, rfl, Nat.le_refl _, hk0b, fun p h1 h2 => by omega, 0, rfl⟩
  case round =>
    obtain ⟨a, rfl, hka, hab, hno, hdr⟩ := hrel
    rename World => wr
    have HBR : Hid (Below b w wr) := Hid.mk' (by obtain ⟨e, rfl⟩ := hdr.out; exact HB1.out.drewN' e)
    by_cases hat : a < t.size
    · have hatI : (a : Int) < (t.size : Int) := by omega
      go_wp2_with fail
      go_loopw [11, 12, 13] (fun wv iv sv wx => ∃ i : Nat, wv = .int .i64 (Mn.bstF D t a i) ∧ iv = .int .i64 (i : Int) ∧ i ≤ n ∧ Hid (∃ e, wx = w1.drewN e)) (fun wv iv sv _ => n - (intOf iv).toNat)
      case atStart => exact ⟨0, rfl, rfl, Nat.zero_le _, hdr⟩
      case round =>
        obtain ⟨i, rfl, rfl, hi, hdx⟩ := hrel
        rename World => wx
        have HBX0 : Hid (Below b w wx) := Hid.mk' (by obtain ⟨e, rfl⟩ := hdx.out; exact HB1.out.drewN' e)
        have HDN : Hid (∀ e, ∃ e2, wx.drewN e = w1.drewN e2) := fun e => by obtain ⟨e3, rfl⟩ := hdx.out; exact ⟨e3 + e, by rw [World.drewN_drewN]⟩
        have cW := HC.out wx HBX0.out
        have hbi := Mn.bstF_in D t a i
        have hbx : Mn.bstF D t a (i + 1) = if Mn.stB (D.getD i ByteArray.empty) t a = true ∧ (Mn.bstF D t a i < 0 ∨ (D.getD (Mn.bstF D t a i).toNat ByteArray.empty).size < (D.getD i ByteArray.empty).size) then (i : Int) else Mn.bstF D t a i := by rw [Mn.bstF]
        obtain ⟨f, hf⟩ : ∃ f, Mn.bstF D t a i = f := ⟨_, rfl⟩
        by_cases hin : i < n
        · have hinI : (i : Int) < (n : Int) := by omega
          rw [hf] at hbi hbx ⊢
          obtain ⟨gq, off, hq, hcx⟩ := HD.out wx i HBX0.out hin
          obtain ⟨x, hx⟩ : ∃ x, D.getD i ByteArray.empty = x := ⟨_, rfl⟩
          rw [hx] at hcx hbx
          have hxs : x.size ≤ 256 := HZ.out x (by rw [← hx, List.getD_eq_getElem?_getD, List.getElem?_eq_getElem (by rw [HN.out]; exact hin)]; exact List.getElem_mem _)
          have HSD := Hid.mk' (fun V => stands_any x t a V (by omega) (by omega) (by omega))
          obtain ⟨sb, hsb⟩ : ∃ sb, Mn.stB x t a = sb := ⟨_, rfl⟩
          rw [hsb] at HSD hbx
          have HHD := Hid.mk' (fun u hu => HD.out wx u HBX0.out hu)
          subst hq
          clear hx hsb hf
          cases sb
          · have HBX : Hid (Mn.bstF D t a (i + 1) = f) := Hid.mk' (by rw [hbx, if_neg (fun q => by cases q.1)])
            clear hbx
            go_wp2_with (first | (go_at_call 42; refine (HSD.out _).mono ?_; rintro e wz ⟨rfl, hwz⟩; have hwz' := hwz.symm; subst hwz') | fail)
            go_quiet (fail)
            go_wp2
            go_roundw
            case rel => exact ⟨i + 1, by rw [HBX.out], by simp, by omega, HDN.out nq⟩
            case measure =>
              simp [intOf]
              omega
          · by_cases hf0 : f < 0
            · have HBX : Hid (Mn.bstF D t a (i + 1) = (i : Int)) := Hid.mk' (by rw [hbx, if_pos ⟨rfl, .inl hf0⟩])
              clear hbx
              go_wp2_with (first | (go_at_call 42; refine (HSD.out _).mono ?_; rintro e wz ⟨rfl, hwz⟩; have hwz' := hwz.symm; subst hwz') | fail)
              go_quiet (fail)
              go_wp2
              go_roundw
              case rel => exact ⟨i + 1, by rw [HBX.out], by simp, by omega, HDN.out nq⟩
              case measure =>
                simp [intOf]
                omega
            · obtain ⟨u, hu⟩ := Int.eq_ofNat_of_zero_le (show 0 ≤ f by omega)
              subst hu
              have hun : u < n := by omega
              have huI : (u : Int) < (n : Int) := by omega
              obtain ⟨gq2, off2, hq2, hcy⟩ := HHD.out u hun
              cases hq2
              obtain ⟨y, hy⟩ : ∃ y, D.getD u ByteArray.empty = y := ⟨_, rfl⟩
              rw [hy] at hcy
              rw [Int.toNat_natCast, hy] at hbx
              have hys : y.size ≤ 256 := HZ.out y (by rw [← hy, List.getD_eq_getElem?_getD, List.getElem?_eq_getElem (by rw [HN.out]; exact hun)]; exact List.getElem_mem _)
              clear hy
              by_cases hyx : y.size < x.size
              · have hyxI : (y.size : Int) < (x.size : Int) := by omega
                have HBX : Hid (Mn.bstF D t a (i + 1) = (i : Int)) := Hid.mk' (by rw [hbx, if_pos ⟨rfl, .inr hyx⟩])
                clear hbx
                go_wp2_with (first | (go_at_call 42; refine (HSD.out _).mono ?_; rintro e wz ⟨rfl, hwz⟩; have hwz' := hwz.symm; subst hwz') | fail)
                go_quiet (fail)
                go_wp2
                go_roundw
                case rel => exact ⟨i + 1, by rw [HBX.out], by simp, by omega, HDN.out nq⟩
                case measure =>
                  simp [intOf]
                  omega
              · have hyxI : ¬ (y.size : Int) < (x.size : Int) := by omega
                have HBX : Hid (Mn.bstF D t a (i + 1) = (u : Int)) := Hid.mk' (by rw [hbx, if_neg (fun q => by rcases q.2 with h | h <;> omega)])
                clear hbx
                go_wp2_with (first | (go_at_call 42; refine (HSD.out _).mono ?_; rintro e wz ⟨rfl, hwz⟩; have hwz' := hwz.symm; subst hwz') | fail)
                go_quiet (fail)
                go_wp2
                go_roundw
                case rel => exact ⟨i + 1, by rw [HBX.out], by simp, by omega, HDN.out nq⟩
                case measure =>
                  simp [intOf]
                  omega
        · have e9 : n = i := by omega
          subst e9
          have hinI : ¬ (n : Int) < (n : Int) := by omega
          rw [hf] at hbi ⊢
          by_cases hf0 : f < 0
          · have hf0I : ¬ (0 : Int) ≤ f := by omega
            have hwa : IntKind.i64.wrap ((a : Int) + 1) = (a : Int) + 1 := by rw [IntKind.wrap_i64]; omega
            have HNO : Hid (Mn.NoB D t k0 (a + 1)) := fun p h1 h2 j hj => by
              rcases Nat.lt_or_ge p a with h3 | h3
              · exact hno.out p h1 h3 j hj
              · have e : p = a := by omega
                subst e
                exact Mn.bstF_none D t p n (by rw [hf]; exact hf0) j (by rw [← HN.out]; exact hj)
            clear hf hbx
            go_wp2
            go_roundw
            case rel => exact ⟨a + 1, by simp, by omega, by omega, HNO, hdx⟩
            case measure =>
              simp [intOf]
              omega
          · have hf0I : (0 : Int) ≤ f := by omega
            obtain ⟨u, hu⟩ := Int.eq_ofNat_of_zero_le hf0I
            have HF := Hid.mk' (hf.trans hu)
            subst hu
            clear hf hbx
            go_wp2
            go_ret3
            exact ⟨.inl ⟨a, u, rfl, hka, hno.out, HF.out⟩, HBX0.out⟩
    · have hatI : ¬ (a : Int) < (t.size : Int) := by omega
      go_wp2
      go_ret3
      exact ⟨.inr ⟨rfl, a, by omega, hno.out⟩, HBR.out⟩
end Go.Proofs.Ytlbfnchjbpioeaa

namespace Mn
/-- the words of a length, of the first i -/
def lnK (D : List ByteArray) (z i : Nat) : List Nat := (List.range i).filter fun j => (D.getD j ByteArray.empty).size == z
theorem lnK_next (D : List ByteArray) (z i : Nat) : lnK D z (i + 1) = if (D.getD i ByteArray.empty).size = z then lnK D z i ++ [i] else lnK D z i := by
  unfold lnK
  rw [List.range_succ, List.filter_append]
  by_cases h : (D.getD i ByteArray.empty).size = z
  · rw [if_pos h, List.filter_cons_of_pos (by simpa using h), List.filter_nil]
  · rw [if_neg h, List.filter_cons_of_neg (by simpa using h), List.filter_nil, List.append_nil]
theorem lnK_len (D : List ByteArray) (z i : Nat) : (lnK D z i).length ≤ i := by
  unfold lnK
  have := List.length_filter_le (fun j => (D.getD j ByteArray.empty).size == z) (List.range i)
  rw [List.length_range] at this
  exact this
/-- the words' numbers, the longer ones first, down to a length -/
def rwK (D : List ByteArray) : Nat → List Nat
  | 0 => []
  | k + 1 => rwK D k ++ lnK D (256 - k) D.length
theorem rwK_len (D : List ByteArray) : ∀ k, (rwK D k).length ≤ k * D.length
  | 0 => by simp [rwK]
  | k + 1 => by
    rw [rwK, List.length_append, Nat.succ_mul]
    have := rwK_len D k
    have := lnK_len D (256 - k) D.length
    omega
theorem rwK_lt (D : List ByteArray) : ∀ k, ∀ x ∈ rwK D k, x < D.length
  | 0, x, h => by simp [rwK] at h
  | k + 1, x, h => by
    rw [rwK] at h
    rcases List.mem_append.1 h with h | h
    · exact rwK_lt D k x h
    · exact List.mem_range.1 (List.mem_filter.1 h).1
/-- does a word end at a place? -/
def enB (x t : ByteArray) (b : Nat) : Bool := decide (x.size ≤ b ∧ t.extract (b - x.size) b = x)
def alJ (D : List ByteArray) (t : ByteArray) (b : Nat) (R : List Nat) (j : Nat) : List (Nat × Nat) := ((R.take j).filter fun i => enB (D.getD i ByteArray.empty) t b).map fun i => (b, i)
theorem alJ_next (D : List ByteArray) (t : ByteArray) (b : Nat) (R : List Nat) (j v : Nat) (h : R[j]? = some v) : alJ D t b R (j + 1) = if enB (D.getD v ByteArray.empty) t b = true then alJ D t b R j ++ [(b, v)] else alJ D t b R j := by
  unfold alJ
  rw [List.take_add_one, h, Option.toList_some, List.filter_append, List.map_append]
  by_cases e : enB (D.getD v ByteArray.empty) t b = true
  · rw [if_pos e, List.filter_cons_of_pos (by exact e), List.filter_nil]
    rfl
  · rw [if_neg e, List.filter_cons_of_neg (by exact e), List.filter_nil, List.map_nil, List.append_nil]
def alB (D : List ByteArray) (t : ByteArray) (R : List Nat) : Nat → List (Nat × Nat)
  | 0 => []
  | k + 1 => alB D t R k ++ alJ D t (k + 1) R R.length
theorem alJ_len (D : List ByteArray) (t : ByteArray) (b : Nat) (R : List Nat) (j : Nat) : (alJ D t b R j).length ≤ R.length := by
  unfold alJ
  rw [List.length_map]
  have h1 := List.length_filter_le (fun i => enB (D.getD i ByteArray.empty) t b) (R.take j)
  rw [List.length_take] at h1
  omega
theorem alB_len (D : List ByteArray) (t : ByteArray) (R : List Nat) : ∀ k, (alB D t R k).length ≤ k * R.length
  | 0 => by simp [alB]
  | k + 1 => by
    rw [alB, List.length_append, Nat.succ_mul]
    have := alB_len D t R k
    have := alJ_len D t (k + 1) R R.length
    omega
end Mn

namespace Go.Proofs.Ytlbfnchjbpioeaa
open Go.RowKit Go.Shelf
set_option linter.unusedVariables false
theorem infoFd : (Try.prog.info? 74).map (fun i => (i.zero, i.size, i.bytes)) = some (some (.agg #[.int .i64 0, .int .i64 0]), 2, 16) := by kernel_rfl
def fdL (l : List (Nat × Nat)) : List Value := l.flatMap fun x => [.int .i64 (x.1 : Int), .int .i64 (x.2 : Int)]
theorem fdL_snoc (l : List (Nat × Nat)) (a v : Nat) : fdL (l ++ [(a, v)]) = fdL l ++ [.int .i64 (a : Int), .int .i64 (v : Int)] := by simp [fdL]
theorem own_relF {w wr w1 : World} {v : Value} {B n : Nat} {xs : List Value} {o : Obj} {t : TypeId} {z : Nat} (hB : B ≤ wr.heap.size) (hown : wr.ownsRow B t z v n xs) (hb : Below B w wr) (hg : (wr.alloc o).grownBy w1 v.ownBlock) : Below B w w1 :=
  (hb.alloc hB o).grown hg (by simp; omega) (fun k e => (hown.lt k e).1)
theorem sl_runB (t : ByteArray) (b z : Nat) (h1 : z ≤ b) (h2 : b ≤ t.size) (W : World) : (Instr.slice 9 (.string t) (some (.int .i64 ((b : Int) - (z : Int)))) (some (.int .i64 (b : Int))) none).run Try.prog W = .ok (.string (t.extract (b - z) b)) W := by
  have e1 : ((b : Int) - (z : Int)).toNat = b - z := by omega
  have e3 : (b : Int) ≤ (t.size : Int) := by omega
  have e5 : (b : Int) - (z : Int) ≤ (b : Int) := by omega
  have e6 : (z : Int) ≤ (b : Int) := by omega
  simp [go_sem, Instr.slice, e1, e3, e5, e6]
set_option maxRecDepth 100000 in
set_option maxHeartbeats 3000000 in
theorem refAll_any (g n c : Nat) (q : Option Addr) (fold : Bool) (D : List ByteArray) (s : ByteArray) (w : World) (hst : w.heap[g]? = some (.cells #[.slice q n c, .bool fold] 64 (0, 0))) (h : StrAt w q D) (hn : D.length = n) (h64 : n ≤ 64) (hz : ∀ x ∈ D, x.size ≤ 256) (hs : s.size ≤ 16777216) :
    Calls Try.prog 33 #[.pointer (some ⟨g, 0, none⟩), .string s] w fun e w' => ∃ v, e = .returned v ∧ w'.ownsRow w.heap.size 74 2 v (Mn.alB D (Mn.fd fold s) (Mn.rwK D 256) (Mn.fd fold s).size).length (fdL (Mn.alB D (Mn.fd fold s) (Mn.rwK D 256) (Mn.fd fold s).size)) ∧ Below w.heap.size w w' := by
  obtain ⟨b, hb⟩ : ∃ b, w.heap.size = b := ⟨_, rfl⟩
  obtain ⟨t, ht⟩ : ∃ t, Mn.fd fold s = t := ⟨_, rfl⟩
  have hts : t.size ≤ 16777216 := by rw [← ht, Mn.fd_size]; exact hs
  have HFO := Hid.mk' (fun V => folded_any s fold V (by omega))
  rw [ht] at HFO ⊢
  have HST := Hid.mk' hst
  have HS := Hid.mk' h
  have HN := Hid.mk' hn
  have HZ := Hid.mk' hz
  have HGL : Hid (g < b) := Hid.mk' (by rw [← hb]; exact (Array.getElem?_eq_some_iff.1 hst).1)
  have c0 : w.cell? ⟨g, 1, none⟩ = some (.bool fold) := by simp [World.cell?, hst]
  have HC : Hid (∀ V, Below b w V → V.cell? ⟨g, 0, none⟩ = some (.slice q n c)) := fun V hV => (World.cell?_of_block (a := ⟨g, 0, none⟩) (hV.block g HGL.out)).trans (by simp [World.cell?, HST.out])
  have HD : Hid (∀ V i, Below b w V → i < n → ∃ gq off, q = some ⟨gq, off, none⟩ ∧ V.cell? ⟨gq, off + i, none⟩ = some (.string (D.getD i ByteArray.empty))) := fun V i hV hi => (HS.out.keep (w' := V) (by rw [hb]; exact hV)) i (by rw [HN.out]; exact hi)
  have HRL : Hid (∀ k, k ≤ 256 → (Mn.rwK D k).length ≤ 16384) := fun k hk => by
    have h1 := Mn.rwK_len D k
    rw [HN.out] at h1
    have h2 : k * n ≤ 256 * 64 := Nat.mul_le_mul hk h64
    omega
  rw [hb]
  clear hst h hn hz ht
  go_enter Try.func33, Try.ntmps33
  go_wp2_with (first
    | (go_at_call 28; refine (HFO.out _).mono ?_; rintro e w1 ⟨rfl, hb1⟩; have HB1 : Hid (Below b w w1) := Hid.mk' (by rw [← hb]; exact hb1); clear hb1 HFO)
    | fail)
  go_loopw [6, 7, 8] (fun ov zv iv wr => ∃ (k z : Nat) (q2 : Option Addr) (n2 c2 : Nat), ov = .slice q2 n2 c2 ∧ zv = .int .i64 (z : Int) ∧ z + k = 256 ∧ Hid ((Mn.rwK D k).length = n2) ∧ Hid (wr.ownsRow b 3 1 (.slice q2 n2 c2) n2 (intL (Mn.rwK D k))) ∧ Hid (Below b w wr)) (fun ov zv iv _ => (intOf zv).toNat)
  case atStart => exact ⟨0, 256, none, 0, 0, rfl, rfl, rfl, rfl, World.ownsRow_nil _ _ _ _, HB1⟩
  case round =>
    obtain ⟨k, z, q2, n2, c2, rfl, rfl, hzk, hn2, hrow, hbel⟩ := hrel
    rename World => wr
    by_cases hz1 : 1 ≤ z
    · have hz1I : (1 : Int) ≤ (z : Int) := by omega
      have hwz : IntKind.i64.wrap ((z : Int) - 1) = (z : Int) - 1 := by rw [IntKind.wrap_i64]; omega
      go_wp2_with fail
      go_loopw [6, 8] (fun ov iv wx => ∃ (i : Nat) (q3 : Option Addr) (n3 c3 : Nat), ov = .slice q3 n3 c3 ∧ iv = .int .i64 (i : Int) ∧ i ≤ n ∧ Hid ((Mn.rwK D k ++ Mn.lnK D z i).length = n3) ∧ Hid (wx.ownsRow b 3 1 (.slice q3 n3 c3) n3 (intL (Mn.rwK D k ++ Mn.lnK D z i))) ∧ Hid (Below b w wx)) (fun ov iv _ => n - (intOf iv).toNat)
      case atStart => exact ⟨0, q2, n2, c2, rfl, rfl, Nat.zero_le _, by simpa [Mn.lnK] using hn2, by simpa [Mn.lnK] using hrow, hbel⟩
      case round =>
        obtain ⟨i, q3, n3, c3, rfl, rfl, hi, hn3, hrow3, hbel3⟩ := hrel
        rename World => wx
        have cW := HC.out wx hbel3.out
        by_cases hin : i < n
        · have hinI : (i : Int) < (n : Int) := by omega
          obtain ⟨gq, off, hq, hcx⟩ := HD.out wx i hbel3.out hin
          obtain ⟨x, hx⟩ : ∃ x, D.getD i ByteArray.empty = x := ⟨_, rfl⟩
          rw [hx] at hcx
          have hnx := Mn.lnK_next D z i
          rw [hx] at hnx
          have hnb : n3 ≤ 16448 := by
            have h1 := HRL.out k (by omega)
            have h2 := Mn.lnK_len D z i
            rw [← hn3.out, List.length_append]
            omega
          have hszw : b ≤ wx.heap.size := by have := hbel3.out.size; omega
          obtain ⟨i0, j1, j2, j3, j4⟩ := info_parts infoI
          have HJ := Hid.mk' (And.intro j1 (And.intro j2 (And.intro j3 j4)))
          subst hq
          clear j1 j2 j3 j4 hx
          by_cases hxz : x.size = z
          · have hxzI : (x.size : Int) = (z : Int) := by omega
            rw [if_pos hxz] at hnx
            have HNX := Hid.mk' hnx
            have HIN : Hid (intL (Mn.rwK D k ++ (Mn.lnK D z i ++ [i])) = intL (Mn.rwK D k ++ Mn.lnK D z i) ++ [.int .i64 (i : Int)]) := Hid.mk' (by simp [intL])
            have hxzB : ((x.size : Int) == (z : Int)) = true := by simp [hxzI]
            clear hnx hxz hxzI
            go_wp2_with (first | (at_builtin; refine wpList_append_own _ rfl _ _ 53 rfl b 3 i0 (.int .i64 0) 1 8 Try.underlying53 HJ.out.1 HJ.out.2.1 HJ.out.2.2.1 HJ.out.2.2.2 rfl (by decide) _ _ _ rfl (hrow3.out.alloc _) ⟨wx.heap.size, 0, none⟩ 1 1 [.int .i64 (i : Int)] rfl rfl (int_news _ _ _ rfl) (int_one _) (by unfold maxLen; omega) (by omega) (by simp only [World.size_alloc]; omega) ?_; intro v6 w6 ho6 hg6 _; obtain ⟨p6, c6, rfl⟩ := mr_shape ho6; have HB6 : Hid (Below b w w6) := Hid.mk' (own_relF hszw hrow3.out hbel3.out hg6); have HR6 : Hid (w6.ownsRow b 3 1 (.slice p6 (n3 + 1) c6) (n3 + 1) (intL (Mn.rwK D k ++ (Mn.lnK D z i ++ [i])))) := Hid.mk' (by rw [HIN.out]; exact ho6); clear ho6 hg6) | fail)
            go_roundw
            case rel => exact ⟨i + 1, p6, n3 + 1, c6, rfl, by simp, by omega, Hid.mk' (by rw [HNX.out, ← List.append_assoc, List.length_append, hn3.out]; rfl), by rw [HNX.out]; exact HR6, HB6⟩
            case measure =>
              simp [intOf]
              omega
          · have hxzI : ¬ (x.size : Int) = (z : Int) := by omega
            have hxzB : ((x.size : Int) == (z : Int)) = false := beq_eq_false_iff_ne.2 hxzI
            rw [if_neg hxz] at hnx
            have HNX := Hid.mk' hnx
            clear hnx
            go_wp2_with fail
            go_roundw
            case rel => exact ⟨i + 1, q3, n3, c3, rfl, by simp, by omega, by rw [HNX.out]; exact hn3, by rw [HNX.out]; exact hrow3, hbel3⟩
            case measure =>
              simp [intOf]
              omega
        · have e9 : n = i := by omega
          subst e9
          have hinI : ¬ (n : Int) < (n : Int) := by omega
          have HRK : Hid (Mn.rwK D (k + 1) = Mn.rwK D k ++ Mn.lnK D z n) := Hid.mk' (by rw [Mn.rwK, HN.out, show 256 - k = z by omega])
          obtain ⟨z2, hz2⟩ : ∃ z2, z = z2 + 1 := ⟨z - 1, by omega⟩
          have hz2I : (z : Int) - 1 = (z2 : Int) := by omega
          clear hz2
          go_wp2_with fail
          go_roundw
          case rel => exact ⟨k + 1, z2, q3, n3, c3, rfl, by simp, by omega, by rw [HRK.out]; exact hn3, by rw [HRK.out]; exact hrow3, hbel3⟩
          case measure =>
            simp [intOf]
            omega
    · have hz1I : ¬ (1 : Int) ≤ (z : Int) := by omega
      have e9 : 256 = k := by omega
      subst e9
      obtain ⟨R, hR⟩ : ∃ R, Mn.rwK D 256 = R := ⟨_, rfl⟩
      have hRl := HRL.out 256 (by omega)
      have HRT := Hid.mk' (Mn.rwK_lt D 256)
      rw [hR] at hn2 hrow hRl HRT
      rw [hn2.out] at hRl
      have HRE := Hid.mk' hR
      clear hR
      go_wp2_with fail
      go_loopw [9, 10, 11, 12] (fun ov bv jv xv wx => ∃ (k : Nat) (q3 : Option Addr) (n3 c3 : Nat), ov = .slice q3 n3 c3 ∧ bv = .int .i64 ((k : Int) + 1) ∧ k ≤ t.size ∧ Hid ((Mn.alB D t R k).length = n3) ∧ Hid (wx.ownsRow b 74 2 (.slice q3 n3 c3) n3 (fdL (Mn.alB D t R k))) ∧ Hid (wx.ownsRow b 3 1 (.slice q2 n2 c2) n2 (intL R)) ∧ Hid (Below b w wx)) (fun ov bv jv xv _ => t.size + 1 - (intOf bv).toNat)
      case atStart => exact ⟨0, none, 0, 0, rfl, rfl, Nat.zero_le _, rfl, World.ownsRow_nil _ _ _ _, hrow, hbel⟩
      case round =>
        obtain ⟨k, q3, n3, c3, rfl, rfl, hk, hn3, hout, hrw, hbx⟩ := hrel
        rename World => wx
        obtain ⟨bb, hbb⟩ : ∃ bb, k + 1 = bb := ⟨_, rfl⟩
        have hbbI : (k : Int) + 1 = (bb : Int) := by omega
        rw [hbbI]
        have hkb : n3 ≤ 274877906944 := by
          have h1 := Mn.alB_len D t R k
          rw [hn3.out, hn2.out] at h1
          have h2 : k * n2 ≤ 16777216 * 16384 := Nat.mul_le_mul (by omega) hRl
          omega
        by_cases hkt : k < t.size
        · have hktI : (bb : Int) ≤ (t.size : Int) := by omega
          have hwb : IntKind.i64.wrap ((bb : Int) + 1) = (bb : Int) + 1 := by rw [IntKind.wrap_i64]; omega
          go_wp2_with fail
          go_loopw [9, 11, 12] (fun ov jv xv wy => ∃ (j : Nat) (q4 : Option Addr) (n4 c4 : Nat), ov = .slice q4 n4 c4 ∧ jv = .int .i64 (j : Int) ∧ j ≤ n2 ∧ Hid ((Mn.alB D t R k ++ Mn.alJ D t bb R j).length = n4) ∧ Hid (wy.ownsRow b 74 2 (.slice q4 n4 c4) n4 (fdL (Mn.alB D t R k ++ Mn.alJ D t bb R j))) ∧ Hid (wy.ownsRow b 3 1 (.slice q2 n2 c2) n2 (intL R)) ∧ Hid (Below b w wy)) (fun ov jv xv _ => n2 - (intOf jv).toNat)
          case atStart => exact ⟨0, q3, n3, c3, rfl, rfl, Nat.zero_le _, by simpa [Mn.alJ] using hn3, by simpa [Mn.alJ] using hout, hrw, hbx⟩
          case round =>
            obtain ⟨j, q4, n4, c4, rfl, rfl, hj, hn4, hout4, hrw4, hby⟩ := hrel
            rename World => wy
            have cW := HC.out wy hby.out
            by_cases hjn : j < n2
            · have hjI : (j : Int) < (n2 : Int) := by omega
              obtain ⟨v, hv⟩ : ∃ v, R[j]? = some v := ⟨_, List.getElem?_eq_getElem (by rw [hn2.out]; exact hjn)⟩
              have hvn : v < n := by rw [← HN.out]; exact HRT.out v (List.mem_of_getElem? hv)
              have hvI : (v : Int) < (n : Int) := by omega
              obtain ⟨gr, hgr, hcr⟩ : ∃ gr, q2 = some ⟨gr, 0, none⟩ ∧ wy.cell? ⟨gr, j, none⟩ = some (.int .i64 (v : Int)) := by
                rcases hrw4.out.2 with ⟨_, h1⟩ | ⟨g9, cap9, cur9, h1, _⟩
                · omega
                · simp only [Value.slice.injEq] at h1
                  obtain ⟨h2, _, _⟩ := h1
                  have c9 := hrw4.out.cells (g := g9) (by rw [h2]; rfl) j (.int .i64 (v : Int)) (by unfold intL; rw [List.getElem?_map, hv]; rfl)
                  rw [Addr.add_lit, Nat.zero_add] at c9
                  exact ⟨g9, h2, c9⟩
              obtain ⟨gq, off, hq, hcx⟩ := HD.out wy v hby.out hvn
              obtain ⟨x, hx⟩ : ∃ x, D.getD v ByteArray.empty = x := ⟨_, rfl⟩
              rw [hx] at hcx
              have hxs : x.size ≤ 256 := HZ.out x (by rw [← hx, List.getD_eq_getElem?_getD, List.getElem?_eq_getElem (by rw [HN.out]; exact hvn)]; exact List.getElem_mem _)
              have hnx := Mn.alJ_next D t bb R j v hv
              rw [hx] at hnx
              have hnb : n4 ≤ 274877923328 := by
                have h2 := Mn.alJ_len D t bb R j
                rw [← hn4.out, List.length_append, hn3.out]
                rw [hn2.out] at h2
                omega
              have hszw : b ≤ wy.heap.size := by have := hby.out.size; omega
              obtain ⟨i0, j1, j2, j3, j4⟩ := info_parts infoFd
              have HJ := Hid.mk' (And.intro j1 (And.intro j2 (And.intro j3 j4)))
              have HQ2 := Hid.mk' hgr
              subst hq
              clear j1 j2 j3 j4 hx hv
              subst hgr
              have hwx : IntKind.i64.wrap ((bb : Int) - (x.size : Int)) = (bb : Int) - (x.size : Int) := by rw [IntKind.wrap_i64]; omega
              by_cases hxb : x.size ≤ bb
              · have hxbI : (x.size : Int) ≤ (bb : Int) := by omega
                have hsl := fun W => sl_runB t bb x.size hxb (by omega) W
                by_cases he : t.extract (bb - x.size) bb = x
                · rw [he] at hsl
                  have HNX : Hid (Mn.alJ D t bb R (j + 1) = Mn.alJ D t bb R j ++ [(bb, v)]) := Hid.mk' (by rw [hnx, if_pos (show Mn.enB x t bb = true from decide_eq_true ⟨hxb, he⟩)])
                  clear hnx he
                  go_wp2_with fail
                  go_quiet (fail)
                  have hd1 : (wy.drewN nq).cell? ⟨gr, j, none⟩ = some (.int .i64 (v : Int)) := hcr
                  obtain ⟨wq, hwq⟩ : ∃ wq, wy.drewN nq = wq := ⟨_, rfl⟩
                  have HO5 : Hid (wq.ownsRow b 74 2 (.slice q4 n4 c4) n4 (fdL (Mn.alB D t R k ++ Mn.alJ D t bb R j))) := Hid.mk' (by rw [← hwq]; exact hout4.out)
                  have HR5 : Hid (wq.ownsRow b 3 1 (.slice (some ⟨gr, 0, none⟩) n2 c2) n2 (intL R)) := Hid.mk' (by rw [← hwq]; exact hrw4.out)
                  have HB5 : Hid (Below b w wq) := Hid.mk' (by rw [← hwq]; exact hby.out.drewN' nq)
                  have hsz5 : b ≤ wq.heap.size := by rw [← hwq]; exact hszw
                  rw [hwq] at hd1 ⊢
                  clear hwq
                  go_wp2_with (first | (at_builtin; refine wpList_append_own _ rfl _ _ 71 rfl b 74 i0 (.agg #[.int .i64 0, .int .i64 0]) 2 16 Try.underlying71 HJ.out.1 HJ.out.2.1 HJ.out.2.2.1 HJ.out.2.2.2 rfl (by decide) _ _ _ rfl (HO5.out.alloc _) ⟨wq.heap.size, 0, none⟩ 1 1 [.int .i64 (bb : Int), .int .i64 (v : Int)] rfl rfl (World.news_of_block (cs := #[.int .i64 (bb : Int), .int .i64 (v : Int)]) (by exact heap_alloc_new wq _)) (by intro u hu; simp at hu; rcases hu with rfl | rfl <;> rfl) (by unfold maxLen; omega) (by omega) (by simp only [World.size_alloc]; omega) ?_; intro v6 w6 ho6 hg6 _; obtain ⟨p6, c6, rfl⟩ := mr_shape ho6; have HB6 : Hid (Below b w w6) := Hid.mk' (own_relF hsz5 HO5.out HB5.out hg6); have HR7 : Hid (w6.ownsRow b 3 1 (.slice (some ⟨gr, 0, none⟩) n2 c2) n2 (intL R)) := Hid.mk' (mr_apart HR5.out HO5.out (by decide) hg6); have HR6 : Hid (w6.ownsRow b 74 2 (.slice p6 (n4 + 1) c6) (n4 + 1) (fdL (Mn.alB D t R k ++ (Mn.alJ D t bb R j ++ [(bb, v)])))) := Hid.mk' (by rw [← List.append_assoc, fdL_snoc]; exact ho6); clear ho6 hg6) | fail)
                  go_roundw
                  case rel => exact ⟨j + 1, p6, n4 + 1, c6, rfl, by simp, by omega, Hid.mk' (by rw [HNX.out, ← List.append_assoc, List.length_append, hn4.out]; rfl), by rw [HNX.out]; exact HR6, HR7, HB6⟩
                  case measure =>
                    simp [intOf]
                    omega
                · obtain ⟨y, hy⟩ : ∃ y, t.extract (bb - x.size) bb = y := ⟨_, rfl⟩
                  have HNX : Hid (Mn.alJ D t bb R (j + 1) = Mn.alJ D t bb R j) := Hid.mk' (by rw [hnx, if_neg (fun q => he (of_decide_eq_true q).2)])
                  rw [hy] at hsl he
                  have hneL := toL_ne he
                  have hneB : (y.toList == x.toList) = false := by simp [hneL]
                  clear hnx hy
                  go_wp2_with fail
                  go_quiet (fail)
                  go_wp2
                  go_roundw
                  case rel => exact ⟨j + 1, q4, n4, c4, rfl, by simp, by omega, by rw [HNX.out]; exact hn4, by rw [HNX.out]; exact hout4, hrw4, Hid.mk' (hby.out.drewN' nq)⟩
                  case measure =>
                    simp [intOf]
                    omega
              · have hxbI : ¬ (x.size : Int) ≤ (bb : Int) := by omega
                have HNX : Hid (Mn.alJ D t bb R (j + 1) = Mn.alJ D t bb R j) := Hid.mk' (by rw [hnx, if_neg (fun q => hxb (of_decide_eq_true q).1)])
                clear hnx
                go_wp2_with fail
                go_quiet (fail)
                go_wp2
                go_roundw
                case rel => exact ⟨j + 1, q4, n4, c4, rfl, by simp, by omega, by rw [HNX.out]; exact hn4, by rw [HNX.out]; exact hout4, hrw4, Hid.mk' (hby.out.drewN' nq)⟩
                case measure =>
                  simp [intOf]
                  omega
            · have e9 : n2 = j := by omega
              subst e9
              have hjI : ¬ (n2 : Int) < (n2 : Int) := by omega
              have HAB : Hid (Mn.alB D t R (k + 1) = Mn.alB D t R k ++ Mn.alJ D t bb R n2) := Hid.mk' (by rw [Mn.alB, hn2.out, hbb])
              go_wp2_with fail
              go_roundw
              case rel => exact ⟨k + 1, q4, n4, c4, rfl, by simp; omega, by omega, by rw [HAB.out]; exact hn4, by rw [HAB.out]; exact hout4, hrw4, hby⟩
              case measure =>
                simp [intOf]
                omega
        · have hktI : ¬ (bb : Int) ≤ (t.size : Int) := by omega
          have HE9 : Hid (t.size = k) := Hid.mk' (by omega)
          clear hbb
          go_wp2
          go_ret
          refine ⟨_, rfl, ?_, hbx.out⟩
          rw [HRE.out, HE9.out, hn3.out]
          exact hout.out
end Go.Proofs.Ytlbfnchjbpioeaa

namespace Mn
theorem sorted_by (f : Nat → Nat) : ∀ (l m : List Nat), l.Pairwise (fun a b => f b < f a) → m.Pairwise (fun a b => f b < f a) → (∀ x, x ∈ l ↔ x ∈ m) → l = m
  | [], [], _, _, _ => rfl
  | [], b :: m, _, _, h => absurd ((h b).2 (by simp)) (by simp)
  | a :: l, [], _, _, h => absurd ((h a).1 (by simp)) (by simp)
  | a :: l, b :: m, hl, hm, h => by
    rw [List.pairwise_cons] at hl hm
    have hab : a = b := by
      have h1 := (h a).1 (by simp)
      have h2 := (h b).2 (by simp)
      rw [List.mem_cons] at h1 h2
      rcases h1 with h1 | h1
      · exact h1
      · rcases h2 with h2 | h2
        · exact h2.symm
        · have := hm.1 a h1
          have := hl.1 b h2
          omega
    subst hab
    rw [sorted_by f l m hl.2 hm.2 fun x => ?_]
    constructor
    · intro hx
      have h1 := (h x).1 (by simp [hx])
      rw [List.mem_cons] at h1
      rcases h1 with rfl | h1
      · have := hl.1 x hx
        omega
      · exact h1
    · intro hx
      have h1 := (h x).2 (by simp [hx])
      rw [List.mem_cons] at h1
      rcases h1 with rfl | h1
      · have := hm.1 x hx
        omega
      · exact h1
theorem lnK_mem (D : List ByteArray) (z i x : Nat) : x ∈ lnK D z i ↔ x < i ∧ (D.getD x ByteArray.empty).size = z := by
  unfold lnK
  rw [List.mem_filter, List.mem_range]
  simp
theorem rwK_mem (D : List ByteArray) : ∀ k, k ≤ 256 → ∀ x, x ∈ rwK D k ↔ x < D.length ∧ 257 - k ≤ (D.getD x ByteArray.empty).size ∧ (D.getD x ByteArray.empty).size ≤ 256
  | 0, _, x => by
    simp only [rwK, List.not_mem_nil, false_iff]
    omega
  | k + 1, hk, x => by
    rw [rwK, List.mem_append, rwK_mem D k (by omega) x, lnK_mem]
    omega
theorem rwK_pw (D : List ByteArray) : ∀ k, k ≤ 256 → (rwK D k).Pairwise fun a b => (D.getD b ByteArray.empty).size ≤ (D.getD a ByteArray.empty).size ∧ a ≠ b
  | 0, _ => by simp [rwK]
  | k + 1, hk => by
    rw [rwK, List.pairwise_append]
    refine ⟨rwK_pw D k (by omega), ?_, fun a ha b hb => ?_⟩
    · have h1 : (lnK D (256 - k) D.length).Pairwise (· < ·) := by
        unfold lnK
        exact (List.pairwise_lt_range).filter _
      refine (List.pairwise_iff_forall_sublist.2 fun {a b} hs => ?_)
      have h2 := List.Pairwise.sublist hs h1
      have ha := (lnK_mem D _ _ a).1 (hs.subset (by simp))
      have hb := (lnK_mem D _ _ b).1 (hs.subset (by simp))
      simp at h2
      omega
    · have h1 := (rwK_mem D k (by omega) a).1 ha
      have h2 := (lnK_mem D _ _ b).1 hb
      refine ⟨by omega, fun e => ?_⟩
      subst e
      omega
theorem enB_suf (x t : ByteArray) (b : Nat) (hb : b ≤ t.size) : enB x t b = true ↔ Sums.bl x <:+ (Sums.bl t).take b := by
  unfold enB
  rw [decide_eq_true_eq]
  constructor
  · rintro ⟨h1, h2⟩
    have h3 := congrArg Sums.bl h2
    rw [Sums.bl_extract] at h3
    rw [← h3]
    exact List.drop_suffix _ _
  · rintro ⟨r, hr⟩
    have hl := congrArg List.length hr
    rw [List.length_append, List.length_take, Sums.bl_length, Sums.bl_length] at hl
    refine ⟨by omega, Sums.bl_inj ?_⟩
    rw [Sums.bl_extract, ← hr, show b - x.size = r.length by omega, List.drop_left]
theorem alJ_wsuf {fold : Bool} {L : List ByteArray} (hg : Good fold L) (s : ByteArray) (b : Nat) (hb : b ≤ s.size) : alJ (L.map (fd fold)) (fd fold s) b (rwK (L.map (fd fold)) 256) (rwK (L.map (fd fold)) 256).length = (wsuf (wds fold L) (((Sums.bl s).map (lf fold)).take b)).map fun w => (b, w) := by
  have hn := hg.nodup
  obtain ⟨D, hD⟩ : ∃ D, L.map (fd fold) = D := ⟨_, rfl⟩
  obtain ⟨t, ht⟩ : ∃ t, fd fold s = t := ⟨_, rfl⟩
  have hDl : D.length = L.length := by rw [← hD, List.length_map]
  have hts : t.size = s.size := by rw [← ht, fd_size]
  have hDg : ∀ i, i < L.length → D.getD i ByteArray.empty = fd fold (L.getD i ByteArray.empty) := fun i hi => by rw [← hD]; exact map_getD fold L i hi
  have hWg : ∀ i, i < L.length → (wds fold L)[i]? = some (Sums.bl (D.getD i ByteArray.empty)) := fun i hi => by rw [hDg i hi]; exact wds_get fold L i hi
  have hWl : ∀ i, i < L.length → ((wds fold L).getD i []).length = (D.getD i ByteArray.empty).size := fun i hi => by rw [List.getD_eq_getElem?_getD, hWg i hi, Option.getD_some, Sums.bl_length]
  have hsz : ∀ i, i < L.length → 1 ≤ (D.getD i ByteArray.empty).size ∧ (D.getD i ByteArray.empty).size ≤ 256 := fun i hi => by
    rw [hDg i hi, fd_size]
    exact ⟨(hg.fits i hi).1, (hg.fits i hi).2.1⟩
  rw [← bl_fd, ht, hD]
  have hpw := rwK_pw D 256 (Nat.le_refl _)
  have hmem := rwK_mem D 256 (Nat.le_refl _)
  have hlt := rwK_lt D 256
  generalize rwK D 256 = R at hpw hmem hlt ⊢
  unfold alJ
  rw [List.take_length]
  congr 1
  apply sorted_by fun i => ((wds fold L).getD i []).length
  · refine (List.pairwise_iff_forall_sublist.2 fun {a b'} hs => ?_)
    have h1 := List.Pairwise.sublist (hs.trans List.filter_sublist) hpw
    have ha := List.mem_filter.1 (hs.subset (show a ∈ [a, b'] by simp))
    have hb' := List.mem_filter.1 (hs.subset (show b' ∈ [a, b'] by simp))
    have la := hlt a ha.1
    have lb := hlt b' hb'.1
    rw [hDl] at la lb
    simp only [List.pairwise_cons, List.mem_singleton, forall_eq] at h1
    have h2 := h1.1
    rw [hWl a la, hWl b' lb]
    rcases Nat.lt_or_ge (D.getD b' ByteArray.empty).size (D.getD a ByteArray.empty).size with h3 | h3
    · exact h3
    · exfalso
      have e1 := (enB_suf _ t b (by omega)).1 ha.2
      have e2 := (enB_suf _ t b (by omega)).1 hb'.2
      have hl : (Sums.bl (D.getD a ByteArray.empty)).length = (Sums.bl (D.getD b' ByteArray.empty)).length := by rw [Sums.bl_length, Sums.bl_length]; omega
      have he : Sums.bl (D.getD a ByteArray.empty) = Sums.bl (D.getD b' ByteArray.empty) := by
        rw [List.suffix_iff_eq_drop.1 e1, List.suffix_iff_eq_drop.1 e2, hl]
      have g1 := hWg a la
      have g2 := hWg b' lb
      rw [he] at g1
      obtain ⟨y1, z1⟩ := List.getElem?_eq_some_iff.1 g1
      obtain ⟨y2, z2⟩ := List.getElem?_eq_some_iff.1 g2
      exact h2.2 ((List.getElem_inj hn).1 (z1.trans z2.symm))
  · exact wsuf_down hn _
  · intro x
    rw [List.mem_filter, hmem, mem_wsuf hn, hDl]
    constructor
    · rintro ⟨⟨h1, _, _⟩, h2⟩
      refine ⟨_, hWg x h1, (enB_suf _ t b (by omega)).1 h2, fun e => ?_⟩
      have := congrArg List.length e
      rw [Sums.bl_length, List.length_nil] at this
      have := (hsz x h1).1
      omega
    · rintro ⟨y, h1, h2, _⟩
      have hx : x < L.length := by
        have := (List.getElem?_eq_some_iff.1 h1).1
        rwa [wds_len] at this
      rw [hWg x hx] at h1
      cases h1
      exact ⟨⟨hx, (hsz x hx).1, (hsz x hx).2⟩, (enB_suf _ t b (by omega)).2 h2⟩
theorem alB_allK {fold : Bool} {L : List ByteArray} (hg : Good fold L) (s : ByteArray) : ∀ k, k ≤ s.size → alB (L.map (fd fold)) (fd fold s) (rwK (L.map (fd fold)) 256) k = allK (wds fold L) ((Sums.bl s).map (lf fold)) k
  | 0, _ => by simp [alB, allK]
  | k + 1, hk => by
    rw [alB, allK_next, alB_allK hg s k (by omega), alJ_wsuf hg s (k + 1) hk]
theorem alB_allF {fold : Bool} {L : List ByteArray} (hg : Good fold L) (s : ByteArray) : alB (L.map (fd fold)) (fd fold s) (rwK (L.map (fd fold)) 256) (fd fold s).size = allF (wds fold L) ((Sums.bl s).map (lf fold)) := by
  rw [fd_size, alB_allK hg s s.size (Nat.le_refl _)]
  unfold allF
  rw [List.length_map, Sums.bl_length]
end Mn

namespace Mn
theorem fst_fs {W : List (List Nat)} (T : List Nat) (k0 : Nat) : Fs W T k0 (fstF (nsOf W) W (T.drop k0) [] k0 0 (-1)).1 (fstF (nsOf W) W (T.drop k0) [] k0 0 (-1)).2 := by
  by_cases hk : k0 ≤ T.length
  · have h := fst_right (nsOf_tr W) (nsOf_word (W := W)) T k0 (T.drop k0) k0 0 (-1) rfl (Nat.le_refl _) hk (Fi.start W T k0)
    have e : (T.take k0).drop k0 = [] := List.drop_eq_nil_of_le (by rw [List.length_take]; omega)
    rw [e] at h
    have e2 : suf (nsOf W) [] = [] := by rfl
    rw [e2] at h
    exact h
  · rw [List.drop_eq_nil_of_le (by omega)]
    unfold fstF
    refine ⟨fun _ a j ha ho => ?_, fun v hv => ?_, by simp⟩
    · have := occ_len ho
      omega
    · simp only at hv
      omega
end Mn
namespace Go.Proofs.Ytlbfnchjbpioeaa
open Go.RowKit Go.Shelf
set_option linter.unusedVariables false
section
variable {B g n c : Nat} {fold : Bool} {L : List ByteArray} {q : Option Addr} {w0 V : World}
theorem RefM.st2 (h : RefM B g n fold L q c w0 V) : V.heap[g]? = some (.cells #[.slice q n c, .bool fold] 64 (0, 0)) ∧ StrAt V q (L.map (Mn.fd fold)) ∧ (L.map (Mn.fd fold)).length = n := by
  have hl : (L.map (Mn.fd fold)).length = n := by rw [List.length_map]; exact h.len.symm
  exact ⟨h.st, str_at h.row hl.symm, hl⟩
theorem ref_sizes (hg : Mn.Good fold L) : ∀ x ∈ L.map (Mn.fd fold), x.size ≤ 256 := by
  intro x hx
  obtain ⟨y, hy, rfl⟩ := List.mem_map.1 hx
  rw [Mn.fd_size]
  obtain ⟨i, hi, rfl⟩ := List.mem_iff_getElem.1 hy
  have := (hg.fits i hi).2.1
  rw [List.getD_eq_getElem?_getD, List.getElem?_eq_getElem hi] at this
  exact this
theorem ref_has (s : ByteArray) (h : RefM B g n fold L q c w0 V) (hg : Mn.Good fold L) (hs : s.size ≤ 4294967296) :
    Calls Try.prog 29 #[.pointer (some ⟨g, 0, none⟩), .string s] V fun e w' => ∃ v, e = .returned v ∧ w'.ownsRow V.heap.size 3 1 v (Mn.hasL (Mn.wds fold L) (tx fold s)).length (intL (Mn.hasL (Mn.wds fold L) (tx fold s))) ∧ Below V.heap.size V w' := by
  obtain ⟨h1, h2, h3⟩ := h.st2
  have h4 := Mn.hasK_hasL hg s
  have h5 := refHas_any g n c q fold (L.map (Mn.fd fold)) s V h1 h2 h3 (by rw [h.len]; exact hg.few) (ref_sizes hg) hs
  rw [show n = L.length from h.len] at h5
  rw [h4] at h5
  exact h5
theorem ref_any (s : ByteArray) (h : RefM B g n fold L q c w0 V) (hg : Mn.Good fold L) (hs : s.size ≤ 4294967296) :
    Calls Try.prog 31 #[.pointer (some ⟨g, 0, none⟩), .string s] V fun e w' => e = .returned (.bool (decide ((Mn.fstF (Mn.nsOf (Mn.wds fold L)) (Mn.wds fold L) (tx fold s) [] 0 0 (-1)).2 ≠ -1))) ∧ Below V.heap.size V w' := by
  obtain ⟨h1, h2, h3⟩ := h.st2
  have h4 := Mn.hasK_hasL hg s
  have h5 := refAny_any g n c q fold (L.map (Mn.fd fold)) s V h1 h2 h3 (by rw [h.len]; exact hg.few) (ref_sizes hg) hs
  rw [show n = L.length from h.len] at h5
  rw [h4] at h5
  rw [Mn.any_has (Wok.of hg).nod (Wok.of hg).few]
  exact h5
theorem ref_all (s : ByteArray) (h : RefM B g n fold L q c w0 V) (hg : Mn.Good fold L) (hs : s.size ≤ 16777216) :
    Calls Try.prog 33 #[.pointer (some ⟨g, 0, none⟩), .string s] V fun e w' => ∃ v, e = .returned v ∧ w'.ownsRow V.heap.size 74 2 v (Mn.allF (Mn.wds fold L) (tx fold s)).length (fdL (Mn.allF (Mn.wds fold L) (tx fold s))) ∧ Below V.heap.size V w' := by
  obtain ⟨h1, h2, h3⟩ := h.st2
  have h4 := Mn.alB_allF hg s
  have h5 := refAll_any g n c q fold (L.map (Mn.fd fold)) s V h1 h2 h3 (by rw [h.len]; exact hg.few) (ref_sizes hg) hs
  rw [h4] at h5
  exact h5
theorem ref_first (s : ByteArray) (frm : Int) (h : RefM B g n fold L q c w0 V) (hg : Mn.Good fold L) (hs : s.size ≤ 4294967296) (hf1 : -9223372036854775808 ≤ frm) (hf2 : frm ≤ 9223372036854775807) :
    Calls Try.prog 32 #[.pointer (some ⟨g, 0, none⟩), .string s, .int .i64 frm] V fun e w' => e = .returned (fstV (Mn.fstF (Mn.nsOf (Mn.wds fold L)) (Mn.wds fold L) ((tx fold s).drop frm.toNat) [] frm.toNat 0 (-1))) ∧ Below V.heap.size V w' := by
  obtain ⟨h1, h2, h3⟩ := h.st2
  have hfs := Mn.fst_fs (W := Mn.wds fold L) (tx fold s) frm.toNat
  have hn := (Wok.of hg).nod
  obtain ⟨⟨pa, fa⟩, hR⟩ : ∃ R, Mn.fstF (Mn.nsOf (Mn.wds fold L)) (Mn.wds fold L) ((tx fold s).drop frm.toNat) [] frm.toNat 0 (-1) = R := ⟨_, rfl⟩
  rw [hR] at hfs ⊢
  simp only at hfs
  refine (refFirst_any g n c q fold (L.map (Mn.fd fold)) s frm V h1 h2 h3 (by rw [h.len]; exact hg.few) (ref_sizes hg) hs hf1 hf2).mono ?_
  rintro e w' ⟨h4, hb⟩
  refine ⟨?_, hb⟩
  unfold fstV
  rcases h4 with ⟨a, v, rfl, h5, h6, h7⟩ | ⟨rfl, a, h5, h6⟩
  · rw [h.len] at h7
    obtain ⟨e1, e2⟩ := Mn.fs_one hn hfs (Mn.fs_of_some hg s h5 h6 h7)
    have hne : fa ≠ -1 := by omega
    rw [if_neg hne, e2 hne, e1]
  · obtain ⟨e1, _⟩ := Mn.fs_one hn hfs (Mn.fs_of_none (p := 0) hg s h5 h6)
    rw [if_pos e1]
end
end Go.Proofs.Ytlbfnchjbpioeaa
