/-
  A region that draws its order and whose operations keep what is known of the world, by the values that they answer; and what the laws' pick answers. Conditions: as each says.
-/
import Derived.Test.YtchjmhgalbkjkabQt
import Derived.Test.YtchjmhgalbkjkabPick4
namespace Go.Proofs.Ytchjmhgalbkjkab
open Go.RowKit Go.Shelf
set_option linter.unusedVariables false
section
variable {F : Fence} {n : Nat} {P : Program} {ops : Array Oper} {Q : Exit → Act → World → Prop}
theorem ready_least' (L : Array Bool) (hs : L.size = ops.size) (hd : ∀ (i : Nat) (o : Oper), ops[i]? = some o → ∀ e, e ∈ o.after → Region.binds .any e = true → e.on < i) (h : Region.ready .any ops L = []) : ∀ k, k < ops.size → L.getD k false = true := by
  intro k
  induction k using Nat.strongRecOn with
  | _ k ih =>
    intro hk
    cases e : L.getD k false with
    | true => rfl
    | false =>
      have hm : k ∈ Region.ready .any ops L := by
        unfold Region.ready
        rw [List.mem_filter]
        refine ⟨by simpa using hk, ?_⟩
        have hL : L.getD k true = false := by
          simp only [Array.getD, dif_pos (show k < L.size by omega)] at e ⊢
          exact e
        have ho : ops[k]? = some ops[k] := Array.getElem?_eq_getElem hk
        rw [hL, ho]
        simp only [Bool.not_false, Bool.true_and, Option.map_some, Option.getD_some, Array.all_eq_true']
        intro d hd2
        cases hb : Region.binds .any d with
        | false => rfl
        | true =>
          have := hd k _ ho d hd2 hb
          rw [ih d.on this (by omega), Bool.or_true]
      rw [h] at hm
      cases hm
def depsOk' (ops : Array Oper) : Bool := (List.range ops.size).all fun i => match ops[i]? with | some o => o.after.all (fun e => !(Region.binds .any e) || decide (e.on < i)) | none => true
theorem deps_of' (h : depsOk' ops = true) : ∀ (i : Nat) (o : Oper), ops[i]? = some o → ∀ e, e ∈ o.after → Region.binds .any e = true → e.on < i := by
  intro i o ho e he hb
  have hi : i < ops.size := (Array.getElem?_eq_some_iff.1 ho).1
  have h1 := List.all_eq_true.1 h i (by simpa using hi)
  rw [ho] at h1
  have h2 := (Array.all_eq_true' .. ).1 h1 e he
  rw [hb] at h2
  exact of_decide_eq_true (by simpa using h2)
theorem region_kept {id : Nat} (hm : P.follows .mixedOrders = true) (vals : Nat → Value) (fr : (Nat → Value) → Act) (f0 : Nat → Value) (w : World) (G : World → Prop) (hG : G { w with drawn := w.drawn + 1 })
    (hd : ∀ (i : Nat) (o : Oper), ops[i]? = some o → ∀ e, e ∈ o.after → Region.binds .any e = true → e.on < i)
    (hc : ∀ f g : Nat → Value, (∀ k, k < ops.size → f k = g k) → fr f = fr g)
    (step : ∀ X, G X → ∀ i, i < ops.size → ∀ o : Oper, ops[i]? = some o → ∀ f : Nat → Value, (∀ e, e ∈ o.after → Region.binds .any e = true → f e.on = vals e.on) → ∀ K : Act → World → Prop, (∀ Y, G Y → K (fr (upd f i (vals i))) Y) → wpOpIn F n P ops Q i K (fr f) X)
    (fin : ∀ X, G X → Q .normal (fr vals) X) :
    (Code.region id ops true).wpIn F n P Q (fr f0) w := by
  refine wpIn_region_any hm ?_
  refine any_inv (fun L a X => L.size = ops.size ∧ G X ∧ ∃ f, a = fr f ∧ ∀ k, k < ops.size → L.getD k false = true → f k = vals k) (fun L a X h => h.1) ?_ ?_ _ _ _ _ ?_ (by simp)
  · rintro L a X ⟨hs, hX, f, rfl, hf⟩ i hi h0 hr
    have ho : ops[i]? = some ops[i] := Array.getElem?_eq_getElem hi
    refine step X hX i hi _ ho f ?_ _ ?_
    · intro e he hb
      have hr2 := (List.mem_filter.1 hr).2
      rw [ho] at hr2
      simp only [Option.map_some, Option.getD_some, Bool.and_eq_true, Array.all_eq_true'] at hr2
      have h1 := hr2.2 e he
      rw [hb] at h1
      have hlt := hd i _ ho e he hb
      refine hf e.on (by omega) ?_
      simpa using h1
    · intro Y hY
      refine ⟨by simpa using hs, hY, _, rfl, fun k hk hl => ?_⟩
      rw [set_getD L i k false (by omega)] at hl
      unfold upd
      by_cases e : k = i
      · subst e
        rw [if_pos rfl]
      · rw [if_neg e]
        rw [if_neg e] at hl
        exact hf k hk hl
  · rintro L a X ⟨hs, hX, f, rfl, hf⟩ hr
    have hall := ready_least' L hs hd hr
    rw [hc f vals (fun k hk => hf k hk (hall k hk))]
    exact fin X hX
  · refine ⟨by simp, hG, f0, rfl, fun k hk hl => ?_⟩
    exfalso
    simp only [Array.getD] at hl
    split at hl <;> simp at hl
end
/-- which of n things a number speaks of -/
def pickN (c n : Int) : Nat := ((if c < 0 then -(c + 1) else c) % n).toNat
theorem pickN_lt (c n : Int) (h : 0 < n) : (pickN c n : Int) < n := by
  unfold pickN
  have h1 := Int.emod_nonneg (if c < 0 then -(c + 1) else c) (show n ≠ 0 by omega)
  have h2 := Int.emod_lt_of_pos (if c < 0 then -(c + 1) else c) h
  omega
set_option maxHeartbeats 400000 in
theorem pick_det (c n : Int) (w : World) (h0 : 0 < n) (hn : n ≤ 9223372036854775807) (hl : -9223372036854775808 ≤ c) (hh : c ≤ 9223372036854775807) :
    Calls Try.prog 8 #[.int .i64 c, .int .i64 n] w fun e w' => e = .returned (.int .i64 (pickN c n : Int)) ∧ w' = w := by
  have hp : (pickN c n : Int) = (if c < 0 then -(c + 1) else c) % n := by
    unfold pickN
    have h1 := Int.emod_nonneg (if c < 0 then -(c + 1) else c) (show n ≠ 0 by omega)
    omega
  rw [hp]
  by_cases hc : c < 0
  · rw [if_pos hc]
    have h1 : 0 ≤ -(c + 1) % n := Int.emod_nonneg _ (by omega)
    have h2 : -(c + 1) % n < n := Int.emod_lt_of_pos _ h0
    have h3 : ¬ n = 0 := by omega
    go_enter Try.func8, Try.ntmps8
    go_wp2
    go_ret
    refine ⟨ret_i64 ?_, rfl⟩
    rw [← Int.neg_tmod, Int.tmod_eq_emod_of_nonneg (by omega)]
  · rw [if_neg hc]
    have h1 : 0 ≤ c % n := Int.emod_nonneg _ (by omega)
    have h2 : c % n < n := Int.emod_lt_of_pos _ h0
    have h3 : ¬ n = 0 := by omega
    go_enter Try.func8, Try.ntmps8
    go_wp2
    go_ret
    refine ⟨ret_i64 ?_, rfl⟩
    omega
end Go.Proofs.Ytchjmhgalbkjkab
