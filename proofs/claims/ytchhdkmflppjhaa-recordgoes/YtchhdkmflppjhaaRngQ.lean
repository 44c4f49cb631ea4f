/-
  A drawn region that only reads, in a round: as outside one. Conditions: as each says.
-/
import Derived.Sort.BigQuietIn
namespace Go.Proofs.Ytchhdkmflppjhaa
open Go.RowKit
set_option linter.unusedVariables false
section
variable {F : Fence} {n : Nat} {P : Program} {ops : Array Oper} {Q : Exit → Act → World → Prop}
theorem uponIn_round (l : Nat) (o : Oper) (a : Act) (K : Act → World → Prop) (r : Result Next) (h : o.uponIn F n P a K Q r) : o.uponIn (F.inRound l) n P a K Q r := by
  rcases r with ⟨x, w'⟩ | ⟨x, w'⟩ <;> first | exact h | (cases x <;> exact h)
theorem wpOpIn_round (l : Nat) (hd : ∀ (i : Nat) (o : Oper), ops[i]? = some o → ∀ c, o.op ≠ .defer c) (i : Nat) (K : Act → World → Prop) (a : Act) (w : World) (h : wpOpIn F n P ops Q i K a w) : wpOpIn (F.inRound l) n P ops Q i K a w := by
  unfold wpOpIn at *
  split at h
  · rename_i e
    exact h
  · rename_i o e
    by_cases hw : Region.wanted o (yielded ops a.tmps) = true
    · rw [if_pos hw] at h ⊢
      unfold Oper.wpIn at *
      refine ⟨h.1, uponIn_round l o a K _ ?_⟩
      have h2 := h.2
      rw [Oper.semAt_eq _ _ _ (hd i o e)] at h2 ⊢
      exact h2
    · rw [if_neg hw] at h ⊢
      exact h
theorem wpAnyIn_round {md : Region.Mode} (l : Nat) (hd : ∀ (i : Nat) (o : Oper), ops[i]? = some o → ∀ c, o.op ≠ .defer c) : ∀ (fuel : Nat) (listed : Array Bool) (a : Act) (w : World), wpAnyIn F n P md ops Q fuel listed a w → wpAnyIn (F.inRound l) n P md ops Q fuel listed a w
  | 0, _, _, _, h => h
  | fuel + 1, listed, a, w, h => by
    refine ⟨h.1, fun i hi => ?_⟩
    refine wpOpIn_mono (fun a w h => wpAnyIn_round l hd fuel _ a w h) (wpOpIn_round l hd i _ a w (h.2 i hi))
theorem wpIn_region_quiet_rnd {id : Nat} {a : Act} {w : World} {L : List Oper} (l : Nat) (hro : F.round = none) (hm : P.follows .mixedOrders = true) (hB : Region.lexB .any L.toArray = true) (hd0 : L.all (fun o => match o.op with | .defer _ => false | _ => true) = true)
    (h : wpQuietIn F n P L.toArray (fun w' => ∃ n, w' = w.drewN n) (fun a' => ∀ w', (∃ n, w' = w.drewN n) → Q .normal a' w') L a) : (Code.region id L.toArray true).wpIn (F.inRound l) n P Q a w := by
  have hd : ∀ o ∈ L, ∀ c, o.op ≠ .defer c := fun o ho c e => by
    rw [List.all_eq_true] at hd0
    have := hd0 o ho
    rw [e] at this
    cases this
  simp only [Region.lexB, Bool.and_eq_true] at hB
  refine wpIn_region_any hm (wpAnyIn_round l (fun i o ho => hd o (by rw [List.getElem?_toArray] at ho; exact List.mem_of_getElem? ho)) _ _ _ _ (wpAnyIn_of_quiet (C := fun w' => ∃ n, w' = w.drewN n) (Q := fun a' => ∀ w', (∃ n, w' = w.drewN n) → Q .normal a' w') hro (fun _ w' hw' h => h w' hw') _ _ _ _ ⟨1, rfl⟩ ?_))
  have := wpAnyQIn_lex (F := F) (n := n) (C := fun w' => ∃ n, w' = w.drewN n) (md := .any) hB.1 L.toArray.toList 0 (Array.replicate L.toArray.size false) a (by simp) (by simpa using hB.2) (by simpa using h)
  simpa using this
end
end Go.Proofs.Ytchhdkmflppjhaa
