/-
  The laws' fits: words that may be a set. Conditions: as each says.
-/
import Derived.Test.YtlbfnchjbpioeaaMnO
namespace Swar
theorem small_small (b : Nat) : small (small b) = small b := by
  unfold small
  by_cases h : 65 ≤ b ∧ b ≤ 90
  · rw [if_pos h, if_neg (by omega)]
  · rw [if_neg h, if_neg h]
theorem fold_fold (a : ByteArray) : foldL (foldL a) = foldL a := by
  refine ext_bt _ _ (fold_size _) (fun i hi => ?_)
  rw [bt_fold, bt_fold, small_small]
end Swar
namespace Mn
def cut40 (s : ByteArray) : ByteArray := if 40 < s.size then s.extract 0 40 else s
theorem cut40_size (s : ByteArray) : (cut40 s).size ≤ 40 := by
  unfold cut40
  split
  · rw [ByteArray.size_extract]
    omega
  · omega
def fw (fold : Bool) (s : ByteArray) : ByteArray := fd fold (cut40 s)
theorem fw_size (fold : Bool) (s : ByteArray) : (fw fold s).size ≤ 40 := by
  unfold fw
  rw [fd_size]
  exact cut40_size s
theorem fw_fd (fold : Bool) (s : ByteArray) : fd fold (fw fold s) = fw fold s := by
  unfold fw fd
  cases fold
  · rfl
  · exact Swar.fold_fold _
/-- is it fresh, as far as the first k of them tell? -/
def fresh (out : List ByteArray) (x : ByteArray) (k : Nat) : Bool := decide (x ≠ ByteArray.empty) && (out.take k).all fun y => decide (y ≠ x)
def fitS (fold : Bool) (out : List ByteArray) (s : ByteArray) : List ByteArray := if out.length < 30 then (if fresh out (fw fold s) out.length = true then out ++ [fw fold s] else out) else out
def fitK (fold : Bool) (R : List ByteArray) (i : Nat) : List ByteArray := (R.take i).foldl (fitS fold) []
theorem fitK_next (fold : Bool) (R : List ByteArray) (i : Nat) (hi : i < R.length) : fitK fold R (i + 1) = fitS fold (fitK fold R i) (R.getD i ByteArray.empty) := by
  unfold fitK
  rw [List.take_add_one, List.getElem?_eq_getElem hi, Option.toList_some, List.foldl_append, List.getD_eq_getElem?_getD, List.getElem?_eq_getElem hi]
  rfl
def fitL (fold : Bool) (R : List ByteArray) : List ByteArray := if (fitK fold R R.length).length = 0 then [⟨#[119]⟩] else fitK fold R R.length
theorem fitK_full (fold : Bool) (R : List ByteArray) (i : Nat) (h : ¬ (fitK fold R i).length < 30) : ∀ d, i + d ≤ R.length → fitK fold R (i + d) = fitK fold R i
  | 0, _ => rfl
  | d + 1, hd => by
    have ih := fitK_full fold R i h d (by omega)
    rw [← Nat.add_assoc, fitK_next fold R (i + d) (by omega), ih]
    unfold fitS
    rw [if_neg h]
structure Fit (fold : Bool) (L : List ByteArray) : Prop where
  len : L.length ≤ 30
  siz : ∀ x ∈ L, 1 ≤ x.size ∧ x.size ≤ 40
  small : ∀ x ∈ L, fd fold x = x
  nod : L.Nodup
theorem fit_step {fold : Bool} {L : List ByteArray} (h : Fit fold L) (s : ByteArray) : Fit fold (fitS fold L s) := by
  unfold fitS
  by_cases h1 : L.length < 30
  · rw [if_pos h1]
    by_cases h2 : fresh L (fw fold s) L.length = true
    · rw [if_pos h2]
      unfold fresh at h2
      rw [Bool.and_eq_true, List.take_length, List.all_eq_true] at h2
      have hne := of_decide_eq_true h2.1
      have hz : (fw fold s).size ≠ 0 := fun e => hne (by
        apply ByteArray.ext
        exact Array.eq_empty_of_size_eq_zero e)
      have hni : fw fold s ∉ L := fun hm => of_decide_eq_true (h2.2 _ hm) rfl
      refine ⟨by simp; omega, ?_, ?_, ?_⟩
      · intro x hx
        rcases List.mem_append.1 hx with hx | hx
        · exact h.siz x hx
        · simp at hx
          subst hx
          exact ⟨by omega, fw_size fold s⟩
      · intro x hx
        rcases List.mem_append.1 hx with hx | hx
        · exact h.small x hx
        · simp at hx
          subst hx
          exact fw_fd fold s
      · rw [List.nodup_append]
        refine ⟨h.nod, by simp, ?_⟩
        intro a ha b hb
        simp at hb
        subst hb
        intro e
        subst e
        exact hni ha
    · rw [if_neg h2]
      exact h
  · rw [if_neg h1]
    exact h
theorem fit_foldl {fold : Bool} : ∀ (l : List ByteArray) (o : List ByteArray), Fit fold o → Fit fold (l.foldl (fitS fold) o)
  | [], _, h => h
  | s :: l, _, h => fit_foldl l _ (fit_step h s)
theorem fitL_fit (fold : Bool) (R : List ByteArray) : Fit fold (fitL fold R) ∧ 0 < (fitL fold R).length := by
  unfold fitL
  by_cases h : (fitK fold R R.length).length = 0
  · rw [if_pos h]
    refine ⟨⟨by decide, by decide, ?_, by decide⟩, by decide⟩
    intro x hx
    simp at hx
    subst hx
    cases fold
    · rfl
    · decide +kernel
  · rw [if_neg h]
    exact ⟨fit_foldl _ _ ⟨by simp, by simp, by simp, by simp⟩, by omega⟩
theorem Fit.good {fold : Bool} {L : List ByteArray} (h : Fit fold L) (h0 : 0 < L.length) : Good fold L := by
  refine ⟨h0, by have := h.len; omega, fun k hk => ?_⟩
  have hm : L.getD k ByteArray.empty ∈ L := by
    rw [List.getD_eq_getElem?_getD, List.getElem?_eq_getElem hk]
    exact List.getElem_mem hk
  unfold bad
  have h1 := h.siz _ hm
  have h2 : word (L.getD k ByteArray.empty) = true := decide_eq_true ⟨h1.1, by omega⟩
  rw [h2]
  cases e : among fold (L.take k) (L.getD k ByteArray.empty) with
  | false => rfl
  | true =>
    unfold among at e
    rw [List.any_eq_true] at e
    obtain ⟨x, hx, hd⟩ := e
    have hd := of_decide_eq_true hd
    rw [h.small _ (List.mem_of_mem_take hx), h.small _ hm] at hd
    subst hd
    obtain ⟨j, hj, hjx⟩ := List.mem_iff_getElem.1 hx
    rw [List.length_take] at hj
    rw [List.getElem_take, List.getD_eq_getElem?_getD, List.getElem?_eq_getElem hk] at hjx
    have := (List.getElem_inj h.nod).1 hjx
    omega
end Mn
namespace Go.Proofs.Ytlbfnchjbpioeaa
open Go.RowKit Go.Shelf
set_option linter.unusedVariables false
def strL (l : List ByteArray) : List Value := l.map Value.string
theorem str_at {w : World} {B n : Nat} {p : Option Addr} {cap : Nat} {L : List ByteArray} (h : w.ownsRow B 9 1 (.slice p n cap) n (strL L)) (hn : n = L.length) : StrAt w p L := by
  intro i hi
  rcases h.2 with ⟨h0, h1⟩ | ⟨g, cap', cur, h1, _⟩
  · omega
  · simp only [Value.slice.injEq] at h1
    obtain ⟨rfl, _, rfl⟩ := h1
    have := h.cells (g := g) rfl i (.string (L.getD i ByteArray.empty)) (by
      unfold strL
      rw [List.getElem?_map, List.getElem?_eq_getElem hi, List.getD_eq_getElem?_getD, List.getElem?_eq_getElem hi]
      rfl)
    rw [Addr.add_lit] at this
    exact ⟨g, 0, rfl, this⟩
theorem infoSt : (Try.prog.info? 9).map (fun i => (i.zero, i.size, i.bytes)) = some (some (.string ⟨#[]⟩), 1, 16) := by kernel_rfl
theorem str_news (w : World) (x : ByteArray) {B : Nat} (hB : B = w.heap.size) : ∀ (j : Nat) (u : Value), [Value.string x][j]? = some u → (w.alloc (.cells #[.string x] 9)).cell? ((⟨B, 0, none⟩ : Addr).add j) = some u := int_news w (.string x) 9 hB
theorem str_one (x : ByteArray) : ∀ u ∈ [Value.string x], u.oneCell' = true := by
  intro u hu
  simp at hu
  rw [hu]
  rfl
theorem own_relS {w wr w1 : World} {v : Value} {B n : Nat} {xs : List Value} {o : Obj} (hB : B ≤ wr.heap.size) (hown : wr.ownsRow B 9 1 v n xs) (hb : Below B w wr) (hg : (wr.alloc o).grownBy w1 v.ownBlock) : Below B w w1 :=
  (hb.alloc hB o).grown hg (by simp; omega) (fun k hk => (hown.lt k hk).1)
end Go.Proofs.Ytlbfnchjbpioeaa
