/-
  The level 3: what is looked for, and how it is walked. Conditions: as each says.
-/
import Derived.Test.YtchjmhgalbkjkaaLzK
import Derived.Test.YtchjmhgalbkjkaaNrs
import Derived.Test.YtchjmhgalbkjkaaWlk
import Derived.Lib.MinMax
import Derived.Test.YtchjmhgalbkjkaaLng
import Derived.Deep.Cut
import Derived.Test.YtchjmhgalbkjkaaGre
import Derived.Deep.RegionHeld3
import Derived.Deep.AppendLies
import Derived.Deep.DeepCutAuto
import Derived.Test.YtchjmhgalbkjkaaCps
set_option linter.unusedVariables false
namespace Lz
/-- how many length bytes a count has -/
def lenz (n : Nat) : Nat := if n < 15 then 0 else (n - 15) / 255 + 1
theorem lenz_le (n : Nat) : lenz n ≤ n := by
  unfold lenz
  split <;> omega
/-- the longest copy at a place, of offsets up to one -/
def rch (bs : List Nat) : Nat → Nat → Nat
  | 0, _ => 0
  | o + 1, a => if o + 1 ≤ a ∧ 4 ≤ agree bs (a - (o + 1)) a ∧ a + 12 ≤ bs.length then max (rch bs o a) (agree bs (a - (o + 1)) a) else rch bs o a
theorem rch_ok (bs : List Nat) : ∀ (o a : Nat), rch bs o a = 0 ∨ (4 ≤ rch bs o a ∧ a + 12 ≤ bs.length ∧ ∃ off, 1 ≤ off ∧ off ≤ a ∧ off ≤ o ∧ rch bs o a = agree bs (a - off) a)
  | 0, a => .inl rfl
  | o + 1, a => by
    have ih := rch_ok bs o a
    unfold rch
    split
    · rename_i h
      right
      rcases Nat.le_total (rch bs o a) (agree bs (a - (o + 1)) a) with hm | hm
      · rw [Nat.max_eq_right hm]
        exact ⟨h.2.1, h.2.2, o + 1, by omega, h.1, Nat.le_refl _, rfl⟩
      · rw [Nat.max_eq_left hm]
        rcases ih with h0 | ⟨h1, h2, off, h3, h4, h5, h6⟩
        · omega
        · exact ⟨h1, h2, off, h3, h4, by omega, h6⟩
    · rcases ih with h0 | ⟨h1, h2, off, h3, h4, h5, h6⟩
      · exact .inl h0
      · exact .inr ⟨h1, h2, off, h3, h4, by omega, h6⟩
theorem rch_le (bs : List Nat) (o a : Nat) : rch bs o a ≤ bs.length - 5 - a := by
  rcases rch_ok bs o a with h | ⟨_, _, off, _, _, _, h⟩
  · omega
  · rw [h]
    exact agree_le bs _ a
/-- the best copy at a place: the counts d + 3 and below -/
def bcF (W : Nat → Nat) (a : Nat) : Nat → Nat × Nat → Nat × Nat
  | 0, b => b
  | d + 1, b => bcF W a d (if b.2 = 0 ∨ 2 + lenz d + W (a + (d + 4)) < b.1 then (2 + lenz d + W (a + (d + 4)), d + 4) else b)
/-- the best way from a place: fewer literals than d -/
def bwF (C : Nat → Nat × Nat) (a : Nat) : Nat → Nat × Nat × Nat → Nat × Nat × Nat
  | 0, b => b
  | d + 1, b => bwF C a d (if 0 < (C (a + d)).2 ∧ 1 + lenz d + d + (C (a + d)).1 ≤ b.1 then (1 + lenz d + d + (C (a + d)).1, d, (C (a + d)).2) else b)
theorem bcF_ok (W : Nat → Nat) (a r : Nat) : ∀ (d : Nat) (b : Nat × Nat), d + 3 ≤ r ∨ d = 0 → (b.2 = 0 ∨ (4 ≤ b.2 ∧ b.2 ≤ r)) → ((bcF W a d b).2 = 0 ∨ (4 ≤ (bcF W a d b).2 ∧ (bcF W a d b).2 ≤ r))
  | 0, b, _, hb => hb
  | d + 1, b, hd, hb => by
    rw [bcF]
    refine bcF_ok W a r d _ (by omega) ?_
    split
    · right
      simp only
      omega
    · exact hb
theorem bcF_cost (W : Nat → Nat) (a m : Nat) (hW : ∀ x, W x ≤ m) : ∀ (d : Nat) (b : Nat × Nat), d ≤ m → b.1 ≤ 2 + m + m → (bcF W a d b).1 ≤ 2 + m + m
  | 0, b, _, hb => hb
  | d + 1, b, hd, hb => by
    rw [bcF]
    refine bcF_cost W a m hW d _ (by omega) ?_
    split
    · have := hW (a + (d + 4))
      have := lenz_le d
      simp only
      omega
    · exact hb
theorem bwF_cost (C : Nat → Nat × Nat) (a : Nat) : ∀ (d : Nat) (b : Nat × Nat × Nat), (bwF C a d b).1 ≤ b.1
  | 0, b => Nat.le_refl _
  | d + 1, b => by
    rw [bwF]
    refine Nat.le_trans (bwF_cost C a d _) ?_
    split
    · rename_i h
      exact h.2
    · exact Nat.le_refl _
theorem bwF_ok (C : Nat → Nat × Nat) (a n : Nat) : ∀ (d : Nat) (b : Nat × Nat × Nat), a + d + 11 ≤ n ∨ d = 0 → (b.2.2 = 0 ∨ (a + b.2.1 + 12 ≤ n ∧ b.2.2 = (C (a + b.2.1)).2)) → ((bwF C a d b).2.2 = 0 ∨ (a + (bwF C a d b).2.1 + 12 ≤ n ∧ (bwF C a d b).2.2 = (C (a + (bwF C a d b).2.1)).2))
  | 0, b, _, hb => hb
  | d + 1, b, hd, hb => by
    rw [bwF]
    refine bwF_ok C a n d _ (by omega) ?_
    split
    · right
      simp only
      exact ⟨by omega, trivial⟩
    · exact hb
/-- the tables: so many places from the end on -/
def tab (n : Nat) (R : Nat → Nat) : Nat → List (Nat × Nat) × List (Nat × Nat × Nat)
  | 0 => ([], [])
  | k + 1 =>
    let t := tab n R k
    let c := bcF (fun x => (t.2.getD (x - (n - k) - 1) (0, 0, 0)).1) (n - k) (R (n - k) - 3) (0, 0)
    (c :: t.1, bwF (fun x => (c :: t.1).getD (x - (n - k)) (0, 0)) (n - k) (n - (n - k) - 11) (1 + lenz (n - (n - k)) + (n - (n - k)), n - (n - k), 0) :: t.2)
theorem tab_len (n : Nat) (R : Nat → Nat) : ∀ k, (tab n R k).1.length = k ∧ (tab n R k).2.length = k
  | 0 => ⟨rfl, rfl⟩
  | k + 1 => by
    have := tab_len n R k
    simp only [tab, List.length_cons]
    omega
theorem tab_cost (n : Nat) (R : Nat → Nat) (k : Nat) : ∀ x ∈ (tab n R k).2, x.1 ≤ 2 * n + 1 := by
  induction k with
  | zero => intro x hx; simp [tab] at hx
  | succ k ih =>
    intro x hx
    simp only [tab, List.mem_cons] at hx
    rcases hx with rfl | hx
    · refine Nat.le_trans (bwF_cost _ _ _ _) ?_
      have := lenz_le (n - (n - k))
      simp only
      omega
    · exact ih x hx
/-- what a way may be -/
def WayOk (n : Nat) (R : Nat → Nat) (a : Nat) (w : Nat × Nat × Nat) : Prop := w.2.2 = 0 ∨ (a + w.2.1 + 12 ≤ n ∧ 4 ≤ w.2.2 ∧ w.2.2 ≤ R (a + w.2.1))
theorem tab_ok (n : Nat) (R : Nat → Nat) : ∀ (k : Nat), k ≤ n + 1 → (∀ (i : Nat) (c : Nat × Nat), (tab n R k).1[i]? = some c → c.2 = 0 ∨ (4 ≤ c.2 ∧ c.2 ≤ R (n + 1 - k + i))) ∧ (∀ (i : Nat) (w : Nat × Nat × Nat), (tab n R k).2[i]? = some w → WayOk n R (n + 1 - k + i) w)
  | 0, _ => ⟨fun i c h => by simp [tab] at h, fun i w h => by simp [tab] at h⟩
  | k + 1, hk => by
    obtain ⟨ih1, ih2⟩ := tab_ok n R k (by omega)
    have e : n + 1 - (k + 1) = n - k := by omega
    have hc : ∀ (i : Nat) (c : Nat × Nat), (tab n R (k + 1)).1[i]? = some c → c.2 = 0 ∨ (4 ≤ c.2 ∧ c.2 ≤ R (n - k + i)) := by
      intro i c h
      cases i with
      | zero =>
        simp only [tab, List.getElem?_cons_zero, Option.some.injEq] at h
        subst h
        rw [Nat.add_zero]
        exact bcF_ok _ _ _ _ _ (by omega) (.inl rfl)
      | succ i =>
        simp only [tab, List.getElem?_cons_succ] at h
        have := ih1 i c h
        rw [show n + 1 - k + i = n - k + (i + 1) by omega] at this
        exact this
    refine ⟨fun i c h => by rw [e]; exact hc i c h, fun i w h => ?_⟩
    rw [e]
    cases i with
    | succ i =>
      simp only [tab, List.getElem?_cons_succ] at h
      have := ih2 i w h
      rw [show n + 1 - k + i = n - k + (i + 1) by omega] at this
      exact this
    | zero =>
      simp only [tab, List.getElem?_cons_zero, Option.some.injEq] at h
      rw [Nat.add_zero]
      have hb := bwF_ok (fun x => ((tab n R (k + 1)).1).getD (x - (n - k)) (0, 0)) (n - k) n (n - (n - k) - 11) (1 + lenz (n - (n - k)) + (n - (n - k)), n - (n - k), 0) (by omega) (.inl rfl)
      have h' : bwF (fun x => ((tab n R (k + 1)).1).getD (x - (n - k)) (0, 0)) (n - k) (n - (n - k) - 11) (1 + lenz (n - (n - k)) + (n - (n - k)), n - (n - k), 0) = w := h
      rw [h'] at hb
      rcases hb with hb | ⟨h1, h2⟩
      · exact .inl hb
      · rw [show n - k + w.2.1 - (n - k) = w.2.1 by omega] at h2
        have hl := (tab_len n R (k + 1)).1
        rw [List.getD_eq_getElem?_getD, List.getElem?_eq_getElem (by omega), Option.getD_some] at h2
        rcases hc w.2.1 _ (List.getElem?_eq_getElem (by omega)) with h3 | h3
        · exact .inl (by omega)
        · exact .inr ⟨h1, by omega, by omega⟩
/-- the least offset of a copy -/
def leastF (bs : List Nat) (a cnt : Nat) : Nat → Nat → Nat
  | 0, o => o
  | f + 1, o => if (bs.drop (a - o)).take cnt = (bs.drop a).take cnt then o else leastF bs a cnt f (o + 1)
/-- the copies, out of the ways -/
def unrF (bs : List Nat) (L : List (Nat × Nat × Nat)) : Nat → Nat → List Cp
  | 0, _ => []
  | f + 1, a =>
    if (L.getD a (0, 0, 0)).2.2 = 0 then []
    else ⟨a + (L.getD a (0, 0, 0)).2.1, leastF bs (a + (L.getD a (0, 0, 0)).2.1) (L.getD a (0, 0, 0)).2.2 (a + (L.getD a (0, 0, 0)).2.1) 1, (L.getD a (0, 0, 0)).2.2⟩ :: unrF bs L f (a + (L.getD a (0, 0, 0)).2.1 + (L.getD a (0, 0, 0)).2.2)
theorem leastF_ok (bs : List Nat) (a cnt : Nat) : ∀ (f o off : Nat), o ≤ off → off < o + f → (bs.drop (a - off)).take cnt = (bs.drop a).take cnt → o ≤ leastF bs a cnt f o ∧ leastF bs a cnt f o ≤ off ∧ (bs.drop (a - leastF bs a cnt f o)).take cnt = (bs.drop a).take cnt
  | 0, o, off, h1, h2, _ => by omega
  | f + 1, o, off, h1, h2, h3 => by
    unfold leastF
    split
    · rename_i h
      exact ⟨Nat.le_refl _, h1, h⟩
    · rename_i h
      have hne : off ≠ o := fun e => h (by rw [← e]; exact h3)
      have := leastF_ok bs a cnt f (o + 1) off (by omega) (by omega) h3
      exact ⟨by omega, this.2.1, this.2.2⟩
theorem agree_take (bs : List Nat) (c p m : Nat) (hcp : c ≤ p) (h : m ≤ agree bs c p) : (bs.drop c).take m = (bs.drop p).take m := by
  have hle := agree_le bs c p
  apply List.ext_getElem?
  intro i
  rw [List.getElem?_take, List.getElem?_take]
  by_cases hi : i < m
  · rw [if_pos hi, if_pos hi, List.getElem?_drop, List.getElem?_drop]
    have hg := agree_get bs c p i (by omega)
    by_cases hc : c + i < bs.length
    · by_cases hp : p + i < bs.length
      · rw [List.getD_eq_getElem?_getD, List.getD_eq_getElem?_getD, List.getElem?_eq_getElem hc, List.getElem?_eq_getElem hp] at hg
        simp only [Option.getD_some] at hg
        rw [List.getElem?_eq_getElem hc, List.getElem?_eq_getElem hp, hg]
      · omega
    · omega
  · rw [if_neg hi, if_neg hi]
theorem take_get (bs : List Nat) (x y m k : Nat) (h : (bs.drop x).take m = (bs.drop y).take m) (hk : k < m) : bs.getD (y + k) 0 = bs.getD (x + k) 0 := by
  have h1 := congrArg (fun l => l[k]?) h
  simp only [List.getElem?_take, if_pos hk, List.getElem?_drop] at h1
  rw [List.getD_eq_getElem?_getD, List.getD_eq_getElem?_getD, h1]
/-- the copies are true -/
theorem unrF_true (bs : List Nat) (o : Nat) (L : List (Nat × Nat × Nat)) (hL : ∀ (i : Nat) (w : Nat × Nat × Nat), L[i]? = some w → WayOk bs.length (rch bs o) i w) : ∀ (f a : Nat), (∀ c ∈ unrF bs L f a, c.off ≤ 65535) → tru bs a (unrF bs L f a)
  | 0, a, _ => trivial
  | f + 1, a, hoff => by
    unfold unrF at hoff ⊢
    split
    · trivial
    · rename_i h0
      rw [if_neg h0] at hoff
      obtain ⟨w, hw⟩ : ∃ w, L[a]? = some w := by
        cases e : L[a]? with
        | none => rw [List.getD_eq_getElem?_getD, e] at h0; simp at h0
        | some w => exact ⟨w, rfl⟩
      have hg : L.getD a (0, 0, 0) = w := by rw [List.getD_eq_getElem?_getD, hw]; rfl
      rw [hg] at h0 hoff ⊢
      rcases hL a w hw with h | ⟨h1, h2, h3⟩
      · exact absurd h h0
      · obtain ⟨p, hp⟩ : ∃ p, a + w.2.1 = p := ⟨_, rfl⟩
        rw [hp] at h1 h3 hoff ⊢
        rcases rch_ok bs o p with h | ⟨r1, r2, off, r3, r4, r5, r6⟩
        · omega
        · have hal := agree_le bs (p - off) p
          have hl := leastF_ok bs p w.2.2 p 1 off r3 (by omega) (agree_take bs (p - off) p w.2.2 (by omega) (by omega))
          refine ⟨by simp only; omega, ⟨h2, hl.1, hoff _ (List.mem_cons_self ..), by simp only; omega, r2, by simp only; omega, fun k hk => ?_⟩, ?_⟩
          · have := take_get bs _ _ _ k hl.2.2 hk
            simp only
            rw [this]
            congr 1
            omega
          · exact unrF_true bs o L hL f _ (fun c hc => hoff c (List.mem_cons_of_mem _ hc))
theorem leastF_le (bs : List Nat) (a cnt : Nat) : ∀ (f o : Nat), leastF bs a cnt f o ≤ o + f
  | 0, o => Nat.le_refl _
  | f + 1, o => by
    unfold leastF
    split
    · omega
    · have := leastF_le bs a cnt f (o + 1)
      omega
end Lz

namespace Go.Proofs.Ytchjmhgalbkjkaa
open Go.RowKit
set_option linter.unusedVariables false
theorem ret_i {a b : Int} (h : a = b) : Ending.returned (.int .i64 a) = .returned (.int .i64 b) := by rw [h]
theorem lengthSize_any (n : Nat) (w : World) (hn : n ≤ 1099511627776) : Calls Try.prog 52 #[.int .i64 (n : Int)] w fun e w' => e = .returned (.int .i64 (Lz.lenz n : Nat)) ∧ w' = w := by
  by_cases h : n < 15
  · have hI : (n : Int) < 15 := by omega
    go_enter Try.func52, Try.ntmps52
    go_wp2
    go_ret
    refine ⟨?_, rfl⟩
    unfold Lz.lenz
    rw [if_pos h]
    rfl
  · have hI : ¬ (n : Int) < 15 := by omega
    have hq : Int.tdiv ((n : Int) - 15) 255 = (((n - 15) / 255 : Nat) : Int) := by
      rw [Int.tdiv_eq_ediv_of_nonneg (by omega)]
      omega
    go_enter Try.func52, Try.ntmps52
    go_wp2
    go_ret
    refine ⟨ret_i ?_, rfl⟩
    unfold Lz.lenz
    rw [if_neg h]
    omega
def rowN (f : Nat → Nat) (m : Nat) : List Value := (List.range m).map fun p => .int .i64 (f p : Int)
theorem rowN_zero (m : Nat) : madeCells (Value.int .i64 0).cells (m * 1) = (rowN (fun _ => 0) m).toArray := by
  apply Array.ext'
  apply List.ext_getElem
  · simp [rowN, madeCells]
  · intro i h1 h2
    simp [rowN, madeCells, Value.cells, Nat.mod_one]
theorem rowN_set (f : Nat → Nat) (m k x : Nat) : (rowN f m).set k (.int .i64 (x : Int)) = rowN (fun p => if p = k then x else f p) m := by
  apply List.ext_getElem
  · simp [rowN]
  · intro i h1 h2
    simp only [rowN, List.getElem_set, List.getElem_map, List.getElem_range]
    by_cases e : k = i
    · subst e
      simp
    · rw [if_neg e, if_neg (fun h => e h.symm)]
theorem make_rowN (m : Nat) (hm : m ≤ 4294967296) (w : World) : (Instr.makeSlice 29 (.int .i64 (m : Int)) (.int .i64 (m : Int))).run Try.prog w = .ok (.slice (some ⟨w.heap.size, 0, none⟩) m m) (w.alloc (.cells (rowN (fun _ => 0) m).toArray 3)) := by
  obtain ⟨i0, hi, hz0, hz1, hz2⟩ := info_parts infoI
  have := run_make (P := Try.prog) w 29 3 i0 (.int .i64 0) Try.underlying29 hi hz0 .i64 .i64 (m : Int) (m : Int) (by omega) (by omega) (by rw [hz2]; omega) (by omega)
  rw [this, hz1, Int.toNat_natCast, rowN_zero m]
theorem rowN_put {f : Nat → Nat} {m b : Nat} {w : World} (h : w.heap[b]? = some (.cells (rowN f m).toArray 3 (0, 0))) (k x : Nat) : (w.setCell ⟨b, k, none⟩ (.int .i64 (x : Int))).heap[b]? = some (.cells (rowN (fun p => if p = k then x else f p) m).toArray 3 (0, 0)) := by
  rw [setCell_eq_setRow w b k _ 3 (0, 0) _ h, setRow_heap w b _ _ 3 (0, 0) h, ← rowN_set f m k x]
  simp
theorem rowN_cell {f : Nat → Nat} {m b : Nat} {w : World} (h : w.heap[b]? = some (.cells (rowN f m).toArray 3 (0, 0))) (k : Nat) (hk : k < m) : w.cell? ⟨b, k, none⟩ = some (.int .i64 (f k : Int)) ∧ w.frozen? ⟨b, k, none⟩ = false := by
  simp [World.cell?, World.frozen?, h, rowN, hk]
theorem rch_same (bs : List Nat) (o a : Nat) (h : ¬ (o + 1 ≤ a ∧ 4 ≤ Lz.agree bs (a - (o + 1)) a ∧ a + 12 ≤ bs.length)) : Lz.rch bs (o + 1) a = Lz.rch bs o a := by rw [Lz.rch, if_neg h]
/-- the row, while the places of one offset are gone through from behind -/
structure Re (bs : List Nat) (g o n : Nat) (a : Int) (r : Nat) (w0 w : World) (F : Nat → Nat) : Prop where
  row : w.heap[g]? = some (.cells (rowN F (n + 1)).toArray 3 (0, 0))
  eq : ∀ x, F x = if a < (x : Int) then Lz.rch bs (o + 1) x else Lz.rch bs o x
  run : ∀ k : Nat, a = (k : Int) → r = Lz.agree bs (k + 1 - (o + 1)) (k + 1)
  bel : Below w0.heap.size w0 w
  le : a ≤ (n : Int) - 6
  rb : r ≤ n
theorem Re.step {bs : List Nat} {g o n k r : Nat} {w0 w w' : World} {F F' : Nat → Nat} (h : Re bs g o n (k : Int) r w0 w F) (r' : Nat) (hr : r' = Lz.agree bs (k - (o + 1)) k) (hrb : r' ≤ n) (hrow : w'.heap[g]? = some (.cells (rowN F' (n + 1)).toArray 3 (0, 0))) (hF : ∀ x, F' x = if x = k then Lz.rch bs (o + 1) k else F x) (hb : Below w0.heap.size w0 w') : Re bs g o n ((k : Int) - 1) r' w0 w' F' := by
  refine ⟨hrow, fun x => ?_, fun k' hk' => ?_, hb, by have := h.le; omega, hrb⟩
  · rw [hF x]
    by_cases e : x = k
    · subst e
      rw [if_pos rfl, if_pos (by omega)]
    · rw [if_neg e, h.eq x]
      by_cases h2 : (k : Int) < (x : Int)
      · rw [if_pos h2, if_pos (by omega)]
      · rw [if_neg h2, if_neg (by omega)]
  · rw [show k' + 1 = k by omega]
    exact hr
set_option maxRecDepth 100000 in
set_option maxHeartbeats 2000000 in
theorem reaches_any (s : ByteArray) (w : World) (hs : s.size ≤ 4096) :
    Calls Try.prog 39 #[.string s] w fun e w' => ∃ g, e = .returned (.slice (some ⟨g, 0, none⟩) (s.size + 1) (s.size + 1)) ∧ w.heap.size ≤ g ∧ w'.heap[g]? = some (.cells (rowN (Lz.rch (Sums.bl s) (s.size - 1)) (s.size + 1)).toArray 3 (0, 0)) ∧ Below w.heap.size w w' := by
  obtain ⟨n, hn⟩ : ∃ n, s.size = n := ⟨_, rfl⟩
  have hsl := Sums.bl_length s
  obtain ⟨m, hm⟩ : ∃ m, n + 1 = m := ⟨_, rfl⟩
  have hmI : (n : Int) + 1 = (m : Int) := by omega
  have hms := make_rowN m (by omega)
  rw [hn] at hsl hs ⊢
  have HM := Hid.mk' (And.intro hm hsl)
  have HN := Hid.mk' hn
  obtain ⟨g, hg⟩ : ∃ g, w.heap.size = g := ⟨_, rfl⟩
  have hsz : (s.size : Int) = (n : Int) := by omega
  clear hm hsl
  go_enter Try.func39, Try.ntmps39
  go_wp2
  have hst : (w.alloc (.cells (rowN (fun _ => 0) m).toArray 3)).heap[g]? = some (.cells (rowN (fun _ => 0) m).toArray 3 (0, 0)) := by
    have := heap_alloc_new w (.cells (rowN (fun _ => 0) m).toArray 3)
    rw [hg] at this
    exact this
  have HST := Hid.mk' hst
  clear hst hms
  go_loopw [4] (fun ov wr => ∃ o : Nat, ov = .int .i64 ((o : Int) + 1) ∧ (o + 1 ≤ n ∨ o = 0) ∧ wr.heap[g]? = some (.cells (rowN (Lz.rch (Sums.bl s) o) m).toArray 3 (0, 0)) ∧ Below w.heap.size w wr) (fun ov _ => n - (intOf ov).toNat)
  case atStart => exact ⟨0, by simp, .inr rfl, HST.out, (Below.refl _ _).alloc (Nat.le_refl _) _⟩
  case round =>
    obtain ⟨o, rfl, ho, hrow, hbel⟩ := hrel
    clear HST
    by_cases hon : o + 1 < n
    · have h1 : (o : Int) + 1 < (n : Int) := by omega
      obtain ⟨q, hq⟩ : ∃ q, o + 1 = q := ⟨_, rfl⟩
      have hqI : (o : Int) + 1 = (q : Int) := by omega
      have HRO := Hid.mk' hrow
      have HBE := Hid.mk' hbel
      have HQ := Hid.mk' hq
      rename World => wo
      clear hrow hbel ho hq
      rw [hqI] at h1 ⊢
      go_wp2
      go_loopw [5, 6] (fun rv av wr => ∃ (a : Int) (r : Nat) (F : Nat → Nat), rv = .int .i64 (r : Int) ∧ av = .int .i64 a ∧ a ≤ (n : Int) - 6 ∧ -10 ≤ a ∧ r ≤ n ∧ Hid (Re (Sums.bl s) g o n a r w wr F)) (fun _ av _ => (intOf av + 10).toNat)
      case atStart =>
        refine ⟨(n : Int) - 6, 0, Lz.rch (Sums.bl s) o, rfl, by first | rfl | (congr 1; omega), by omega, by omega, by omega, ⟨?_, fun x => ?_, fun k hk => ?_, HBE.out, by omega, by omega⟩⟩
        · rw [HM.out.1]
          exact HRO.out
        · split
          · rename_i h
            exact (rch_same _ _ _ (by rw [HM.out.2]; omega)).symm
          · rfl
        · rw [Lz.agree_stop _ _ _ (by rw [HM.out.2]; omega)]
      case round =>
        obtain ⟨a, r, F, rfl, rfl, ha1, ha2, hrn, hre⟩ := hrel
        clear HRO HBE
        by_cases hao : (q : Int) ≤ a
        · obtain ⟨k, rfl⟩ := Int.eq_ofNat_of_zero_le (show 0 ≤ a by omega)
          have haoI : ¬ (k : Int) < (q : Int) := by omega
          obtain ⟨d, hd⟩ : ∃ d, k - q = d := ⟨_, rfl⟩
          have hdI : (k : Int) - (q : Int) = (d : Int) := by omega
          obtain ⟨x, hx⟩ : ∃ x, x = (Sums.bl s).getD k 0 := ⟨_, rfl⟩
          obtain ⟨y, hy⟩ : ∃ y, y = (Sums.bl s).getD d 0 := ⟨_, rfl⟩
          have hidx := idx_any s k x (by omega) hx
          have hidy := idx_any s d y (by omega) hy
          have hrun := hre.out.run k rfl
          have hstep := Lz.agree_step (Sums.bl s) d k (by rw [HM.out.2]; omega) (by rw [HM.out.2]; omega)
          rw [← hx, ← hy] at hstep
          have hds : k + 1 - (o + 1) = d + 1 := by have := HQ.out; omega
          rw [hds] at hrun
          rw [← hrun] at hstep
          have hka : k - (o + 1) = d := by have := HQ.out; omega
          have HST := Hid.mk' (And.intro hstep hka)
          have HXY := Hid.mk' (And.intro hx hy)
          obtain ⟨hc, hf⟩ := rowN_cell hre.out.row k (by omega)
          have hbel2 := hre.out.bel
          have HB2 := Hid.mk' hbel2
          have hkm : (k : Int) < (m : Int) := by omega
          clear hx hy hrun hstep hd hbel2
          by_cases hxy : x = y
          · have hxyI : ((x : Int) != (y : Int)) = false := by simp; omega
            rw [if_pos hxy] at HST
            have hr1 : r + 1 ≤ n := by
              have := Lz.agree_le (Sums.bl s) d k
              rw [HST.out.1, HM.out.2] at this
              omega
            by_cases h4 : 4 ≤ r + 1 ∧ k + 12 ≤ n
            · have h4I : ¬ (r : Int) + 1 < 4 := by omega
              have h4B : decide ((4 : Int) ≤ (r : Int) + 1) = true := by simp; omega
              have h12I : (k : Int) ≤ (n : Int) - 12 := by omega
              have h12B : decide ((k : Int) ≤ (n : Int) - 12) = true := by simp; omega
              obtain ⟨M, hM⟩ : ∃ M, max (F k) (r + 1) = M := ⟨_, rfl⟩
              have hMI : max (F k : Int) ((r : Int) + 1) = (M : Int) := by omega
              have HMM := Hid.mk' hM
              clear hM
              go_wp2
              go_quiet (fail)
              go_wp2
              go_roundw
              case rel =>
                refine ⟨(k : Int) - 1, r + 1, fun p => if p = k then M else F p, by simp, rfl, by omega, by omega, by omega, Hid.mk' (hre.out.step (r + 1) (by rw [HST.out.2]; exact HST.out.1.symm) (by omega) (rowN_put (show (wr.drewN nq).heap[g]? = _ from hre.out.row) k M) (fun x => ?_) (below_setc (HB2.out.drewN' nq) (by omega) k _))⟩
                by_cases e : x = k
                · rw [if_pos e, if_pos e, ← HMM.out, hre.out.eq k, if_neg (by omega), Lz.rch, HST.out.2, HST.out.1, HM.out.2, if_pos ⟨by have := HQ.out; omega, h4.1, h4.2⟩]
                · rw [if_neg e, if_neg e]
              case measure =>
                simp [intOf]
                omega
            · have h4c : (decide ((4 : Int) ≤ (r : Int) + 1) = false ∧ ¬ (4 : Int) ≤ (r : Int) + 1) ∨ (decide ((4 : Int) ≤ (r : Int) + 1) = true ∧ (4 : Int) ≤ (r : Int) + 1 ∧ decide ((k : Int) ≤ (n : Int) - 12) = false ∧ ¬ (k : Int) ≤ (n : Int) - 12) := by
                by_cases h : 4 ≤ r + 1
                · right
                  refine ⟨by simp; omega, by omega, by simp; omega, by omega⟩
                · left
                  exact ⟨by simp; omega, by omega⟩
              have HS2 : Hid (∀ x, F x = if x = k then Lz.rch (Sums.bl s) (o + 1) k else F x) := fun x => by
                by_cases e : x = k
                · rw [if_pos e, e, hre.out.eq k, if_neg (by omega), rch_same _ _ _ (by rw [HST.out.2, HST.out.1, HM.out.2]; omega)]
                · rw [if_neg e]
              rcases h4c with ⟨x1, x2⟩ | ⟨x1, x2, x3, x4⟩
              · go_wp2
                go_quiet (fail)
                go_wp2
                go_roundw
                case rel =>
                  exact ⟨(k : Int) - 1, r + 1, F, by simp, rfl, by omega, by omega, by omega, Hid.mk' (hre.out.step (r + 1) (by rw [HST.out.2]; exact HST.out.1.symm) (by omega) (show (wr.drewN nq).heap[g]? = _ from hre.out.row) HS2.out (HB2.out.drewN' nq))⟩
                case measure =>
                  simp [intOf]
                  omega
              · go_wp2
                go_quiet (fail)
                go_wp2
                go_roundw
                case rel =>
                  exact ⟨(k : Int) - 1, r + 1, F, by simp, rfl, by omega, by omega, by omega, Hid.mk' (hre.out.step (r + 1) (by rw [HST.out.2]; exact HST.out.1.symm) (by omega) (show (wr.drewN nq).heap[g]? = _ from hre.out.row) HS2.out (HB2.out.drewN' nq))⟩
                case measure =>
                  simp [intOf]
                  omega
          · have hxyI : ((x : Int) != (y : Int)) = true := by simp; omega
            rw [if_neg hxy] at HST
            have HS2 : Hid (∀ x, F x = if x = k then Lz.rch (Sums.bl s) (o + 1) k else F x) := fun x => by
              by_cases e : x = k
              · rw [if_pos e, e, hre.out.eq k, if_neg (by omega), rch_same _ _ _ (by rw [HST.out.2, HST.out.1]; omega)]
              · rw [if_neg e]
            go_wp2
            go_quiet (fail)
            go_wp2
            go_roundw
            case rel =>
              exact ⟨(k : Int) - 1, 0, F, by simp, rfl, by omega, by omega, by omega, Hid.mk' (hre.out.step 0 (by rw [HST.out.2]; exact HST.out.1.symm) (by omega) (show (wr.drewN nq).heap[g]? = _ from hre.out.row) HS2.out (HB2.out.drewN' nq))⟩
            case measure =>
              simp [intOf]
              omega
        · have haoI : a < (q : Int) := by omega
          go_wp2
          go_roundw
          case rel =>
            refine ⟨q, by simp, .inl (by omega), ?_, hre.out.bel⟩
            have := hre.out.row
            rw [HM.out.1] at this
            have e : F = Lz.rch (Sums.bl s) q := by
              funext x
              rw [hre.out.eq x, ← HQ.out]
              split
              · rfl
              · have := HQ.out
                exact (rch_same _ _ _ (by omega)).symm
            rw [e] at this
            exact this
          case measure =>
            simp [intOf]
            omega
    · have h1 : ¬ (o : Int) + 1 < (n : Int) := by omega
      have HR := Hid.mk' (And.intro hrow hbel)
      clear hrow hbel
      go_wp2
      go_ret
      refine ⟨g, by rw [HM.out.1]; rfl, Nat.le_refl _, ?_, by rw [← hg]; exact HR.out.2⟩
      rw [HM.out.1]
      rw [show n - 1 = o by omega]
      exact HR.out.1
end Go.Proofs.Ytchjmhgalbkjkaa

namespace Go.Proofs.Ytchjmhgalbkjkaa
open Go.RowKit
set_option linter.unusedVariables false
abbrev Way := Nat × Nat × Nat
def wyf (F : Nat → Way) : Nat → Nat := fun j => if j % 3 = 0 then (F (j / 3)).1 else if j % 3 = 1 then (F (j / 3)).2.1 else (F (j / 3)).2.2
theorem wyf0 (F : Nat → Way) (q : Nat) : wyf F (q * 3) = (F q).1 := by
  unfold wyf
  rw [if_pos (by omega), show q * 3 / 3 = q by omega]
theorem wyf1 (F : Nat → Way) (q : Nat) : wyf F (q * 3 + 1) = (F q).2.1 := by
  unfold wyf
  rw [if_neg (by omega), if_pos (by omega), show (q * 3 + 1) / 3 = q by omega]
theorem wyf2 (F : Nat → Way) (q : Nat) : wyf F (q * 3 + 2) = (F q).2.2 := by
  unfold wyf
  rw [if_neg (by omega), if_neg (by omega), show (q * 3 + 2) / 3 = q by omega]
/-- a row of ways -/
def Wys (w : World) (g m : Nat) (F : Nat → Way) : Prop := w.heap[g]? = some (.cells (rowN (wyf F) (m * 3)).toArray 80 (0, 0))
theorem Wys.cells {w : World} {g m : Nat} {F : Nat → Way} (h : Wys w g m F) (q : Nat) (hq : q < m) : w.cell? ⟨g, q * 3, none⟩ = some (.int .i64 ((F q).1 : Int)) ∧ w.cell? ⟨g, q * 3 + 1, none⟩ = some (.int .i64 ((F q).2.1 : Int)) ∧ w.cell? ⟨g, q * 3 + 2, none⟩ = some (.int .i64 ((F q).2.2 : Int)) ∧ w.frozen? ⟨g, q * 3, none⟩ = false ∧ w.frozen? ⟨g, q * 3 + 1, none⟩ = false ∧ w.frozen? ⟨g, q * 3 + 2, none⟩ = false := by
  unfold Wys at h
  have e0 := wyf0 F q
  have e1 := wyf1 F q
  have e2 := wyf2 F q
  simp [World.cell?, World.frozen?, h, rowN, e0, e1, e2, show q * 3 < m * 3 by omega, show q * 3 + 1 < m * 3 by omega, show q * 3 + 2 < m * 3 by omega]
theorem wyf_set (F : Nat → Way) (q : Nat) (x : Way) : (fun p => if p = q * 3 + 2 then x.2.2 else if p = q * 3 + 1 then x.2.1 else if p = q * 3 then x.1 else wyf F p) = wyf (fun p => if p = q then x else F p) := by
  funext j
  unfold wyf
  by_cases e : j / 3 = q
  · simp only [e, if_true]
    rcases (show j % 3 = 0 ∨ j % 3 = 1 ∨ j % 3 = 2 by omega) with h | h | h
    · rw [if_neg (by omega), if_neg (by omega), if_pos (by omega), if_pos h]
    · rw [if_neg (by omega), if_pos (by omega), if_neg (by omega), if_pos h]
    · rw [if_pos (by omega), if_neg (by omega), if_neg (by omega)]
  · simp only [if_neg e]
    rw [if_neg (by omega), if_neg (by omega), if_neg (by omega)]
theorem row_put_t {f : Nat → Nat} {m b : Nat} {t : TypeId} {w : World} (h : w.heap[b]? = some (.cells (rowN f m).toArray t (0, 0))) (k x : Nat) : (w.setCell ⟨b, k, none⟩ (.int .i64 (x : Int))).heap[b]? = some (.cells (rowN (fun p => if p = k then x else f p) m).toArray t (0, 0)) := by
  rw [setCell_eq_setRow w b k _ t (0, 0) _ h, setRow_heap w b _ _ t (0, 0) h, ← rowN_set f m k x]
  simp
def setW (w : World) (g q : Nat) (x : Way) : World := ((w.setCell ⟨g, q * 3, none⟩ (.int .i64 (x.1 : Int))).setCell ⟨g, q * 3 + 1, none⟩ (.int .i64 (x.2.1 : Int))).setCell ⟨g, q * 3 + 2, none⟩ (.int .i64 (x.2.2 : Int))
theorem Wys.put {w : World} {g m : Nat} {F : Nat → Way} (h : Wys w g m F) (q : Nat) (x : Way) : Wys (setW w g q x) g m (fun p => if p = q then x else F p) := by
  unfold Wys at h ⊢
  rw [← wyf_set F q x]
  exact row_put_t (row_put_t (row_put_t h (q * 3) x.1) (q * 3 + 1) x.2.1) (q * 3 + 2) x.2.2
theorem setW_other (w : World) (g q k : Nat) (x : Way) (h : k ≠ g) : (setW w g q x).heap[k]? = w.heap[k]? := by
  simp only [setW, World.setCell, Array.getElem?_modify]
  rw [if_neg (by omega), if_neg (by omega), if_neg (by omega)]
theorem setW_below {base g : Nat} {w0 w : World} (h : Below base w0 w) (hb : base ≤ g) (q : Nat) (x : Way) : Below base w0 (setW w g q x) :=
  below_setc (below_setc (below_setc h hb _ _) hb _ _) hb _ _
theorem Wys.below {w w' : World} {g m : Nat} {F : Nat → Way} (h : Wys w g m F) (hb : Below w.heap.size w w') : Wys w' g m F :=
  (hb.block g (Array.getElem?_eq_some_iff.1 h).1).trans h
def wyV (x : Way) : Value := .agg #[.int .i64 (x.1 : Int), .int .i64 (x.2.1 : Int), .int .i64 (x.2.2 : Int)]
structure Bc (W : Nat → Nat) (a : Nat) (R : Nat × Nat) (g m : Nat) (F : Nat → Way) (w0 : World) (c : Nat) (bo bc : Nat) (w : World) : Prop where
  eq : Lz.bcF W a (c - 3) (bo, bc) = R
  res : w.heap[w0.heap.size]? = some (.cells #[.int .i64 0, .int .i64 0, .int .i64 0] 80 (0, 0))
  best : w.heap[w0.heap.size + 1]? = some (.cells #[.int .i64 (bo : Int), .int .i64 0, .int .i64 (bc : Int)] 80 (0, 0))
  row : Wys w g m F
  bel : Below w0.heap.size w0 w
  cb : bo ≤ 100000
set_option maxRecDepth 100000 in
set_option maxHeartbeats 1000000 in
theorem bestCopy_any (g m cap a r : Nat) (F : Nat → Way) (w : World) (hF : ∀ x, (F x).1 ≤ 10000) (hm : m ≤ 4097) (har : a + r < m) (hg : Wys w g m F) :
    Calls Try.prog 40 #[.slice (some ⟨g, 0, none⟩) m cap, .int .i64 (a : Int), .int .i64 (r : Int)] w fun e w' => e = .returned (wyV ((Lz.bcF (fun x => (F x).1) a (r - 3) (0, 0)).1, 0, (Lz.bcF (fun x => (F x).1) a (r - 3) (0, 0)).2)) ∧ Below w.heap.size w w' := by
  have hglt : g < w.heap.size := (Array.getElem?_eq_some_iff.1 hg).1
  obtain ⟨R, hR⟩ : ∃ R, Lz.bcF (fun x => (F x).1) a (r - 3) (0, 0) = R := ⟨_, rfl⟩
  rw [hR]
  have hst : Bc (fun x => (F x).1) a R g m F w r 0 0 ((w.alloc (.cells #[.int .i64 0, .int .i64 0, .int .i64 0] 80)).alloc (.cells #[.int .i64 0, .int .i64 0, .int .i64 0] 80)) := by
    refine ⟨hR, ?_, ?_, ?_, ((Below.refl _ _).alloc (Nat.le_refl _) _).alloc (by simp) _, by omega⟩
    · rw [Below.heap_alloc _ _ _ (by simp)]
      exact heap_alloc_new w _
    · have := heap_alloc_new (w.alloc (.cells #[.int .i64 0, .int .i64 0, .int .i64 0] 80)) (.cells #[.int .i64 0, .int .i64 0, .int .i64 0] 80)
      simpa using this
    · unfold Wys
      rw [Below.heap_alloc _ _ _ (by simp; omega), Below.heap_alloc _ _ _ hglt]
      exact hg
  have HST := Hid.mk' hst
  have HF := Hid.mk' hF
  clear hR hst hg hF
  go_enter Try.func40, Try.ntmps40
  go_wp2
  go_loopw [8] (fun cv wr => ∃ (c bo bc : Nat), cv = .int .i64 (c : Int) ∧ c ≤ r ∧ Hid (Bc (fun x => (F x).1) a R g m F w c bo bc wr)) (fun cv _ => (intOf cv).toNat)
  case atStart => exact ⟨r, 0, 0, rfl, Nat.le_refl _, HST⟩
  case round =>
    obtain ⟨c, bo, bc, rfl, hcr, hbc⟩ := hrel
    clear HST
    obtain ⟨r0, r1, r2, r3, r4, r5⟩ := cell3 hbc.out.res
    obtain ⟨b0, b1, b2, b3, b4, b5⟩ := cell3 hbc.out.best
    by_cases hc4 : 4 ≤ c
    · have hc4I : ¬ (c : Int) < 4 := by omega
      obtain ⟨d, hd⟩ : ∃ d, c - 4 = d := ⟨_, rfl⟩
      have hdI : (c : Int) - 4 = (d : Int) := by omega
      have heq := hbc.out.eq
      rw [show c - 3 = d + 1 by omega, Lz.bcF, show d + 4 = c by omega] at heq
      obtain ⟨e, he⟩ : ∃ e, a + c = e := ⟨_, rfl⟩
      have heI : (a : Int) + (c : Int) = (e : Int) := by omega
      have hem : (e : Int) < (m : Int) := by omega
      have hemN : e < m := by omega
      obtain ⟨k0, k1, k2, _⟩ := hbc.out.row.cells e hemN
      rw [he] at heq
      have hFe := HF.out e
      obtain ⟨x, hx⟩ : ∃ x, (F e).1 = x := ⟨_, rfl⟩
      have HLS := Hid.mk' (fun w => lengthSize_any d w (by omega))
      have hlz := Lz.lenz_le d
      obtain ⟨z, hz⟩ : ∃ z, Lz.lenz d = z := ⟨_, rfl⟩
      rw [hx] at k0 heq hFe
      rw [hz] at heq HLS hlz
      obtain ⟨co, hco⟩ : ∃ co, 2 + z + x = co := ⟨_, rfl⟩
      rw [hco] at heq
      obtain ⟨z2, hz2⟩ : ∃ z2, 2 + z = z2 := ⟨_, rfl⟩
      have hz2I : 2 + (z : Int) = (z2 : Int) := by omega
      have hz2w : IntKind.i64.wrap (z2 : Int) = (z2 : Int) := by rw [IntKind.wrap_i64]; omega
      have hcoI : (z2 : Int) + (x : Int) = (co : Int) := by omega
      have hcow : IntKind.i64.wrap (co : Int) = (co : Int) := by rw [IntKind.wrap_i64]; omega
      have hew : IntKind.i64.wrap (e : Int) = (e : Int) := by rw [IntKind.wrap_i64]; omega
      have hdw : IntKind.i64.wrap (d : Int) = (d : Int) := by rw [IntKind.wrap_i64]; omega
      have hcb := hbc.out.cb
      have hcob : co ≤ 100000 := by omega
      have HEQ := Hid.mk' heq
      have HD := Hid.mk' hd
      clear heq he hx hz hco hd k1 k2 hz2
      by_cases hb0 : bc = 0
      · have hb0B : ((bc : Int) == 0) = true := by simp; omega
        go_wp2
        go_quiet ((go_at_call 52; exact Calls.quiet_of_same (HLS.out _)))
        go_wp2
        go_roundw
        case rel =>
          have hh := HEQ.out
          have e3 : c - 1 - 3 = d := by have := HD.out; omega
          have e4 : d + 4 = c := by have := HD.out; omega
          rw [if_pos (.inl hb0)] at hh
          refine ⟨c - 1, co, c, by rw [show ((c - 1 : Nat) : Int) = (c : Int) - 1 by omega], by omega, Hid.mk' ⟨by rw [e3]; exact hh, ?_, ?_, ?_, set3_below (hbc.out.bel.drewN' nq) (by omega) _ _ _, by omega⟩⟩
          · exact (set3_other (wr.drewN nq) (w.heap.size + 1) w.heap.size _ _ _ (by omega)).trans hbc.out.res
          · exact set3_same (w := wr.drewN nq) (b := w.heap.size + 1) (x := .int .i64 (co : Int)) (y := .int .i64 0) (z := .int .i64 (c : Int)) hbc.out.best
          · exact (set3_other (wr.drewN nq) (w.heap.size + 1) g _ _ _ (by omega)).trans hbc.out.row
        case measure =>
          simp [intOf]
          omega
      · have hb0B : ((bc : Int) == 0) = false := by simp; omega
        by_cases hcl : co < bo
        · have hclI : (co : Int) < (bo : Int) := by omega
          have hclB : decide ((co : Int) < (bo : Int)) = true := by simp; omega
          go_wp2
          go_quiet ((go_at_call 52; exact Calls.quiet_of_same (HLS.out _)))
          go_wp2
          go_roundw
          case rel =>
            have hh := HEQ.out
            have e3 : c - 1 - 3 = d := by have := HD.out; omega
            have e4 : d + 4 = c := by have := HD.out; omega
            rw [if_pos (.inr hcl)] at hh
            refine ⟨c - 1, co, c, by rw [show ((c - 1 : Nat) : Int) = (c : Int) - 1 by omega], by omega, Hid.mk' ⟨by rw [e3]; exact hh, ?_, ?_, ?_, set3_below (hbc.out.bel.drewN' nq) (by omega) _ _ _, by omega⟩⟩
            · exact (set3_other (wr.drewN nq) (w.heap.size + 1) w.heap.size _ _ _ (by omega)).trans hbc.out.res
            · exact set3_same (w := wr.drewN nq) (b := w.heap.size + 1) (x := .int .i64 (co : Int)) (y := .int .i64 0) (z := .int .i64 (c : Int)) hbc.out.best
            · exact (set3_other (wr.drewN nq) (w.heap.size + 1) g _ _ _ (by omega)).trans hbc.out.row
          case measure =>
            simp [intOf]
            omega
        · have hclI : ¬ (co : Int) < (bo : Int) := by omega
          have hclB : decide ((co : Int) < (bo : Int)) = false := by simp; omega
          go_wp2
          go_quiet ((go_at_call 52; exact Calls.quiet_of_same (HLS.out _)))
          go_wp2
          go_roundw
          case rel =>
            have hh := HEQ.out
            have e3 : c - 1 - 3 = d := by have := HD.out; omega
            have e4 : d + 4 = c := by have := HD.out; omega
            rw [if_neg (fun h => h.elim hb0 hcl)] at hh
            exact ⟨c - 1, bo, bc, by rw [show ((c - 1 : Nat) : Int) = (c : Int) - 1 by omega], by omega, Hid.mk' ⟨by rw [e3]; exact hh, hbc.out.res, hbc.out.best, hbc.out.row, hbc.out.bel.drewN' nq, by omega⟩⟩
          case measure =>
            simp [intOf]
            omega
    · have hc4I : (c : Int) < 4 := by omega
      have hRR : R = (bo, bc) := by
        have := hbc.out.eq
        rw [show c - 3 = 0 by omega] at this
        exact this.symm
      subst hRR
      go_wp2
      obtain ⟨f0, f1, f2, _⟩ := cell3 (set3_same (x := .int .i64 (bo : Int)) (y := .int .i64 0) (z := .int .i64 (bc : Int)) hbc.out.res)
      unfold set3 at f0 f1 f2
      exact bodyPost_ret (v := wyV (bo, 0, bc)) (by simp [results, Try.results40, wyV, f0, f1, f2, go_sem]) rfl ⟨rfl, set3_below hbc.out.bel (Nat.le_refl _) _ _ _⟩
end Go.Proofs.Ytchjmhgalbkjkaa

namespace Go.Proofs.Ytchjmhgalbkjkaa
open Go.RowKit
set_option linter.unusedVariables false
structure Bw (a : Nat) (R : Way) (g m : Nat) (F : Nat → Way) (w0 : World) (d : Nat) (b : Way) (w : World) : Prop where
  eq : Lz.bwF (fun x => ((F x).1, (F x).2.2)) a d b = R
  res : w.heap[w0.heap.size]? = some (.cells #[.int .i64 0, .int .i64 0, .int .i64 0] 80 (0, 0))
  best : w.heap[w0.heap.size + 1]? = some (.cells #[.int .i64 (b.1 : Int), .int .i64 (b.2.1 : Int), .int .i64 (b.2.2 : Int)] 80 (0, 0))
  row : Wys w g m F
  bel : Below w0.heap.size w0 w
  cb : b.1 ≤ 100000
  sz : w0.heap.size + 2 ≤ w.heap.size
theorem Bw.below {a : Nat} {R : Way} {g m : Nat} {F : Nat → Way} {w0 : World} {d : Nat} {b : Way} {w w' : World} (h : Bw a R g m F w0 d b w) (hb : Below w.heap.size w w') : Bw a R g m F w0 d b w' := by
  have hs := h.sz
  refine ⟨h.eq, (hb.block _ (by omega)).trans h.res, (hb.block _ (by omega)).trans h.best, h.row.below hb, h.bel.trans ⟨hb.os, hb.tape, hb.output, hb.size, fun k hk => hb.block k (by omega)⟩, h.cb, Nat.le_trans h.sz hb.size⟩
set_option maxRecDepth 100000 in
set_option maxHeartbeats 1000000 in
theorem bestWay_any (g m cap a n : Nat) (F : Nat → Way) (w : World) (hF : ∀ x, (F x).1 ≤ 40000) (hmn : m = n + 1) (hm : n ≤ 4096) (han : a ≤ n) (hg : Wys w g m F) :
    Calls Try.prog 41 #[.slice (some ⟨g, 0, none⟩) m cap, .int .i64 (a : Int)] w fun e w' => e = .returned (wyV (Lz.bwF (fun x => ((F x).1, (F x).2.2)) a (n - a - 11) (1 + Lz.lenz (n - a) + (n - a), n - a, 0))) ∧ Below w.heap.size w w' := by
  have hglt : g < w.heap.size := (Array.getElem?_eq_some_iff.1 hg).1
  obtain ⟨left, hleft⟩ : ∃ left, n - a = left := ⟨_, rfl⟩
  obtain ⟨R, hR⟩ : ∃ R, Lz.bwF (fun x => ((F x).1, (F x).2.2)) a (n - a - 11) (1 + Lz.lenz (n - a) + (n - a), n - a, 0) = R := ⟨_, rfl⟩
  rw [hR]
  rw [hleft] at hR
  have hlz := Lz.lenz_le left
  have HLS := Hid.mk' (fun w => lengthSize_any left w (by omega))
  obtain ⟨z, hz⟩ : ∃ z, Lz.lenz left = z := ⟨_, rfl⟩
  rw [hz] at hR HLS hlz
  obtain ⟨co, hco⟩ : ∃ co, 1 + z + left = co := ⟨_, rfl⟩
  rw [hco] at hR
  have hmI : (m : Int) - 1 = (n : Int) := by omega
  have hlI : (n : Int) - (a : Int) = (left : Int) := by omega
  have hcoI : 1 + (z : Int) + (left : Int) = (co : Int) := by omega
  have hcob : co ≤ 100000 := by omega
  have HL := Hid.mk' (And.intro hmn hleft)
  have hlb : left ≤ 4096 := by omega
  have hlmx : a + left < m := by omega
  have hst : Bw a R g m F w (left - 11) (co, left, 0) ((w.alloc (.cells #[.int .i64 0, .int .i64 0, .int .i64 0] 80)).alloc (.cells #[.int .i64 (co : Int), .int .i64 (left : Int), .int .i64 0] 80)) := by
    refine ⟨hR, ?_, ?_, ?_, ((Below.refl _ _).alloc (Nat.le_refl _) _).alloc (by simp) _, hcob, by simp⟩
    · rw [Below.heap_alloc _ _ _ (by simp)]
      exact heap_alloc_new w _
    · have := heap_alloc_new (w.alloc (.cells #[.int .i64 0, .int .i64 0, .int .i64 0] 80)) (.cells #[.int .i64 (co : Int), .int .i64 (left : Int), .int .i64 0] 80)
      simpa using this
    · unfold Wys
      rw [Below.heap_alloc _ _ _ (by simp; omega), Below.heap_alloc _ _ _ hglt]
      exact hg
  have HST := Hid.mk' hst
  have HF := Hid.mk' hF
  clear hR hst hg hF hmn hleft hz hco
  go_enter Try.func41, Try.ntmps41
  go_wp2_with (go_at_call 52; refine (HLS.out _).mono ?_; rintro e w' ⟨rfl, rfl⟩)
  go_loopw [7] (fun pv wr => ∃ (pI : Int) (d : Nat) (bb : Way), pv = .int .i64 pI ∧ (0 ≤ pI → (d : Int) = pI + 1) ∧ (pI < 0 → d = 0) ∧ -13 ≤ pI ∧ pI ≤ (left : Int) - 12 ∧ Hid (Bw a R g m F w d bb wr)) (fun pv _ => (intOf pv + 13).toNat)
  case atStart => exact ⟨(left : Int) - 12, left - 11, (co, left, 0), rfl, by omega, by omega, by omega, by omega, HST⟩
  case round =>
    obtain ⟨pI, d, bb, rfl, hd1, hd2, hp1, hp2, hbw⟩ := hrel
    clear HST HLS
    by_cases hp0 : 0 ≤ pI
    · obtain ⟨p, rfl⟩ := Int.eq_ofNat_of_zero_le hp0
      obtain rfl : d = p + 1 := by have := hd1 (by omega); omega
      have hp0I : ¬ (p : Int) < 0 := by omega
      obtain ⟨e, he⟩ : ∃ e, a + p = e := ⟨_, rfl⟩
      have heI : (a : Int) + (p : Int) = (e : Int) := by omega
      have hem : (e : Int) < (m : Int) := by omega
      have hemN : e < m := by omega
      obtain ⟨k0, k1, k2, _⟩ := hbw.out.row.cells e hemN
      have heq := hbw.out.eq
      rw [Lz.bwF, he] at heq
      have hFe := HF.out e
      obtain ⟨x0, hx0⟩ : ∃ x0, (F e).1 = x0 := ⟨_, rfl⟩
      obtain ⟨x1, hx1⟩ : ∃ x1, (F e).2.1 = x1 := ⟨_, rfl⟩
      obtain ⟨cn, hcn⟩ : ∃ cn, (F e).2.2 = cn := ⟨_, rfl⟩
      have HLS := Hid.mk' (fun w => lengthSize_any p w (by omega))
      have hlz := Lz.lenz_le p
      obtain ⟨z, hz⟩ : ∃ z, Lz.lenz p = z := ⟨_, rfl⟩
      rw [hx0] at k0 hFe
      rw [hx1] at k1
      rw [hcn] at k2
      simp only [hx0, hcn, hz] at heq
      rw [hz] at HLS hlz
      obtain ⟨c2, hc2⟩ : ∃ c2, 1 + z + p + x0 = c2 := ⟨_, rfl⟩
      rw [hc2] at heq
      obtain ⟨z1, hz1⟩ : ∃ z1, 1 + z = z1 := ⟨_, rfl⟩
      obtain ⟨z2, hz2⟩ : ∃ z2, z1 + p = z2 := ⟨_, rfl⟩
      have hz1I : 1 + (z : Int) = (z1 : Int) := by omega
      have hz1w : IntKind.i64.wrap (z1 : Int) = (z1 : Int) := by rw [IntKind.wrap_i64]; omega
      have hz2I : (z1 : Int) + (p : Int) = (z2 : Int) := by omega
      have hz2w : IntKind.i64.wrap (z2 : Int) = (z2 : Int) := by rw [IntKind.wrap_i64]; omega
      have hc2I : (z2 : Int) + (x0 : Int) = (c2 : Int) := by omega
      have hc2w : IntKind.i64.wrap (c2 : Int) = (c2 : Int) := by rw [IntKind.wrap_i64]; omega
      have hc2b : c2 ≤ 100000 := by omega
      have hcb := hbw.out.cb
      have HEQ := Hid.mk' heq
      clear heq he hx0 hx1 hcn hz hc2 hz1 hz2 hd1 hd2
      go_upto_region 7 with fail
      obtain ⟨w7, hw7⟩ : ∃ w7, wr.alloc (.cells #[.int .i64 (x0 : Int), .int .i64 (x1 : Int), .int .i64 (cn : Int)] 80) = w7 := ⟨_, rfl⟩
      have hb7 : Bw a R g m F w (p + 1) bb w7 := by rw [← hw7]; exact hbw.out.below ((Below.refl _ _).alloc (Nat.le_refl _) _)
      have hn7 : w7.heap[wr.heap.size]? = some (.cells #[.int .i64 (x0 : Int), .int .i64 (x1 : Int), .int .i64 (cn : Int)] 80 (0, 0)) := by rw [← hw7]; exact heap_alloc_new wr _
      rw [hw7]
      obtain ⟨N, hN⟩ : ∃ N, wr.heap.size = N := ⟨_, rfl⟩
      rw [hN] at hn7 ⊢
      obtain ⟨n0, n1, n2, _⟩ := cell3 hn7
      obtain ⟨b0, b1, b2, b3, b4, b5⟩ := cell3 hb7.best
      have HB7 := Hid.mk' hb7
      clear hw7 hb7 hn7 hN k0 k1 k2
      by_cases hc0 : 0 < cn
      · have hc0I : (0 : Int) < (cn : Int) := by omega
        have hc0B : decide ((0 : Int) < (cn : Int)) = true := by simp; omega
        by_cases hle : c2 ≤ bb.1
        · have hleI : (c2 : Int) ≤ (bb.1 : Int) := by omega
          have hleB : decide ((c2 : Int) ≤ (bb.1 : Int)) = true := by simp; omega
          have hleN : decide (c2 ≤ bb.1) = true := by simp; omega
          go_quiet ((go_at_call 52; exact Calls.quiet_of_same (HLS.out _)))
          go_wp2
          go_roundw
          case rel =>
            have hh := HEQ.out
            have hs7 := HB7.out.sz
            rw [if_pos ⟨hc0, hle⟩] at hh
            refine ⟨(p : Int) - 1, p, (c2, p, cn), rfl, by omega, by omega, by omega, by omega, Hid.mk' ⟨hh, ?_, ?_, ?_, set3_below (HB7.out.bel.drewN' nq) (by omega) _ _ _, by show c2 ≤ 100000; omega, ?_⟩⟩
            · exact (set3_other (w7.drewN nq) (w.heap.size + 1) w.heap.size _ _ _ (by omega)).trans HB7.out.res
            · exact set3_same (w := w7.drewN nq) (b := w.heap.size + 1) (x := .int .i64 (c2 : Int)) (y := .int .i64 (p : Int)) (z := .int .i64 (cn : Int)) HB7.out.best
            · exact (set3_other (w7.drewN nq) (w.heap.size + 1) g _ _ _ (by omega)).trans HB7.out.row
            · simp [World.setCell]
              omega
          case measure =>
            simp [intOf]
            omega
        · have hleI : ¬ (c2 : Int) ≤ (bb.1 : Int) := by omega
          have hleB : decide ((c2 : Int) ≤ (bb.1 : Int)) = false := by simp; omega
          have hleN : decide (c2 ≤ bb.1) = false := by simp; omega
          go_quiet ((go_at_call 52; exact Calls.quiet_of_same (HLS.out _)))
          go_wp2
          go_roundw
          case rel =>
            have hh := HEQ.out
            have hs7 := HB7.out.sz
            rw [if_neg (fun h => hle h.2)] at hh
            exact ⟨(p : Int) - 1, p, bb, rfl, by omega, by omega, by omega, by omega, Hid.mk' ⟨hh, HB7.out.res, HB7.out.best, HB7.out.row, HB7.out.bel.drewN' nq, HB7.out.cb, HB7.out.sz⟩⟩
          case measure =>
            simp [intOf]
            omega
      · have hc0I : ¬ (0 : Int) < (cn : Int) := by omega
        have hc0B : decide ((0 : Int) < (cn : Int)) = false := by simp; omega
        have hc0N : decide (0 < cn) = false := by simp; omega
        go_quiet ((go_at_call 52; exact Calls.quiet_of_same (HLS.out _)))
        go_wp2
        go_roundw
        case rel =>
          have hh := HEQ.out
          have hs7 := HB7.out.sz
          rw [if_neg (fun h => hc0 h.1)] at hh
          exact ⟨(p : Int) - 1, p, bb, rfl, by omega, by omega, by omega, by omega, Hid.mk' ⟨hh, HB7.out.res, HB7.out.best, HB7.out.row, HB7.out.bel.drewN' nq, HB7.out.cb, HB7.out.sz⟩⟩
        case measure =>
          simp [intOf]
          omega
    · have hp0I : pI < 0 := by omega
      obtain rfl : d = 0 := hd2 hp0I
      have hRR : R = bb := by
        have := hbw.out.eq
        exact this.symm
      subst hRR
      obtain ⟨r0, r1, r2, r3, r4, r5⟩ := cell3 hbw.out.res
      obtain ⟨b0, b1, b2, b3, b4, b5⟩ := cell3 hbw.out.best
      go_wp2
      obtain ⟨f0, f1, f2, _⟩ := cell3 (set3_same (x := .int .i64 (R.1 : Int)) (y := .int .i64 (R.2.1 : Int)) (z := .int .i64 (R.2.2 : Int)) hbw.out.res)
      unfold set3 at f0 f1 f2
      exact bodyPost_ret (v := wyV R) (by simp [results, Try.results41, wyV, f0, f1, f2, go_sem]) rfl ⟨rfl, set3_below hbw.out.bel (Nat.le_refl _) _ _ _⟩
end Go.Proofs.Ytchjmhgalbkjkaa

namespace Go.Proofs.Ytchjmhgalbkjkaa
open Go.RowKit
set_option linter.unusedVariables false
theorem ext_take (s : ByteArray) (x m : Nat) : Sums.bl (s.extract x (x + m)) = ((Sums.bl s).drop x).take m := by
  rw [Sums.bl_extract, List.drop_take]
  congr 1
  omega
theorem ext_iff (s : ByteArray) (x y m : Nat) : s.extract x (x + m) = s.extract y (y + m) ↔ ((Sums.bl s).drop x).take m = ((Sums.bl s).drop y).take m := by
  rw [← ext_take, ← ext_take]
  exact ⟨fun h => by rw [h], fun h => Sums.bl_inj h⟩
theorem str_nq' (a : ByteArray) (w : World) : (binOp .neq 9 (.string a) (.string a)).run Try.prog w = .ok (.bool false) w := by simp [go_sem]
set_option maxRecDepth 100000 in
set_option maxHeartbeats 1000000 in
theorem leastOffset_any (s : ByteArray) (a cnt off : Nat) (w : World) (hs : s.size ≤ 4096) (h1 : 1 ≤ off) (h2 : off ≤ a) (h3 : a + cnt ≤ s.size) (h : ((Sums.bl s).drop (a - off)).take cnt = ((Sums.bl s).drop a).take cnt) :
    Calls Try.prog 53 #[.string s, .int .i64 (a : Int), .int .i64 (cnt : Int)] w fun e w' => e = .returned (.int .i64 (Lz.leastF (Sums.bl s) a cnt a 1 : Nat)) ∧ ∃ n, w' = w.drewN n := by
  obtain ⟨R, hR⟩ : ∃ R, Lz.leastF (Sums.bl s) a cnt a 1 = R := ⟨_, rfl⟩
  rw [hR]
  have HR := Hid.mk' hR
  have HH := Hid.mk' h
  obtain ⟨y, hy⟩ : ∃ y, a + cnt = y := ⟨_, rfl⟩
  have hyI : (a : Int) + (cnt : Int) = (y : Int) := by omega
  have hyw : IntKind.i64.wrap (y : Int) = (y : Int) := by rw [IntKind.wrap_i64]; omega
  have hys : y ≤ s.size := by omega
  have hay : a ≤ y := by omega
  obtain ⟨B, hB⟩ : ∃ B, s.extract a y = B := ⟨_, rfl⟩
  have HY := Hid.mk' hy
  clear hR h hy
  go_enter Try.func53, Try.ntmps53
  go_wp2
  go_loopw [7] (fun ov wr => ∃ (o f j : Nat), ov = .int .i64 (o : Int) ∧ 1 ≤ o ∧ o ≤ off ∧ off < o + f ∧ Hid (Lz.leastF (Sums.bl s) a cnt f o = R) ∧ wr = w.drewN j) (fun ov _ => off + 1 - (intOf ov).toNat)
  case atStart => exact ⟨1, a, 0, by simp, by omega, h1, by omega, HR, rfl⟩
  case round =>
    obtain ⟨o, f, j, rfl, ho1, ho2, hof, hl, rfl⟩ := hrel
    obtain ⟨f, rfl⟩ : ∃ f1, f = f1 + 1 := ⟨f - 1, by omega⟩
    obtain ⟨x, hx⟩ : ∃ x, a - o = x := ⟨_, rfl⟩
    have hxI : (a : Int) - (o : Int) = (x : Int) := by omega
    have hxw : IntKind.i64.wrap (x : Int) = (x : Int) := by rw [IntKind.wrap_i64]; omega
    obtain ⟨x2, hx2⟩ : ∃ x2, x + cnt = x2 := ⟨_, rfl⟩
    have hx2I : (x : Int) + (cnt : Int) = (x2 : Int) := by omega
    have hx2w : IntKind.i64.wrap (x2 : Int) = (x2 : Int) := by rw [IntKind.wrap_i64]; omega
    have hx2s : x2 ≤ s.size := by omega
    have hxx2 : x ≤ x2 := by omega
    obtain ⟨A, hA⟩ : ∃ A, s.extract x x2 = A := ⟨_, rfl⟩
    have hiff : A = B ↔ ((Sums.bl s).drop (a - o)).take cnt = ((Sums.bl s).drop a).take cnt := by
      rw [← hA, ← hB, ← hx2, ← HY.out, hx]
      exact ext_iff s x a cnt
    have hl2 := hl.out
    rw [Lz.leastF] at hl2
    have HL := Hid.mk' (And.intro hl2 hiff)
    clear HR hx hx2 hl hl2 hiff
    by_cases hab : A = B
    · have hnq := fun W => str_nq' A W
      have HE : Hid (o = R) := by
        have := HL.out.1
        rw [if_pos (HL.out.2.1 hab)] at this
        exact this
      rw [← hab] at hB
      clear hab HL
      go_wp2
      go_quiet (fail)
      go_wp2
      go_ret
      refine ⟨?_, j + nq, by simp [World.drewN_drewN]⟩
      rw [← HE.out]
      rfl
    · have hbl : (A.toList == B.toList) = false := by
        simp only [beq_eq_false_iff_ne, ne_eq]
        intro e
        rw [ByteArray.toList_eq, ByteArray.toList_eq] at e
        exact hab (ByteArray.ext (Array.toList_inj.1 e))
      have hne := fun h => hab (HL.out.2.2 h)
      have hoo : o ≠ off := fun e => hne (by rw [e]; exact HH.out)
      have HE : Hid (Lz.leastF (Sums.bl s) a cnt f (o + 1) = R) := by
        have := HL.out.1
        rw [if_neg hne] at this
        exact this
      clear hab HL hne
      go_wp2
      go_quiet (fail)
      go_wp2
      go_roundw
      case rel => exact ⟨o + 1, f, j + nq, by simp, by omega, by omega, by omega, HE, rfl⟩
      case measure =>
        simp [intOf]
        omega
end Go.Proofs.Ytchjmhgalbkjkaa

namespace Go.Proofs.Ytchjmhgalbkjkaa
open Go.RowKit
set_option linter.unusedVariables false
structure Ur (bs : List Nat) (L : List Way) (g m : Nat) (w0 : World) (ov : Value) (C : List Lz.Cp) (n a : Nat) (w : World) : Prop where
  row : w.ownsRow w0.heap.size 72 3 ov n (cpv C)
  len : n = C.length
  eq : ∃ f, bs.length < a + f ∧ C ++ Lz.unrF bs L f a = Lz.unrF bs L (bs.length + 1) 0
  wys : Wys w g m (fun x => L.getD x (0, 0, 0))
  bel : Below w0.heap.size w0 w
  siz : w0.heap.size ≤ w.heap.size
  lim : 4 * n ≤ a
theorem unr_grow {w0 w7 w8 : World} {b : Option Addr} {n cap2 g m N p lo cn x0 x1 : Nat} {C : List Lz.Cp} {F : Nat → Way} {v8 : Value} (h : w7.ownsRow w0.heap.size 72 3 (.slice b n cap2) n (cpv C) ∧ Wys w7 g m F ∧ Below w0.heap.size w0 w7 ∧ w7.heap[N]? = some (.cells #[.int .i64 (x0 : Int), .int .i64 (x1 : Int), .int .i64 (cn : Int)] 80 (0, 0)))
    (ho : w8.ownsRow w0.heap.size 72 3 v8 (n + 1) (cpv C ++ [.int .i64 (p : Int), .int .i64 (lo : Int), .int .i64 (cn : Int)])) (hg : (w7.alloc (.cells #[.int .i64 (p : Int), .int .i64 (lo : Int), .int .i64 (cn : Int)] 72)).grownBy w8 (Value.slice b n cap2).ownBlock) :
    Hid (w8.ownsRow w0.heap.size 72 3 v8 (n + 1) (cpv (C ++ [⟨p, lo, cn⟩])) ∧ Wys w8 g m F ∧ Below w0.heap.size w0 w8 ∧ w8.cell? ⟨N, 2, none⟩ = some (.int .i64 (cn : Int)) ∧ w0.heap.size ≤ w8.heap.size) := by
  obtain ⟨h1, h2, h3, h4⟩ := h
  have ha := h1.alloc (.cells #[.int .i64 (p : Int), .int .i64 (lo : Int), .int .i64 (cn : Int)] 72)
  have hsz : w0.heap.size ≤ w7.heap.size := h3.size
  have stay : ∀ (k : Nat) (cs : Array Value) (t : TypeId) (fz : Nat × Nat), w7.heap[k]? = some (.cells cs t fz) → t ≠ 72 → w8.heap[k]? = some (.cells cs t fz) := by
    intro k cs t fz hk ht
    have hlt := (Array.getElem?_eq_some_iff.1 hk).1
    have hk2 := (Below.heap_alloc w7 (.cells #[.int .i64 (p : Int), .int .i64 (lo : Int), .int .i64 (cn : Int)] 72) k hlt).trans hk
    exact (hg.block k (by simp; omega) (fun e => row_other ha hk2 ht e.symm)).trans hk2
  refine ⟨by rw [cpv_append]; exact ho, stay g _ _ _ h2 (by decide), (h3.alloc hsz _).grown hg (by simp; omega) (fun k hk => (h1.lt k hk).1), ?_, Nat.le_trans (by simp; omega) hg.size⟩
  exact (cell3 (stay N _ _ _ h4 (by decide))).2.2.1
set_option maxRecDepth 100000 in
set_option maxHeartbeats 2000000 in
theorem unrolled_any (s : ByteArray) (L : List Way) (o g cap : Nat) (w : World) (hs : s.size ≤ 4096) (hL : ∀ (i : Nat) (x : Way), L[i]? = some x → Lz.WayOk s.size (Lz.rch (Sums.bl s) o) i x) (hg : Wys w g (s.size + 1) (fun x => L.getD x (0, 0, 0))) :
    Calls Try.prog 42 #[.string s, .slice (some ⟨g, 0, none⟩) (s.size + 1) cap] w fun e w' => ∃ v, e = .returned v ∧ Cpr w' v (Lz.unrF (Sums.bl s) L (s.size + 1) 0) ∧ Below w.heap.size w w' := by
  obtain ⟨i0, hi, hz0, hz1, hz2⟩ := info_parts infoM
  have hsl := Sums.bl_length s
  have hglt : g < w.heap.size := (Array.getElem?_eq_some_iff.1 hg).1
  obtain ⟨m, hm⟩ : ∃ m, s.size + 1 = m := ⟨_, rfl⟩
  rw [hm] at hg ⊢
  have HSL := Hid.mk' (And.intro hsl hm)
  have HL := Hid.mk' hL
  have HG := Hid.mk' hg
  have hms : s.size < m := by omega
  clear hsl hm hL hg
  go_enter Try.func42, Try.ntmps42
  go_wp2
  go_loopw [5, 6] (fun ov av wr => ∃ (C : List Lz.Cp) (n a : Nat), av = .int .i64 (a : Int) ∧ a ≤ s.size ∧ Hid (Ur (Sums.bl s) L g m w ov C n a wr)) (fun _ av _ => s.size + 1 - (intOf av).toNat)
  case atStart => exact ⟨[], 0, 0, by simp, by omega, ⟨World.ownsRow_nil _ _ _ _, rfl, ⟨s.size + 1, by rw [HSL.out.1]; omega, by rw [List.nil_append, HSL.out.1]⟩, HG.out, Below.refl _ _, Nat.le_refl _, by omega⟩⟩
  case round =>
    obtain ⟨C, n, a, rfl, has, hur⟩ := hrel
    clear HG
    obtain ⟨b, cap2, rfl⟩ := row_shape hur.out.row
    obtain ⟨x, hx⟩ : ∃ x, L.getD a (0, 0, 0) = x := ⟨_, rfl⟩
    obtain ⟨k0, k1, k2, _⟩ := hur.out.wys.cells a (by omega)
    simp only [hx] at k0 k1 k2
    obtain ⟨f, hf, heq⟩ := hur.out.eq
    rw [HSL.out.1] at hf
    obtain ⟨f, rfl⟩ : ∃ f1, f = f1 + 1 := ⟨f - 1, by omega⟩
    rw [Lz.unrF] at heq
    simp only [hx] at heq
    have haI : (a : Int) < (m : Int) := by omega
    have haN : a < m := by omega
    by_cases hc0 : x.2.2 = 0
    · have hc0I : ¬ (0 : Int) < (x.2.2 : Int) := by omega
      rw [if_pos hc0, List.append_nil] at heq
      have HE := Hid.mk' heq
      clear heq hf
      go_wp2
      go_ret
      refine ⟨_, rfl, ?_, hur.out.bel⟩
      have := HE.out
      rw [HSL.out.1, HSL.out.2] at this
      rw [← this]
      exact cpr_of hur.out.row hur.out.len
    · have hc0I : (0 : Int) < (x.2.2 : Int) := by omega
      rw [if_neg hc0] at heq
      obtain ⟨x0, x1, cn⟩ := x
      simp only at k0 k1 k2 hc0 hc0I heq
      have hway := HL.out a (x0, x1, cn) (by
        cases e : L[a]? with
        | none => rw [List.getD_eq_getElem?_getD, e] at hx; simp at hx; omega
        | some y => rw [List.getD_eq_getElem?_getD, e] at hx; exact congrArg some hx)
      rcases hway with h | ⟨h12, h4, hr⟩
      · exact absurd h hc0
      · simp only at h12 h4 hr
        obtain ⟨p, hp⟩ : ∃ p, a + x1 = p := ⟨_, rfl⟩
        rw [hp] at h12 hr heq
        have hpI : (a : Int) + (x1 : Int) = (p : Int) := by omega
        rcases Lz.rch_ok (Sums.bl s) o p with h | ⟨r1, r2, off, r3, r4, r5, r6⟩
        · omega
        · have hal := Lz.agree_le (Sums.bl s) (p - off) p
          rw [HSL.out.1] at hal
          have hag := Lz.agree_take (Sums.bl s) (p - off) p cn (by omega) (by omega)
          have HLO := Hid.mk' (fun w => leastOffset_any s p cn off w hs r3 r4 (by omega) hag)
          obtain ⟨lo, hlo⟩ : ∃ lo, Lz.leastF (Sums.bl s) p cn p 1 = lo := ⟨_, rfl⟩
          rw [hlo] at HLO heq
          have hlob : lo ≤ 4097 := by rw [← hlo]; have := Lz.leastF_le (Sums.bl s) p cn p 1; omega
          have HE := Hid.mk' heq
          have hpc : p + cn ≤ s.size := by omega
          obtain ⟨q, hq⟩ : ∃ q, p + cn = q := ⟨_, rfl⟩
          have hqI : (p : Int) + (cn : Int) = (q : Int) := by omega
          rw [hq] at HE
          have hlim := hur.out.lim
          have HAP := Hid.mk' (And.intro hp hq)
          clear heq hr h12 r1 r2 r3 r4 r5 r6 hal hag hlo hp hq hx
          go_upto_region 6 with fail
          obtain ⟨w6, hw6⟩ : ∃ w6, wr.alloc (.cells #[.int .i64 (x0 : Int), .int .i64 (x1 : Int), .int .i64 (cn : Int)] 80) = w6 := ⟨_, rfl⟩
          have hb6 : Below wr.heap.size wr w6 := by rw [← hw6]; exact (Below.refl _ _).alloc (Nat.le_refl _) _
          have hn6 : w6.heap[wr.heap.size]? = some (.cells #[.int .i64 (x0 : Int), .int .i64 (x1 : Int), .int .i64 (cn : Int)] 80 (0, 0)) := by rw [← hw6]; exact heap_alloc_new wr _
          rw [hw6]
          obtain ⟨N, hN⟩ : ∃ N, wr.heap.size = N := ⟨_, rfl⟩
          have hrow6 : w6.ownsRow w.heap.size 72 3 (.slice b n cap2) n (cpv C) := row_kept hur.out.row fun k hk => hb6.block k (hur.out.row.lt k hk).2
          have hwys6 := hur.out.wys.below hb6
          have hbel6 := below_up2 hur.out.bel hur.out.siz hb6
          have hsz6 : w.heap.size ≤ w6.heap.size := Nat.le_trans hur.out.siz hb6.size
          rw [hN] at hn6 ⊢
          have n2 := (cell3 hn6).2.2.1
          have HS6 := Hid.mk' (And.intro hrow6 (And.intro hwys6 (And.intro hbel6 hn6)))
          have hnC : n ≤ 4096 := by omega
          clear hw6 hb6 hn6 hN hrow6 hwys6 hbel6 k0 k1 k2
          go_cut [5] (fun ov wc => ∃ bb cc, ov = .slice bb (n + 1) cc ∧ wc.cell? ⟨N, 2, none⟩ = some (.int .i64 (cn : Int)) ∧ Hid (wc.ownsRow w.heap.size 72 3 (.slice bb (n + 1) cc) (n + 1) (cpv (C ++ [⟨p, lo, cn⟩])) ∧ Wys wc g m (fun x => L.getD x (0, 0, 0)) ∧ Below w.heap.size w wc ∧ w.heap.size ≤ wc.heap.size))
          case first =>
            go_region_held3 (fun w' => w'.cell? ⟨N, 2, none⟩ = some (.int .i64 (cn : Int))) (first | go_keep | exact n2)
              ((first | (go_at_call 53; refine (HLO.out _).mono ?_; rintro e w7 ⟨rfl, j, hw7⟩; have n2 : w7.cell? ⟨N, 2, none⟩ = some (.int .i64 (cn : Int)) := (by rw [hw7]; exact n2); have HS7 : Hid (w7.ownsRow w.heap.size 72 3 (.slice b n cap2) n (cpv C) ∧ Wys w7 g m (fun x => L.getD x (0, 0, 0)) ∧ Below w.heap.size w w7 ∧ w7.heap[N]? = some (.cells #[.int .i64 (x0 : Int), .int .i64 (x1 : Int), .int .i64 (cn : Int)] 80 (0, 0))) := (by rw [hw7]; exact ⟨HS6.out.1, HS6.out.2.1, (HS6.out.2.2.1.drewN' 1).drewN' j, HS6.out.2.2.2⟩); have hsz7 : w.heap.size ≤ w7.heap.size := HS7.out.2.2.1.size; clear hw7) | (refine step_append_lies _ (by rfl) _ _ _ (by rfl) w.heap.size 72 i0 _ 3 24 Try.underlying51 hi hz0 hz1 hz2 rfl (by omega) (.slice b n cap2) n (cpv C) (by rfl) (by exact (HS7.out.1.alloc _)) ⟨w7.heap.size, 0, none⟩ 1 1 [.int .i64 (p : Int), .int .i64 (lo : Int), .int .i64 (cn : Int)] (by rfl) (by rfl) (World.news_of_block (cs := #[.int .i64 (p : Int), .int .i64 (lo : Int), .int .i64 (cn : Int)]) (t := 72) (fr := (0, 0)) (heap_alloc_new w7 _)) (cp_one _ _ _) (by omega) (by unfold maxLen; omega) (by omega) (by simp; omega) (w7.heap.size + 1) (by simp) ?_; intro g8 cap8 w8 hown8 hgrow8 hat8 hlt8; have HS8 := unr_grow HS7.out hown8 hgrow8; have n2 : w8.cell? ⟨N, 2, none⟩ = some (.int .i64 (cn : Int)) := HS8.out.2.2.2.1; clear hown8 hgrow8 hat8 hlt8)))
            go_wp2_with fail
            go_meet
            exact ⟨some ⟨g8, 0, none⟩, cap8, rfl, n2, ⟨HS8.out.1, HS8.out.2.1, HS8.out.2.2.1, HS8.out.2.2.2.2⟩⟩
          case rest =>
            obtain ⟨bb, cc, rfl, n2', hs8⟩ := hcut
            rename World => w8
            go_wp2
            go_roundw
            case rel =>
              have h1 := HAP.out.1
              have h2 := HAP.out.2
              have h3 := hur.out.len
              exact ⟨C ++ [⟨p, lo, cn⟩], n + 1, q, rfl, by omega, Hid.mk' ⟨hs8.out.1, by simp; omega, ⟨f, by rw [HSL.out.1]; omega, by rw [List.append_assoc]; exact HE.out⟩, hs8.out.2.1, hs8.out.2.2.1, hs8.out.2.2.2, by omega⟩⟩
            case measure =>
              have h1 := HAP.out.1
              have h2 := HAP.out.2
              simp [intOf]
              omega
end Go.Proofs.Ytchjmhgalbkjkaa

namespace Go.Proofs.Ytchjmhgalbkjkaa
open Go.RowKit
set_option linter.unusedVariables false
theorem bcF_congr (W W' : Nat → Nat) (a : Nat) (h : ∀ x, a < x → W x = W' x) : ∀ (d : Nat) (b : Nat × Nat), Lz.bcF W a d b = Lz.bcF W' a d b
  | 0, b => rfl
  | d + 1, b => by rw [Lz.bcF, Lz.bcF, h (a + (d + 4)) (by omega), bcF_congr W W' a h d]
theorem bwF_congr (C C' : Nat → Nat × Nat) (a : Nat) (h : ∀ x, a ≤ x → C x = C' x) : ∀ (d : Nat) (b : Way), Lz.bwF C a d b = Lz.bwF C' a d b
  | 0, b => rfl
  | d + 1, b => by rw [Lz.bwF, Lz.bwF, h (a + d) (by omega), bwF_congr C C' a h d]
theorem tab_cost1 (n : Nat) (R : Nat → Nat) (hR : ∀ x, R x ≤ 2 * n + 1) (k : Nat) : ∀ x ∈ (Lz.tab n R k).1, x.1 ≤ 2 + (2 * n + 1) + (2 * n + 1) := by
  induction k with
  | zero => intro x hx; simp [Lz.tab] at hx
  | succ k ih =>
    intro x hx
    simp only [Lz.tab, List.mem_cons] at hx
    rcases hx with rfl | hx
    · refine Lz.bcF_cost _ _ (2 * n + 1) (fun y => ?_) _ _ (by have := hR (n - k); omega) (by simp)
      rw [List.getD_eq_getElem?_getD]
      cases e : (Lz.tab n R k).2[y - (n - k) - 1]? with
      | none => simp
      | some z => exact Lz.tab_cost n R k z (List.mem_of_getElem? e)
    · exact ih x hx
/-- the rows, so many places from the end on -/
def fw (n : Nat) (R : Nat → Nat) (k x : Nat) : Way := if n + 1 - k ≤ x then (Lz.tab n R k).2.getD (x - (n + 1 - k)) (0, 0, 0) else (0, 0, 0)
def fc (n : Nat) (R : Nat → Nat) (k x : Nat) : Way := if n + 1 - k ≤ x then (((Lz.tab n R k).1.getD (x - (n + 1 - k)) (0, 0)).1, 0, ((Lz.tab n R k).1.getD (x - (n + 1 - k)) (0, 0)).2) else (0, 0, 0)
theorem fw_cost (n : Nat) (R : Nat → Nat) (k x : Nat) : (fw n R k x).1 ≤ 2 * n + 1 := by
  unfold fw
  split
  · rw [List.getD_eq_getElem?_getD]
    cases e : (Lz.tab n R k).2[x - (n + 1 - k)]? with
    | none => simp
    | some z => exact Lz.tab_cost n R k z (List.mem_of_getElem? e)
  · simp
theorem fc_cost (n : Nat) (R : Nat → Nat) (hR : ∀ x, R x ≤ 2 * n + 1) (k x : Nat) : (fc n R k x).1 ≤ 2 + (2 * n + 1) + (2 * n + 1) := by
  unfold fc
  split
  · simp only [List.getD_eq_getElem?_getD]
    cases e : (Lz.tab n R k).1[x - (n + 1 - k)]? with
    | none => simp
    | some z => exact tab_cost1 n R hR k z (List.mem_of_getElem? e)
  · simp
/-- what is put into the rows -/
theorem put_c (n : Nat) (R : Nat → Nat) (k : Nat) (hk : k ≤ n) : (fun x => if x = n - k then ((Lz.bcF (fun x => (fw n R k x).1) (n - k) (R (n - k) - 3) (0, 0)).1, 0, (Lz.bcF (fun x => (fw n R k x).1) (n - k) (R (n - k) - 3) (0, 0)).2) else fc n R k x) = fc n R (k + 1) := by
  have hb : Lz.bcF (fun x => (fw n R k x).1) (n - k) (R (n - k) - 3) (0, 0) = Lz.bcF (fun x => ((Lz.tab n R k).2.getD (x - (n - k) - 1) (0, 0, 0)).1) (n - k) (R (n - k) - 3) (0, 0) := by
    refine bcF_congr _ _ _ (fun x hx => ?_) _ _
    simp only [fw]
    rw [if_pos (by omega), show x - (n + 1 - k) = x - (n - k) - 1 by omega]
  rw [hb]
  funext x
  unfold fc
  by_cases e : x = n - k
  · subst e
    rw [if_pos rfl, if_pos (by omega), show n - k - (n + 1 - (k + 1)) = 0 by omega]
    rfl
  · rw [if_neg e]
    by_cases h : n + 1 - k ≤ x
    · rw [if_pos h, if_pos (by omega), show x - (n + 1 - (k + 1)) = (x - (n + 1 - k)) + 1 by omega]
      rfl
    · rw [if_neg h, if_neg (by omega)]
theorem put_w (n : Nat) (R : Nat → Nat) (k : Nat) (hk : k ≤ n) : (fun x => if x = n - k then Lz.bwF (fun x => ((fc n R (k + 1) x).1, (fc n R (k + 1) x).2.2)) (n - k) (n - (n - k) - 11) (1 + Lz.lenz (n - (n - k)) + (n - (n - k)), n - (n - k), 0) else fw n R k x) = fw n R (k + 1) := by
  have hb : Lz.bwF (fun x => ((fc n R (k + 1) x).1, (fc n R (k + 1) x).2.2)) (n - k) (n - (n - k) - 11) (1 + Lz.lenz (n - (n - k)) + (n - (n - k)), n - (n - k), 0) = Lz.bwF (fun x => ((Lz.tab n R (k + 1)).1).getD (x - (n - k)) (0, 0)) (n - k) (n - (n - k) - 11) (1 + Lz.lenz (n - (n - k)) + (n - (n - k)), n - (n - k), 0) := by
    refine bwF_congr _ _ _ (fun x hx => ?_) _ _
    simp only [fc]
    rw [if_pos (by omega), show n + 1 - (k + 1) = n - k by omega]
  rw [hb]
  funext x
  unfold fw
  by_cases e : x = n - k
  · subst e
    rw [if_pos rfl, if_pos (by omega), show n - k - (n + 1 - (k + 1)) = 0 by omega]
    rfl
  · rw [if_neg e]
    by_cases h : n + 1 - k ≤ x
    · rw [if_pos h, if_pos (by omega), show x - (n + 1 - (k + 1)) = (x - (n + 1 - k)) + 1 by omega]
      rfl
    · rw [if_neg h, if_neg (by omega)]
theorem fw_all (n : Nat) (R : Nat → Nat) : fw n R (n + 1) = fun x => (Lz.tab n R (n + 1)).2.getD x (0, 0, 0) := by
  funext x
  unfold fw
  rw [if_pos (by omega), Nat.sub_self, Nat.sub_zero]
theorem fw_none (n : Nat) (R : Nat → Nat) : fw n R 0 = fun _ => (0, 0, 0) := by
  funext x
  unfold fw
  split <;> simp [Lz.tab]
theorem fc_none (n : Nat) (R : Nat → Nat) : fc n R 0 = fun _ => (0, 0, 0) := by
  funext x
  unfold fc
  split <;> simp [Lz.tab]
theorem infoWy : (Try.prog.info? 80).map (fun i => (i.zero, i.size, i.bytes)) = some (some (.agg #[.int .i64 0, .int .i64 0, .int .i64 0]), 3, 24) := by kernel_rfl
theorem wys_zero (m : Nat) : madeCells (Value.agg #[.int .i64 0, .int .i64 0, .int .i64 0]).cells (m * 3) = (rowN (wyf (fun _ => (0, 0, 0))) (m * 3)).toArray := by
  apply Array.ext'
  apply List.ext_getElem
  · simp [rowN, madeCells]
  · intro i h1 h2
    rcases (show i % 3 = 0 ∨ i % 3 = 1 ∨ i % 3 = 2 by omega) with h | h | h <;> simp [rowN, madeCells, Value.cells, wyf, h]
theorem make_wys (m : Nat) (hm : m ≤ 4294967296) (w : World) : (Instr.makeSlice 78 (.int .i64 (m : Int)) (.int .i64 (m : Int))).run Try.prog w = .ok (.slice (some ⟨w.heap.size, 0, none⟩) m m) (w.alloc (.cells (rowN (wyf (fun _ => (0, 0, 0))) (m * 3)).toArray 80)) := by
  obtain ⟨i0, hi, hz0, hz1, hz2⟩ := info_parts infoWy
  have := run_make (P := Try.prog) w 78 80 i0 _ Try.underlying78 hi hz0 .i64 .i64 (m : Int) (m : Int) (by omega) (by omega) (by rw [hz2]; omega) (by omega)
  rw [this, hz1, Int.toNat_natCast, wys_zero m]
structure Sh (bs : List Nat) (n gr gc gw : Nat) (w0 : World) (k : Nat) (w : World) : Prop where
  row : w.heap[gr]? = some (.cells (rowN (Lz.rch bs (n - 1)) (n + 1)).toArray 3 (0, 0))
  cps : Wys w gc (n + 1) (fc n (Lz.rch bs (n - 1)) k)
  wys : Wys w gw (n + 1) (fw n (Lz.rch bs (n - 1)) k)
  bel : Below w0.heap.size w0 w
  ge : w0.heap.size ≤ gr ∧ gr < gc ∧ gc < gw
theorem Sh.below {bs : List Nat} {n gr gc gw : Nat} {w0 : World} {k : Nat} {w w' : World} (h : Sh bs n gr gc gw w0 k w) (hb : Below w.heap.size w w') : Sh bs n gr gc gw w0 k w' := by
  have hlt := (Array.getElem?_eq_some_iff.1 h.row).1
  have hge := h.ge
  exact ⟨(hb.block gr hlt).trans h.row, h.cps.below hb, h.wys.below hb, h.bel.trans ⟨hb.os, hb.tape, hb.output, hb.size, fun i hi => hb.block i (by omega)⟩, h.ge⟩
end Go.Proofs.Ytchjmhgalbkjkaa

namespace Go.Proofs.Ytchjmhgalbkjkaa
open Go.RowKit
set_option linter.unusedVariables false
def waysOf (s : ByteArray) : List Way := (Lz.tab s.size (Lz.rch (Sums.bl s) (s.size - 1)) (s.size + 1)).2
/-- the copies of the shortest packing -/
def best3 (s : ByteArray) : List Lz.Cp := Lz.unrF (Sums.bl s) (waysOf s) (s.size + 1) 0
set_option maxRecDepth 100000 in
set_option maxHeartbeats 2000000 in
theorem shortest_any (s : ByteArray) (w : World) (hs : s.size ≤ 4096) :
    Calls Try.prog 23 #[.string s] w fun e w' => ∃ v, e = .returned v ∧ Cpr w' v (best3 s) ∧ Below w.heap.size w w' := by
  have hsl := Sums.bl_length s
  have HRE := Hid.mk' (fun w => reaches_any s w hs)
  have hok := Lz.tab_ok s.size (Lz.rch (Sums.bl s) (s.size - 1)) (s.size + 1) (Nat.le_refl _)
  have HUN : Hid (∀ (g cap : Nat) (w : World), Wys w g (s.size + 1) (fun x => (waysOf s).getD x (0, 0, 0)) → Calls Try.prog 42 #[.string s, .slice (some ⟨g, 0, none⟩) (s.size + 1) cap] w fun e w' => ∃ v, e = .returned v ∧ Cpr w' v (best3 s) ∧ Below w.heap.size w w') :=
    fun g cap w hg => unrolled_any s (waysOf s) (s.size - 1) g cap w hs (fun i x hx => by
      have := hok.2 i x hx
      rw [Nat.sub_self, Nat.zero_add] at this
      exact this) hg
  obtain ⟨R, hR⟩ : ∃ R, Lz.rch (Sums.bl s) (s.size - 1) = R := ⟨_, rfl⟩
  obtain ⟨n, hn⟩ : ∃ n, s.size = n := ⟨_, rfl⟩
  have hRl : ∀ a, R a ≤ n - 5 - a := fun a => by
    have := Lz.rch_le (Sums.bl s) (s.size - 1) a
    rw [hR, hsl, hn] at this
    exact this
  have hfw : fw n R (n + 1) = fun x => (waysOf s).getD x (0, 0, 0) := by
    rw [fw_all, waysOf, hR, hn]
  rw [hn] at HRE HUN
  obtain ⟨m, hm⟩ : ∃ m, n + 1 = m := ⟨_, rfl⟩
  have hmI : (n : Int) + 1 = (m : Int) := by omega
  have hms := make_wys m (by omega)
  rw [hm] at HRE HUN
  have hsz : (s.size : Int) = (n : Int) := by omega
  have hRR : Lz.rch (Sums.bl s) (n - 1) = R := by rw [← hn]; exact hR
  have HX := Hid.mk' (And.intro hRl (And.intro hfw (And.intro hm hRR)))
  have hn4 : n ≤ 4096 := by omega
  have HN := Hid.mk' hn
  clear hok hR hRl hfw hm hRR hsl
  go_enter Try.func23, Try.ntmps23
  go_wp2_with (go_at_call 39; refine (HRE.out _).mono ?_; rintro e w1 ⟨gr, rfl, hgr, hrow, hb1⟩; have hgl := (Array.getElem?_eq_some_iff.1 hrow).1; have HR1 := Hid.mk' (And.intro hrow hb1); clear hrow hb1)
  obtain ⟨gc, hgc⟩ : ∃ gc, w1.heap.size = gc := ⟨_, rfl⟩
  obtain ⟨w3, hw3⟩ : ∃ w3, (w1.alloc (.cells (rowN (wyf fun x => (0, 0, 0)) (m * 3)).toArray 80)).alloc (.cells (rowN (wyf fun x => (0, 0, 0)) (m * 3)).toArray 80) = w3 := ⟨_, rfl⟩
  have hst : Sh (Sums.bl s) n gr gc (gc + 1) w 0 w3 := by
    have h1 := HR1.out.1
    have h2 := HR1.out.2
    have hz := h2.size
    rw [← hw3, ← hgc]
    refine ⟨?_, ?_, ?_, (h2.alloc hz _).alloc (by simp; omega) _, hgr, hgl, by omega⟩
    · rw [Below.heap_alloc _ _ _ (by simp; omega), Below.heap_alloc _ _ _ hgl, HX.out.2.2.1]
      exact h1
    · unfold Wys
      rw [fc_none, Below.heap_alloc _ _ _ (by simp), HX.out.2.2.1]
      exact heap_alloc_new w1 _
    · unfold Wys
      rw [fw_none, HX.out.2.2.1]
      have := heap_alloc_new (w1.alloc (.cells (rowN (wyf fun x => (0, 0, 0)) (m * 3)).toArray 80)) (.cells (rowN (wyf fun x => (0, 0, 0)) (m * 3)).toArray 80)
      simpa using this
  rw [hw3, hgc]
  have HST := Hid.mk' hst
  have hrc : gr < gc := by omega
  clear hst hw3 hgc hgl HR1 HRE hms
  go_loopw [7] (fun av wr => ∃ (k : Nat) (aI : Int), av = .int .i64 aI ∧ aI = (n : Int) - (k : Int) ∧ k ≤ n + 1 ∧ Hid (Sh (Sums.bl s) n gr gc (gc + 1) w k wr)) (fun av _ => (intOf av + 1).toNat)
  case atStart => exact ⟨0, (n : Int), rfl, by omega, by omega, HST⟩
  case round =>
    obtain ⟨k, aI, rfl, haI, hkn, hsh⟩ := hrel
    clear HST
    by_cases hk : k ≤ n
    · obtain ⟨a, ha⟩ : ∃ a, n - k = a := ⟨_, rfl⟩
      obtain rfl : aI = (a : Int) := by omega
      have ha0 : ¬ (a : Int) < 0 := by omega
      have ham : (a : Int) < (m : Int) := by omega
      have hamN : a < m := by omega
      have hanN : a ≤ n := by omega
      have hRa := HX.out.1 a
      obtain ⟨r, hr⟩ : ∃ r, R a = r := ⟨_, rfl⟩
      have hra := (rowN_cell hsh.out.row a (by omega)).1
      rw [HX.out.2.2.2, hr] at hra
      rw [hr] at hRa
      have hcps := hsh.out.cps
      have hwys := hsh.out.wys
      rw [HX.out.2.2.2, HX.out.2.2.1] at hcps hwys
      have hRb : ∀ x, R x ≤ 2 * n + 1 := fun x => by have := HX.out.1 x; omega
      have HBC := Hid.mk' (fun W (h : Wys W (gc + 1) m (fw n R k)) => bestCopy_any (gc + 1) m m a r (fw n R k) W (fun x => by have := fw_cost n R k x; omega) (by omega) (by omega) h)
      have HBW := Hid.mk' (fun W (h : Wys W gc m (fc n R (k + 1))) => bestWay_any gc m m a n (fc n R (k + 1)) W (fun x => by have := fc_cost n R hRb (k + 1) x; omega) HX.out.2.2.1.symm hn4 hanN h)
      obtain ⟨c1, hc1⟩ : ∃ c1, (Lz.bcF (fun x => (fw n R k x).1) a (r - 3) (0, 0)).1 = c1 := ⟨_, rfl⟩
      obtain ⟨c2, hc2⟩ : ∃ c2, (Lz.bcF (fun x => (fw n R k x).1) a (r - 3) (0, 0)).2 = c2 := ⟨_, rfl⟩
      obtain ⟨y, hy⟩ : ∃ y, Lz.bwF (fun x => ((fc n R (k + 1) x).1, (fc n R (k + 1) x).2.2)) a (n - a - 11) (1 + Lz.lenz (n - a) + (n - a), n - a, 0) = y := ⟨_, rfl⟩
      rw [hc1, hc2] at HBC
      rw [hy] at HBW
      have hpc := put_c n R k hk
      have hpw := put_w n R k hk
      rw [ha, hr, hc1, hc2] at hpc
      rw [ha, hy] at hpw
      have HP := Hid.mk' (And.intro hpc hpw)
      have HCW := Hid.mk' (And.intro hcps hwys)
      have HA := Hid.mk' (And.intro ha haI)
      clear hc1 hc2 hy hpc hpw hcps hwys hRb hr ha haI
      obtain ⟨y0, y1, y2⟩ := y
      go_upto_region 9 with (go_at_call 40; refine (HBC.out _ (by exact HCW.out.2)).mono ?_; rintro e w4 ⟨rfl, hb4⟩; unfold wyV; have hc4 := HCW.out.1.below hb4; have hw4 := HCW.out.2.below hb4; have hs4 := hsh.out.below hb4; obtain ⟨q0, q1, q2, q3, q4, q5⟩ := hc4.cells a hamN; have H4 := Hid.mk' (And.intro hc4 (And.intro hw4 hs4)); clear hc4 hw4 hs4 hb4)
      obtain ⟨w5, hw5⟩ : ∃ w5, setW w4 gc a (c1, 0, c2) = w5 := ⟨_, rfl⟩
      have hw5' : ((w4.setCell ⟨gc, a * 3, none⟩ (.int .i64 (c1 : Int))).setCell ⟨gc, a * 3 + 1, none⟩ (.int .i64 0)).setCell ⟨gc, a * 3 + 2, none⟩ (.int .i64 (c2 : Int)) = w5 := hw5
      have hc5 : Wys w5 gc m (fc n R (k + 1)) := by
        rw [← HP.out.1, ← hw5]
        exact H4.out.1.put a (c1, 0, c2)
      have hw5w : Wys w5 (gc + 1) m (fw n R k) := by
        rw [← hw5]
        exact (setW_other w4 gc a (gc + 1) _ (by omega)).trans H4.out.2.1
      have hr5 : w5.heap[gr]? = some (.cells (rowN (Lz.rch (Sums.bl s) (n - 1)) (n + 1)).toArray 3 (0, 0)) := by
        rw [← hw5]
        exact (setW_other w4 gc a gr _ (by omega)).trans H4.out.2.2.row
      have hb5 : Below w.heap.size w w5 := by
        rw [← hw5]
        exact setW_below H4.out.2.2.bel (by omega) _ _
      rw [hw5']
      have H5 := Hid.mk' (And.intro hc5 (And.intro hw5w (And.intro hr5 hb5)))
      clear hw5 hw5' hc5 hw5w hr5 hb5 q0 q1 q2 q3 q4 q5
      go_wp2_with (go_at_call 41; refine (HBW.out _ (by exact H5.out.1)).mono ?_; rintro e w6 ⟨rfl, hb6⟩; unfold wyV; have hc6 := H5.out.1.below hb6; have hw6 := H5.out.2.1.below hb6; have hr6 := (hb6.block gr (Array.getElem?_eq_some_iff.1 H5.out.2.2.1).1).trans H5.out.2.2.1; have hbl6 := below_up2 H5.out.2.2.2 H5.out.2.2.2.size hb6; obtain ⟨q0, q1, q2, q3, q4, q5⟩ := hw6.cells a hamN; have H6 := Hid.mk' (And.intro hc6 (And.intro hw6 (And.intro hr6 hbl6))); clear hc6 hw6 hr6 hbl6 hb6)
      go_roundw
      case rel =>
        have hA := HA.out
        refine ⟨k + 1, _, rfl, by omega, by omega, Hid.mk' ⟨?_, ?_, ?_, ?_, hgr, hrc, by omega⟩⟩
        · exact (setW_other w6 (gc + 1) a gr (y0, y1, y2) (by omega)).trans H6.out.2.2.1
        · rw [HX.out.2.2.2, HX.out.2.2.1]
          exact (setW_other w6 (gc + 1) a gc (y0, y1, y2) (by omega)).trans H6.out.1
        · rw [HX.out.2.2.2, HX.out.2.2.1, ← HP.out.2]
          exact H6.out.2.1.put a (y0, y1, y2)
        · exact setW_below H6.out.2.2.2 (by omega) a (y0, y1, y2)
      case measure =>
        simp [intOf]
    · obtain rfl : k = n + 1 := by omega
      obtain rfl : aI = -1 := by omega
      have hw := hsh.out.wys
      rw [HX.out.2.2.2, HX.out.2.1, HX.out.2.2.1] at hw
      have HW := Hid.mk' hw
      clear hw haI
      go_wp2_with (go_at_call 42; refine (HUN.out (gc + 1) m _ (by exact HW.out)).mono ?_; rintro e w6 ⟨v, rfl, hc6, hb6⟩; have H6 := Hid.mk' (And.intro hc6 (below_up2 hsh.out.bel hsh.out.bel.size hb6)); obtain ⟨bb, cc, rfl⟩ := cpr_shape hc6; clear hc6 hb6)
      go_ret
      exact ⟨_, rfl, H6.out.1, H6.out.2⟩
end Go.Proofs.Ytchjmhgalbkjkaa

namespace Go.Proofs.Ytchjmhgalbkjkaa
open Go.RowKit
set_option linter.unusedVariables false
theorem okc_tru (s : ByteArray) : ∀ (l : List Lz.Cp) (i : Nat), Lz.tru (Sums.bl s) i l → okc s.size i l
  | [], i, _ => trivial
  | c :: l, i, ⟨h1, h2, h3⟩ => by
    obtain ⟨t1, t2, t3, t4, t5, t6, t7⟩ := h2
    rw [Sums.bl_length] at t6
    exact ⟨h1, t1, by omega, by omega, okc_tru s l _ h3⟩
theorem unr_off (bs : List Nat) (o : Nat) (hbs : bs.length ≤ 4096) (L : List Way) (hL : ∀ (i : Nat) (w : Way), L[i]? = some w → Lz.WayOk bs.length (Lz.rch bs o) i w) : ∀ (f a : Nat), ∀ c ∈ Lz.unrF bs L f a, c.off ≤ 65535
  | 0, a, c, hc => by simp [Lz.unrF] at hc
  | f + 1, a, c, hc => by
    unfold Lz.unrF at hc
    split at hc
    · cases hc
    · rename_i h0
      rcases List.mem_cons.1 hc with rfl | hc
      · obtain ⟨w, hw⟩ : ∃ w, L[a]? = some w := by
          cases e : L[a]? with
          | none => rw [List.getD_eq_getElem?_getD, e] at h0; simp at h0
          | some w => exact ⟨w, rfl⟩
        have hg : L.getD a (0, 0, 0) = w := by rw [List.getD_eq_getElem?_getD, hw]; rfl
        simp only [hg] at h0 ⊢
        have := Lz.leastF_le bs (a + w.2.1) w.2.2 (a + w.2.1) 1
        rcases hL a w hw with h | ⟨h1, _⟩
        · exact absurd h h0
        · omega
      · exact unr_off bs o hbs L hL f _ c hc
theorem best3_tru (s : ByteArray) (hs : s.size ≤ 4096) : Lz.tru (Sums.bl s) 0 (best3 s) := by
  have hsl := Sums.bl_length s
  have hok := Lz.tab_ok s.size (Lz.rch (Sums.bl s) (s.size - 1)) (s.size + 1) (Nat.le_refl _)
  have hL : ∀ (i : Nat) (w : Way), (waysOf s)[i]? = some w → Lz.WayOk (Sums.bl s).length (Lz.rch (Sums.bl s) (s.size - 1)) i w := fun i x hx => by
    have := hok.2 i x hx
    rw [Nat.sub_self, Nat.zero_add] at this
    rw [hsl]
    exact this
  exact Lz.unrF_true (Sums.bl s) (s.size - 1) (waysOf s) hL _ 0 (unr_off (Sums.bl s) (s.size - 1) (by rw [hsl]; exact hs) (waysOf s) hL _ 0)
set_option maxRecDepth 100000 in
set_option maxHeartbeats 1000000 in
theorem compress3_any (s : ByteArray) (w : World) (hs : s.size ≤ 4096) :
    Calls Try.prog 10 #[.string s, .int .i64 3] w fun e w' => e = .returned (pkV s (best3 s)) ∧ Below w.heap.size w w' := by
  unfold pkV
  have HGR := Hid.mk' (shortest_any s w hs)
  have HOK := Hid.mk' (okc_tru s _ 0 (best3_tru s hs))
  have HWR := Hid.mk' (fun (v : Value) (w1 : World) (h : Cpr w1 v (best3 s)) => written_any s v _ w1 (by omega) h HOK.out)
  generalize best3 s = l at HGR HOK HWR ⊢
  have h4 : ¬ (4096 : Int) < (s.size : Int) := by omega
  have h4B : decide ((4096 : Int) < (s.size : Int)) = false := by simp; omega
  go_enter Try.func10, Try.ntmps10
  go_wp2_with (first | (go_at_call 23; refine HGR.out.mono ?_; rintro e w1 ⟨v, rfl, hcp, hb1⟩; have HCP := Hid.mk' hcp; have HB1 := Hid.mk' hb1; obtain ⟨b, cap, rfl⟩ := cpr_shape hcp; clear hcp hb1) | (go_at_call 21; refine (HWR.out (.slice b l.length cap) _ (by exact HCP.out)).mono ?_; rintro e w2 ⟨rfl, hap⟩; have HA := Hid.mk' (below_up2 HB1.out HB1.out.size hap.below); clear hap) | fail)
  go_ret2
  exact ⟨rfl, HA.out⟩
theorem compress3_long (s : ByteArray) (w : World) (hs : 4096 < s.size) :
    Calls Try.prog 10 #[.string s, .int .i64 3] w fun e w' => e = .returned (.tuple #[.string ⟨#[]⟩, .int .i64 43]) ∧ w' = w := by
  have h4 : (4096 : Int) < (s.size : Int) := by omega
  have h4B : decide ((4096 : Int) < (s.size : Int)) = true := by simp; omega
  go_enter Try.func10, Try.ntmps10
  go_wp2
  go_ret2
  exact ⟨rfl, rfl⟩
theorem compress_arg (s : ByteArray) (level : Int) (w : World) (h : level < 0 ∨ 3 < level) :
    Calls Try.prog 10 #[.string s, .int .i64 level] w fun e w' => e = .returned (.tuple #[.string ⟨#[]⟩, .int .i64 1]) ∧ w' = w := by
  have h0 : (level == 0) = false := by simp; omega
  have h1 : (level == 1) = false := by simp; omega
  have h2 : (level == 2) = false := by simp; omega
  have h3 : (level == 3) = false := by simp; omega
  go_enter Try.func10, Try.ntmps10
  go_wp2
  go_ret2
  exact ⟨rfl, rfl⟩
theorem bound_int (n : Int) (w : World) (h0 : 0 ≤ n) (h1 : n ≤ 1099511627776) : Calls Try.prog 19 #[.int .i64 n] w fun e w' => e = .returned (.int .i64 (n + (n / 255 + 16))) ∧ w' = w := by
  have hq : Int.tdiv n 255 = n / 255 := Int.tdiv_eq_ediv_of_nonneg h0
  go_enter Try.func19, Try.ntmps19
  go_wp2
  all_goals go_ret
  all_goals exact ⟨rfl, rfl⟩
theorem bound_any (n : Nat) (w : World) (hn : n ≤ 1099511627776) : Calls Try.prog 19 #[.int .i64 (n : Int)] w fun e w' => e = .returned (.int .i64 ((n + n / 255 + 16 : Nat) : Int)) ∧ w' = w := by
  refine (bound_int (n : Int) w (by omega) (by omega)).mono ?_
  rintro e w' ⟨rfl, rfl⟩
  exact ⟨ret_i (by omega), rfl⟩
theorem lenb_lenz (n : Nat) : (Lz.lenb n).length = Lz.lenz n := by
  unfold Lz.lenb Lz.lenz
  split <;> simp
theorem packed_bound (bs : List Nat) : ∀ (l : List Lz.Cp) (i : Nat), Lz.tru bs i l → i ≤ bs.length → 255 * (Lz.packed bs i l).length ≤ 256 * (bs.length - i) + 495
  | [], i, _, hi => by
    rw [Lz.packed]
    simp only [Lz.lits, List.length_cons, List.length_append, lenb_lenz, List.length_drop]
    unfold Lz.lenz
    split <;> omega
  | c :: l, i, ⟨h1, h2, h3⟩, hi => by
    obtain ⟨t1, t2, t3, t4, t5, t6, t7⟩ := h2
    have ih := packed_bound bs l (c.at_ + c.cnt) h3 (by omega)
    have hl := Lz.lit_len bs i c.at_ h1 (by omega)
    rw [Lz.packed]
    simp only [Lz.lits, List.length_cons, List.length_append, lenb_lenz, hl, List.length_nil]
    unfold Lz.lenz
    split <;> split <;> omega
end Go.Proofs.Ytchjmhgalbkjkaa
