/-
  Numbers as thousandths, there and back. No program is named here.
-/
import Derived.Test.YtacbmpjpindepaaGreatDoorFmV
namespace Go.Proofs.YtacbmpjpindepaaGreatDoor
open Go.RowKit
set_option linter.unusedVariables false
set_option linter.unusedSimpArgs false
theorem dcN_app (a b : List Nat) (k : Nat) : dcN (a ++ b) k = dcN b (dcN a k) := List.foldl_append
theorem dcN_dec : ∀ (f u : Nat), u < f → dcN (dec u) 0 = u
  | 0, u, h => by omega
  | f + 1, u, h => by
    by_cases c : u < 10
    · rw [dec_small u c]
      simp [dcN]
    · rw [dec_step u c, dcN_app, dcN_dec f (u / 10) (by omega)]
      simp [dcN]
      omega
theorem dec_all (u : Nat) : ∀ z ∈ dec u, digB z = true := fun z hz => by
  have h := dec_dig (u + 1) u (Nat.lt_succ_self u) z hz
  unfold digB
  exact decide_eq_true h
theorem dec_one (u : Nat) : ∃ d r, dec u = d :: r ∧ 48 ≤ d ∧ d ≤ 57 := by
  by_cases h : 1 ≤ u
  · obtain ⟨x, r, h1, h2, h3⟩ := dec_head (u + 1) u (Nat.lt_succ_self u) h
    exact ⟨x, r, h1, by omega, h3⟩
  · exact ⟨48, [], by rw [show u = 0 by omega, dec_small 0 (by decide)], by omega, by omega⟩
theorem dec_le (u k : Nat) (h : u < 10 ^ (k + 1)) : (dec u).length ≤ k + 1 := by
  unfold dec; rw [List.length_map]
  exact decD_short (u + 1) u k (Nat.lt_succ_self _) h
theorem d3 (r : Nat) (h : r < 1000) : (dec (1000 + r)).drop 1 = [48 + r / 100, 48 + r / 10 % 10, 48 + r % 10] := by
  rw [dec_step (1000 + r) (by omega), dec_step ((1000 + r) / 10) (by omega), dec_step ((1000 + r) / 10 / 10) (by omega), dec_small ((1000 + r) / 10 / 10 / 10) (by omega)]
  simp only [List.cons_append, List.nil_append, List.drop_succ_cons, List.drop_zero, List.cons.injEq, and_true]
  omega
/-- what stands behind the whole, by its three digits -/
def tlP (a b c : Nat) : List Nat := if c ≠ 0 then [46, 48 + a, 48 + b, 48 + c] else if b ≠ 0 then [46, 48 + a, 48 + b] else if a ≠ 0 then [46, 48 + a] else []
theorem tr3 (a b c : Nat) : (if trR 48 [48 + a, 48 + b, 48 + c] = [] then [] else 46 :: trR 48 [48 + a, 48 + b, 48 + c]) = tlP a b c := by
  unfold tlP trR
  by_cases hc : c = 0
  · subst hc
    by_cases hb : b = 0
    · subst hb
      by_cases ha : a = 0
      · subst ha
        rfl
      · have : (48 + a == 48) = false := beq_eq_false_iff_ne.2 (by omega)
        simp [List.dropWhile, this, ha]
    · have : (48 + b == 48) = false := beq_eq_false_iff_ne.2 (by omega)
      simp [List.dropWhile, this, hb]
  · have : (48 + c == 48) = false := beq_eq_false_iff_ne.2 (by omega)
    simp [List.dropWhile, this, hc]
theorem shP_is (m : Nat) : shP m = tlP (m % 1000 / 100) (m % 1000 / 10 % 10) (m % 1000 % 10) := by
  unfold shP
  rw [d3 _ (Nat.mod_lt _ (by decide))]
  exact tr3 _ _ _
theorem ix_none (c : Nat) : ∀ l : List Nat, (∀ z ∈ l, z ≠ c) → ixF c l = none
  | [], _ => rfl
  | x :: l, h => by
    rw [ixF, if_neg (h x (by simp)), ix_none c l fun z hz => h z (List.mem_cons_of_mem _ hz)]
    rfl
theorem ix_some (c : Nat) (r : List Nat) : ∀ l : List Nat, (∀ z ∈ l, z ≠ c) → ixF c (l ++ c :: r) = some l.length
  | [], _ => by rw [List.nil_append, ixF, if_pos rfl]; rfl
  | x :: l, h => by
    rw [List.cons_append, ixF, if_neg (h x (by simp)), ix_some c r l fun z hz => h z (List.mem_cons_of_mem _ hz)]
    rfl
theorem dgs_of {m : Nat} {l : List Nat} (h1 : 0 < l.length) (h2 : l.length ≤ m) (h3 : ∀ z ∈ l, digB z = true) : dgsF m l = true := by
  have hr : ∀ l : List Nat, (∀ z ∈ l, digB z = true) → rwS digB l = l.length := fun l => by
    induction l with
    | nil => intro _; rfl
    | cons x l ih =>
      intro h
      rw [rwS, if_pos (h x (by simp)), ih fun z hz => h z (List.mem_cons_of_mem _ hz)]
      rfl
  unfold dgsF
  rw [decide_eq_true h1, decide_eq_true h2, decide_eq_true (hr l h3)]
  rfl
theorem no_dot (l : List Nat) (h : ∀ z ∈ l, digB z = true) : ∀ z ∈ l, z ≠ 46 := fun z hz e => by
  subst e
  exact absurd (h 46 hz) (by decide)
/-- a number's text without its stroke -/
theorem nbA_sh (b : Bool) (m : Nat) (hm : m ≤ 999999999999) : nbA b (shU m) (ixF 46 (shU m)) = (sgI b m, true) := by
  unfold shU
  rw [shP_is]
  obtain ⟨x, hx⟩ : ∃ x, m / 1000 = x := ⟨_, rfl⟩
  obtain ⟨r, hr⟩ : ∃ r, m % 1000 = r := ⟨_, rfl⟩
  rw [hx, hr]
  have hxl : (dec x).length ≤ 9 := dec_le x 8 (by have : (10 : Nat) ^ 9 = 1000000000 := (by decide); omega)
  have hx0 : 0 < (dec x).length := by
    obtain ⟨d, q, h, _⟩ := dec_one x
    rw [h]; simp
  have hd := dec_all x
  have hn := no_dot _ hd
  have h9 : dgsF 9 (dec x) = true := dgs_of hx0 hxl hd
  have hdx : dcN (dec x) 0 = x := dcN_dec (x + 1) x (Nat.lt_succ_self x)
  have dg : ∀ z, z < 10 → digB (48 + z) = true := fun z hz => by unfold digB; exact decide_eq_true (by omega)
  have hb10 : r / 10 % 10 < 10 := Nat.mod_lt _ (by decide)
  have hc10 : r % 10 < 10 := Nat.mod_lt _ (by decide)
  have ha10 : r / 100 < 10 := by omega
  obtain ⟨a, ha⟩ : ∃ a, r / 100 = a := ⟨_, rfl⟩
  obtain ⟨b2, hb⟩ : ∃ b, r / 10 % 10 = b := ⟨_, rfl⟩
  obtain ⟨c, hc⟩ : ∃ c, r % 10 = c := ⟨_, rfl⟩
  rw [ha] at ha10 ⊢
  rw [hb] at hb10 ⊢
  rw [hc] at hc10 ⊢
  have hrr : r = 100 * a + 10 * b2 + c := by omega
  have hmm : m = 1000 * x + (100 * a + 10 * b2 + c) := by omega
  have some : ∀ q : List Nat, 0 < q.length → q.length ≤ 3 → (∀ z ∈ q, digB z = true) → dcN ((q ++ [48, 48, 48]).take 3) x = m → nbA b (dec x ++ 46 :: q) (ixF 46 (dec x ++ 46 :: q)) = (sgI b m, true) := fun q h1 h2 h3 h4 => by
    rw [ix_some 46 q (dec x) hn, nbA]
    have e1 : (dec x ++ 46 :: q).take (dec x).length = dec x := by simp
    have e2 : (dec x ++ 46 :: q).drop ((dec x).length + 1) = q := by
      rw [← List.drop_drop]
      simp
    rw [e1, e2, if_pos h9, if_pos (dgs_of h1 h2 h3), dcN_app, hdx, h4]
  unfold tlP
  by_cases hc0 : c = 0
  · by_cases hb0 : b2 = 0
    · by_cases ha0 : a = 0
      · simp only [hc0, hb0, ha0, ne_eq, not_true_eq_false, if_false, List.append_nil]
        rw [ix_none 46 _ hn, nbA, if_pos h9, dcN_app, hdx]
        have : dcN [48, 48, 48] x = m := by simp [dcN]; omega
        rw [this]
      · simp only [hc0, hb0, ha0, ne_eq, not_true_eq_false, not_false_eq_true, if_false, if_true]
        exact some [48 + a] (by simp) (by simp) (fun z hz => by simp at hz; subst hz; exact dg a ha10) (by simp [dcN]; omega)
    · simp only [hc0, hb0, ne_eq, not_true_eq_false, not_false_eq_true, if_false, if_true]
      exact some [48 + a, 48 + b2] (by simp) (by simp) (fun z hz => by simp at hz; rcases hz with rfl | rfl; exact dg a ha10; exact dg b2 hb10) (by simp [dcN]; omega)
  · simp only [hc0, ne_eq, not_false_eq_true, if_true]
    exact some [48 + a, 48 + b2, 48 + c] (by simp) (by simp) (fun z hz => by simp at hz; rcases hz with rfl | rfl | rfl; exact dg a ha10; exact dg b2 hb10; exact dg c hc10) (by simp [dcN]; omega)
theorem nb_sh (n : Int) (h1 : -999999999999 ≤ n) (h2 : n ≤ 999999999999) : nbF (shF n) = (n, true) := by
  unfold shF
  rw [if_neg (by omega), if_neg (by omega)]
  by_cases h : n < 0
  · rw [if_pos h]
    unfold nbF
    have e : hasO 45 (45 :: shU n.natAbs) = true := rfl
    rw [e, if_pos rfl]
    have e2 : (45 :: shU n.natAbs).drop 1 = shU n.natAbs := rfl
    rw [e2, nbA_sh true _ (by omega)]
    unfold sgI
    simp
    omega
  · rw [if_neg h]
    unfold nbF
    have e : hasO 45 (shU n.natAbs) = false := by
      unfold shU
      obtain ⟨d, q, h3, h4, h5⟩ := dec_one (n.natAbs / 1000)
      rw [h3]
      simp [hasO]
      omega
    rw [e]
    simp only [Bool.false_eq_true, if_false]
    rw [nbA_sh false _ (by omega)]
    unfold sgI
    simp
    omega
theorem sh_inj (n m : Int) (h1 : -999999999999 ≤ n) (h2 : n ≤ 999999999999) (h3 : -999999999999 ≤ m) (h4 : m ≤ 999999999999) (h : shF n = shF m) : n = m := by
  have a := nb_sh n h1 h2
  rw [h, nb_sh m h3 h4] at a
  exact (congrArg Prod.fst a).symm
theorem ix_split (c : Nat) : ∀ (l : List Nat) (i : Nat), ixF c l = some i → l = l.take i ++ c :: l.drop (i + 1)
  | [], i, h => by cases h
  | x :: r, i, h => by
    rw [ixF] at h
    split at h
    · rename_i e
      cases h
      rw [e]
      simp
    · cases hr : ixF c r with
      | none => rw [hr] at h; cases h
      | some j =>
        rw [hr] at h
        cases h
        have := ix_split c r j hr
        rw [List.take_succ_cons, List.cons_append, List.drop_succ_cons, ← this]
/-- what a text that is a number is made of -/
theorem nb_made (s : List Nat) (y : Int) (h : nbF s = (y, true)) : ∃ (b : Bool) (w p : List Nat) (d : Bool), s = (if b = true then [45] else []) ++ (w ++ (if d = true then 46 :: p else [])) ∧ 0 < w.length ∧ w.length ≤ 9 ∧ (∀ z ∈ w, digB z = true) ∧ p.length ≤ 3 ∧ (∀ z ∈ p, digB z = true) ∧ (d = false → p = []) ∧ y = sgI b (dcN (w ++ (p ++ [48, 48, 48]).take 3) 0) := by
  unfold nbF at h
  obtain ⟨b, hb⟩ : ∃ b, hasO 45 s = b := ⟨_, rfl⟩
  rw [hb] at h
  obtain ⟨A, hA⟩ : ∃ A, (if b = true then s.drop 1 else s) = A := ⟨_, rfl⟩
  rw [hA] at h
  have hs : s = (if b = true then [45] else []) ++ A := by
    cases b
    · exact hA
    · cases s with
      | nil => cases hb
      | cons x r =>
        simp [hasO] at hb
        rw [← hA, hb]
        rfl
  cases hi : ixF 46 A with
  | none =>
    rw [hi, nbA] at h
    by_cases hd : dgsF 9 A = true
    · rw [if_pos hd] at h
      obtain ⟨g1, g2, g3⟩ := dgs_ok hd
      refine ⟨b, A, [], false, ?_, g1, g2, g3, by simp, fun z hz => (by cases hz), fun _ => rfl, ?_⟩
      · rw [hs]; simp
      · exact (congrArg Prod.fst h).symm
    · rw [if_neg hd] at h
      cases h
  | some i =>
    rw [hi, nbA] at h
    by_cases hd : dgsF 9 (A.take i) = true
    · rw [if_pos hd] at h
      by_cases hd3 : dgsF 3 (A.drop (i + 1)) = true
      · rw [if_pos hd3] at h
        obtain ⟨g1, g2, g3⟩ := dgs_ok hd
        obtain ⟨k1, k2, k3⟩ := dgs_ok hd3
        refine ⟨b, A.take i, A.drop (i + 1), true, ?_, g1, g2, g3, k2, k3, fun e => (by cases e), (congrArg Prod.fst h).symm⟩
        rw [hs]
        simp only [if_true]
        rw [← ix_split 46 A i hi]
      · rw [if_neg hd3] at h
        cases h
    · rw [if_neg hd] at h
      cases h
theorem nbA_zero (b : Bool) (A : List Nat) (o : Option Nat) (h : (nbA b A o).2 = false) : (nbA b A o).1 = 0 := by
  cases o with
  | none =>
    rw [nbA] at h ⊢
    by_cases e : dgsF 9 A = true
    · rw [if_pos e] at h; cases h
    · rw [if_neg e]
  | some i =>
    rw [nbA] at h ⊢
    by_cases e : dgsF 9 (A.take i) = true
    · rw [if_pos e] at h ⊢
      by_cases e2 : dgsF 3 (A.drop (i + 1)) = true
      · rw [if_pos e2] at h; cases h
      · rw [if_neg e2]
    · rw [if_neg e]
theorem nb_zero (s : List Nat) (h : (nbF s).2 = false) : (nbF s).1 = 0 := nbA_zero _ _ _ h
/-- three digits -/
theorem three (l : List Nat) (h : l.length = 3) (hd : ∀ z ∈ l, digB z = true) : ∃ a b c, l = [48 + a, 48 + b, 48 + c] ∧ a < 10 ∧ b < 10 ∧ c < 10 := by
  match l, h, hd with
  | [x, y, z], _, hd =>
    have hx := hd x (by simp)
    have hy := hd y (by simp)
    have hz := hd z (by simp)
    unfold digB at hx hy hz
    simp only [decide_eq_true_eq] at hx hy hz
    exact ⟨x - 48, y - 48, z - 48, by simp; omega, by omega, by omega, by omega⟩
/-- what is read of a text is within bounds, and shown in no more bytes -/
theorem sh_short (s : List Nat) (y : Int) (h : nbF s = (y, true)) : -999999999999 ≤ y ∧ y ≤ 999999999999 ∧ (shF y).length ≤ s.length := by
  obtain ⟨b, w, p, d, hs, w0, w9, wd, p3, pd, hdp, hy⟩ := nb_made s y h
  have hpd : ∀ z ∈ (p ++ [48, 48, 48]).take 3, digB z = true := fun z hz => by
    rcases List.mem_append.1 (List.mem_of_mem_take hz) with k | k
    · exact pd z k
    · simp at k; subst k; rfl
  obtain ⟨a, b2, c, hq, ha, hb, hc⟩ := three ((p ++ [48, 48, 48]).take 3) (by rw [List.length_take, List.length_append]; simp) hpd
  obtain ⟨x, hx⟩ : ∃ x, dcN w 0 = x := ⟨_, rfl⟩
  have hxl : x < 10 ^ w.length := by have := dcN_lt w 0 wd; rw [hx] at this; omega
  have hx9 : x < 1000000000 := by
    have h2 : 10 ^ w.length ≤ 10 ^ 9 := Nat.pow_le_pow_right (by decide) w9
    have h3 : (10 : Nat) ^ 9 = 1000000000 := by decide
    omega
  have hm : dcN (w ++ (p ++ [48, 48, 48]).take 3) 0 = 1000 * x + (100 * a + 10 * b2 + c) := by
    rw [dcN_app, hx, hq]
    first
      | (simp [dcN]; done)
      | (simp [dcN]; omega)
  rw [hm] at hy
  obtain ⟨m, hmm⟩ : ∃ m, 1000 * x + (100 * a + 10 * b2 + c) = m := ⟨_, rfl⟩
  rw [hmm] at hy
  have hmb : m ≤ 999999999999 := by omega
  have hsu : (shU m).length ≤ w.length + (if d = true then p.length + 1 else 0) := by
    unfold shU
    rw [shP_is, show m / 1000 = x by omega, show m % 1000 / 100 = a by omega, show m % 1000 / 10 % 10 = b2 by omega, show m % 1000 % 10 = c by omega, List.length_append]
    have hdx : (dec x).length ≤ w.length := by
      have := dec_le x (w.length - 1) (by rw [show w.length - 1 + 1 = w.length by omega]; exact hxl)
      omega
    have htl : (tlP a b2 c).length ≤ (if d = true then p.length + 1 else 0) := by
      cases d
      · rw [hdp rfl] at hq
        simp at hq
        obtain ⟨e1, e2, e3⟩ := hq
        have ea : a = 0 := by omega
        have eb : b2 = 0 := by omega
        have ec : c = 0 := by omega
        subst ea; subst eb; subst ec
        exact Nat.le_refl _
      · simp only [if_true]
        match p, p3, hq with
        | [], _, hq =>
          simp at hq
          obtain ⟨e1, e2, e3⟩ := hq
          have ea : a = 0 := by omega
          have eb : b2 = 0 := by omega
          have ec : c = 0 := by omega
          subst ea; subst eb; subst ec
          exact Nat.zero_le _
        | [p0], _, hq =>
          simp at hq
          obtain ⟨e1, e2, e3⟩ := hq
          have eb : b2 = 0 := by omega
          have ec : c = 0 := by omega
          subst eb; subst ec
          unfold tlP
          simp only [ne_eq, not_true_eq_false, if_false]
          split <;> simp
        | [p0, p1], _, hq =>
          simp at hq
          obtain ⟨e1, e2, e3⟩ := hq
          have ec : c = 0 := by omega
          subst ec
          unfold tlP
          simp only [ne_eq, not_true_eq_false, if_false]
          split
          · simp
          · split <;> simp
        | [p0, p1, p2], _, _ =>
          unfold tlP
          split
          · simp
          · split
            · simp
            · split <;> simp
        | p0 :: p1 :: p2 :: p3' :: r, hl, _ => simp at hl
    omega
  have hsl : s.length = (if b = true then 1 else 0) + (w.length + (if d = true then p.length + 1 else 0)) := by
    rw [hs, List.length_append, List.length_append]
    cases b <;> cases d <;> simp
  have hyb : y = (m : Int) ∨ (b = true ∧ y = -(m : Int)) := by
    rw [hy]
    unfold sgI
    cases b
    · exact .inl rfl
    · exact .inr ⟨rfl, rfl⟩
  refine ⟨by rcases hyb with e | ⟨_, e⟩ <;> omega, by rcases hyb with e | ⟨_, e⟩ <;> omega, ?_⟩
  unfold shF
  rw [if_neg (by rcases hyb with e | ⟨_, e⟩ <;> omega), if_neg (by rcases hyb with e | ⟨_, e⟩ <;> omega)]
  have hab : y.natAbs = m := by rcases hyb with e | ⟨_, e⟩ <;> omega
  rw [hab, hsl]
  split
  · rcases hyb with e | ⟨hbt, e⟩
    · omega
    · rw [hbt, if_pos rfl, List.length_cons]
      omega
  · omega
end Go.Proofs.YtacbmpjpindepaaGreatDoor
