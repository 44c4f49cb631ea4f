/-
  What the document's Count and First do with the places. Conditions: as each says.
-/
import Derived.Test.YtecoiifmeajicaaDoorRefAll6
namespace Go.Proofs.YtecoiifmeajicaaDoor
open Go.RowKit
set_option linter.unusedVariables false
theorem cntF_skip (fold : Bool) (p s : ByteArray) (f a : Nat) (h : Lit.stB fold p s a = false) : Lit.cntF fold p s f a = Lit.cntF fold p s f (a + 1) := by
  cases f with
  | zero => rfl
  | succ f =>
    have e : Lit.fndL fold p s a = Lit.fndL fold p s (a + 1) := Lit.fndL_skip fold p s a 1 (fun i hi => by rw [show a + i = a by omega]; exact h)
    rw [show Lit.cntF fold p s (f + 1) a = if 0 ≤ Lit.fndL fold p s a then 1 + Lit.cntF fold p s f ((Lit.fndL fold p s a).toNat + p.size) else 0 from rfl, e]
    rfl
theorem cntF_hit (fold : Bool) (p s : ByteArray) (f a : Nat) (h : Lit.stB fold p s a = true) : Lit.cntF fold p s (f + 1) a = 1 + Lit.cntF fold p s f (a + p.size) := by
  rw [show Lit.cntF fold p s (f + 1) a = if 0 ≤ Lit.fndL fold p s a then 1 + Lit.cntF fold p s f ((Lit.fndL fold p s a).toNat + p.size) else 0 from rfl, Lit.fndL_hit fold p s a h, if_pos (by omega), Int.toNat_natCast]
theorem cntF_out (fold : Bool) (p s : ByteArray) (f a : Nat) (h : s.size < a + p.size) : Lit.cntF fold p s f a = 0 := by
  cases f with
  | zero => rfl
  | succ f => rw [show Lit.cntF fold p s (f + 1) a = if 0 ≤ Lit.fndL fold p s a then 1 + Lit.cntF fold p s f ((Lit.fndL fold p s a).toNat + p.size) else 0 from rfl, Lit.fndL_out fold p s a h, if_neg (by omega)]
/-- what holds ahead of a place -/
structure Sd (fold : Bool) (p s : ByteArray) (a n many free lst : Nat) : Prop where
  pl : ∃ pre : List Nat, pre.length = n ∧ Lit.plL fold p s = pre ++ (List.range' a (s.size + 1 - a)).filter (Lit.stB fold p s) ∧ (0 < n → 1 ≤ lst ∧ pre.getD (n - 1) 0 + 1 = lst)
  z : n = 0 → lst = 0
  no : ∀ j, lst ≤ j → j < a → Lit.stB fold p s j = false
  le : lst ≤ a
  ct : ∃ f, s.size + 1 ≤ max free a + f ∧ Lit.cntL fold p s = many + Lit.cntF fold p s f (max free a)
  fr : free ≤ s.size
  mn : many ≤ a
theorem Sd.start (fold : Bool) (p s : ByteArray) : Sd fold p s 0 0 0 0 0 :=
  ⟨⟨[], rfl, by rw [Lit.plL_spec]; unfold Lit.plc; rw [List.range_eq_range']; rfl, fun h => absurd h (by omega)⟩, fun _ => rfl, fun j h1 h2 => absurd h2 (by omega), by omega, ⟨s.size + 1, by omega, by unfold Lit.cntL; rw [Nat.max_self]; omega⟩, by omega, by omega⟩
theorem Sd.off {fold : Bool} {p s : ByteArray} {a n many free lst : Nat} (h : Sd fold p s a n many free lst) (ha : a ≤ s.size) (hs : Lit.stB fold p s a = false) : Sd fold p s (a + 1) n many free lst := by
  obtain ⟨pre, h1, h2, h3⟩ := h.pl
  refine ⟨⟨pre, h1, ?_, h3⟩, h.z, fun j hj hl => ?_, by have := h.le; omega, ?_, h.fr, by have := h.mn; omega⟩
  · rw [h2, show s.size + 1 - a = (s.size + 1 - (a + 1)) + 1 by omega, List.range'_succ, List.filter_cons, if_neg (by rw [hs]; decide)]
  · by_cases e : j = a
    · rw [e]; exact hs
    · exact h.no j hj (by omega)
  · obtain ⟨f, h4, h5⟩ := h.ct
    by_cases hf : free ≤ a
    · rw [Nat.max_eq_right hf] at h4 h5
      refine ⟨f, by omega, ?_⟩
      rw [Nat.max_eq_right (by omega), h5, cntF_skip fold p s f a hs]
    · rw [Nat.max_eq_left (by omega)] at h4 h5
      exact ⟨f, by omega, by rw [Nat.max_eq_left (by omega)]; exact h5⟩
theorem Sd.got {fold : Bool} {p s : ByteArray} {a n many free lst : Nat} (h : Sd fold p s a n many free lst) (ha : a ≤ s.size) (hs : Lit.stB fold p s a = true) : n < (Lit.plL fold p s).length ∧ (Lit.plL fold p s).getD n 0 = a ∧ (0 < n → 1 ≤ lst ∧ (Lit.plL fold p s).getD (n - 1) 0 + 1 = lst) ∧ Lit.fndL fold p s lst = (a : Int) ∧ Lit.fndL fold p s a = (a : Int) := by
  obtain ⟨pre, h1, h2, h3⟩ := h.pl
  have e : (List.range' a (s.size + 1 - a)).filter (Lit.stB fold p s) = a :: (List.range' (a + 1) (s.size + 1 - (a + 1))).filter (Lit.stB fold p s) := by
    rw [show s.size + 1 - a = (s.size + 1 - (a + 1)) + 1 by omega, List.range'_succ, List.filter_cons, if_pos (by rw [hs])]
  rw [e] at h2
  refine ⟨by rw [h2]; simp; omega, ?_, fun h0 => ⟨(h3 h0).1, ?_⟩, Lit.fndL_of fold p s lst a h.le hs h.no, Lit.fndL_hit fold p s a hs⟩
  · rw [h2, List.getD_eq_getElem?_getD, List.getElem?_append_right (by omega), show n - pre.length = 0 by omega]
    rfl
  · rw [h2, List.getD_eq_getElem?_getD, List.getElem?_append_left (by omega), ← List.getD_eq_getElem?_getD]
    exact (h3 h0).2
theorem Sd.snoc {fold : Bool} {p s : ByteArray} {a n many free lst : Nat} (h : Sd fold p s a n many free lst) (ha : a ≤ s.size) (hs : Lit.stB fold p s a = true) : ∃ pre : List Nat, pre.length = n + 1 ∧ Lit.plL fold p s = pre ++ (List.range' (a + 1) (s.size + 1 - (a + 1))).filter (Lit.stB fold p s) ∧ (0 < n + 1 → 1 ≤ a + 1 ∧ pre.getD (n + 1 - 1) 0 + 1 = a + 1) := by
  obtain ⟨pre, h1, h2, h3⟩ := h.pl
  have e : (List.range' a (s.size + 1 - a)).filter (Lit.stB fold p s) = a :: (List.range' (a + 1) (s.size + 1 - (a + 1))).filter (Lit.stB fold p s) := by
    rw [show s.size + 1 - a = (s.size + 1 - (a + 1)) + 1 by omega, List.range'_succ, List.filter_cons, if_pos (by rw [hs])]
  rw [e] at h2
  refine ⟨pre ++ [a], by simp; omega, by rw [h2]; simp, fun _ => ⟨by omega, ?_⟩⟩
  rw [List.getD_eq_getElem?_getD, List.getElem?_append_right (by omega), show n + 1 - 1 - pre.length = 0 by omega]
  rfl
theorem Sd.new {fold : Bool} {p s : ByteArray} {a n many free lst : Nat} (h : Sd fold p s a n many free lst) (ha : a ≤ s.size) (hs : Lit.stB fold p s a = true) (hf : free ≤ a) (hp : 1 ≤ p.size) : Sd fold p s (a + 1) (n + 1) (many + 1) (a + p.size) (a + 1) := by
  have hr := ((Lit.stB_iff fold p s a).1 hs).1
  refine ⟨h.snoc ha hs, fun e => absurd e (by omega), fun j h1 h2 => absurd h2 (by omega), by omega, ?_, by omega, by have := h.mn; omega⟩
  obtain ⟨f, h4, h5⟩ := h.ct
  rw [Nat.max_eq_right hf] at h4 h5
  obtain ⟨f, rfl⟩ : ∃ f', f = f' + 1 := ⟨f - 1, by omega⟩
  refine ⟨f, ?_, ?_⟩
  · rw [Nat.max_eq_left (by omega)]; omega
  · rw [Nat.max_eq_left (by omega), h5, cntF_hit fold p s f a hs]; omega
theorem Sd.old {fold : Bool} {p s : ByteArray} {a n many free lst : Nat} (h : Sd fold p s a n many free lst) (ha : a ≤ s.size) (hs : Lit.stB fold p s a = true) (hf : a < free) : Sd fold p s (a + 1) (n + 1) many free (a + 1) := by
  refine ⟨h.snoc ha hs, fun e => absurd e (by omega), fun j h1 h2 => absurd h2 (by omega), by omega, ?_, h.fr, by have := h.mn; omega⟩
  obtain ⟨f, h4, h5⟩ := h.ct
  rw [Nat.max_eq_left (by omega)] at h4 h5
  exact ⟨f, by omega, by rw [Nat.max_eq_left (by omega)]; exact h5⟩
theorem Sd.fin {fold : Bool} {p s : ByteArray} {n many free lst : Nat} (h : Sd fold p s (s.size + 1) n many free lst) (hp : 1 ≤ p.size) : n = (Lit.plL fold p s).length ∧ Lit.cntL fold p s = many ∧ Lit.fndL fold p s lst = -1 ∧ (0 < n → 1 ≤ lst ∧ (Lit.plL fold p s).getD (n - 1) 0 + 1 = lst) := by
  obtain ⟨pre, h1, h2, h3⟩ := h.pl
  rw [show s.size + 1 - (s.size + 1) = 0 by omega] at h2
  have e : Lit.plL fold p s = pre := by rw [h2]; simp
  obtain ⟨f, h4, h5⟩ := h.ct
  refine ⟨by rw [e]; omega, ?_, Lit.fndL_none fold p s lst (fun j hj => ?_), fun h0 => by rw [e]; exact h3 h0⟩
  · rw [h5, cntF_out fold p s f _ (by omega)]; omega
  · by_cases hl : j < s.size + 1
    · exact h.no j hj hl
    · rw [Lit.stB_no]; intro hst; have := hst.1; omega
theorem refAll_any (g : Nat) (fold : Bool) (p s : ByteArray) (w : World) (hp : 1 ≤ p.size ∧ p.size ≤ 256) (hs : s.size ≤ 17592186044000) (c0 : w.cell? ⟨g, 0, none⟩ = some (.string p)) (c1 : w.cell? ⟨g, 1, none⟩ = some (.bool fold)) :
    Calls Tryd.prog 16 #[.pointer (some ⟨g, 0, none⟩), .string s] w fun e w' => ∃ v, e = .returned v ∧ w'.ownsRow w.heap.size 3 1 v (Lit.plL fold p s).length (intv (Lit.plL fold p s)) ∧ Below w.heap.size w w' := by
  cases fold with
  | false => exact refAll_false g p s w hp hs c0 c1
  | true => exact refAll_true g p s w hp hs c0 c1
theorem Sd.run {fold : Bool} {p s : ByteArray} {n many free lst : Nat} (x : Nat) (hx : x ≤ s.size) : ∀ d a, a + d = x → Sd fold p s a n many free lst → (∀ j, a ≤ j → j < x → Lit.stB fold p s j = false) → Sd fold p s x n many free lst
  | 0, a, h, hs, _ => by rw [← h]; exact hs
  | d + 1, a, h, hs, hn => Sd.run x hx d (a + 1) (by omega) (hs.off (by omega) (hn a (Nat.le_refl _) (by omega))) (fun j h1 h2 => hn j (by omega) h2)
theorem Sd.next {fold : Bool} {p s : ByteArray} {a n many free lst : Nat} (h : Sd fold p s a n many free lst) (ha : a ≤ s.size + 1) (hn : n < (Lit.plL fold p s).length) : ∃ x, a ≤ x ∧ x ≤ s.size ∧ Lit.stB fold p s x = true ∧ (Lit.plL fold p s).getD n 0 = x ∧ Sd fold p s x n many free lst := by
  obtain ⟨pre, h1, h2, h3⟩ := h.pl
  rw [← Lit.plcF_spec fold p s (s.size + 1) a (by omega)] at h2
  rw [show Lit.plcF fold p s (s.size + 1) a = if 0 ≤ Lit.fndL fold p s a then (Lit.fndL fold p s a).toNat :: Lit.plcF fold p s s.size ((Lit.fndL fold p s a).toNat + 1) else [] from rfl] at h2
  rcases Lit.fndL_spec fold p s a with ⟨f1, _⟩ | ⟨x, f1, f2, f3, f4⟩
  · rw [f1, if_neg (by omega), List.append_nil] at h2
    rw [h2] at hn
    omega
  · rw [f2, if_pos (by omega), Int.toNat_natCast] at h2
    have hx : x ≤ s.size := by have := ((Lit.stB_iff fold p s x).1 f3).1; omega
    refine ⟨x, f1, hx, f3, ?_, h.run x hx (x - a) a (by omega) f4⟩
    rw [h2, List.getD_eq_getElem?_getD, List.getElem?_append_right (by omega), show n - pre.length = 0 by omega]
    rfl
theorem Sd.last {fold : Bool} {p s : ByteArray} {a n many free lst : Nat} (h : Sd fold p s a n many free lst) (hp : 1 ≤ p.size) (ha : a ≤ s.size + 1) (hn : (Lit.plL fold p s).length ≤ n) : Lit.cntL fold p s = many := by
  have hno : ∀ j, a ≤ j → j < s.size + 1 → Lit.stB fold p s j = false := by
    intro j h1 h2
    cases hst : Lit.stB fold p s j with
    | false => rfl
    | true =>
      exfalso
      obtain ⟨pre, g1, g2, g3⟩ := h.pl
      have hm : j ∈ (List.range' a (s.size + 1 - a)).filter (Lit.stB fold p s) := by
        rw [List.mem_filter, List.mem_range'_1]
        exact ⟨⟨h1, by omega⟩, hst⟩
      have := List.length_pos_of_mem hm
      rw [g2, List.length_append] at hn
      omega
  have hr : Sd fold p s (s.size + 1) n many free lst := by
    by_cases e : a = s.size + 1
    · rw [← e]; exact h
    · have h5 := h.run s.size (Nat.le_refl _) (s.size - a) a (by omega) (fun j h1 h2 => hno j h1 (by omega))
      exact h5.off (Nat.le_refl _) (hno s.size (by omega) (by omega))
  exact (hr.fin hp).2.1
set_option maxRecDepth 100000 in
set_option maxHeartbeats 2000000 in
theorem refCount6_any (g : Nat) (fold : Bool) (p s : ByteArray) (w : World) (hp : 1 ≤ p.size ∧ p.size ≤ 256) (hs : s.size ≤ 17592186044000) (c0 : w.cell? ⟨g, 0, none⟩ = some (.string p)) (c1 : w.cell? ⟨g, 1, none⟩ = some (.bool fold)) :
    Calls Tryd.prog 20 #[.pointer (some ⟨g, 0, none⟩), .string s] w fun e w' => e = .returned (.int .i64 ((Lit.cntL fold p s : Nat) : Int)) ∧ Below w.heap.size w w' := by
  have hg : g < w.heap.size := lt_of_cell c0
  have hLL : (Lit.plL fold p s).length ≤ s.size + 1 := Lit.plcF_len fold p s (s.size + 1) 0
  go_enter Tryd.func20, Tryd.ntmps20
  go_wp2_with fail
  refine (refAll_any g fold p s w hp hs c0 c1).mono ?_
  rintro e w1 ⟨v, rfl, hr1, hb1⟩
  have c0z : w1.cell? ⟨g, 0, none⟩ = some (.string p) := (hb1.cell (p := ⟨g, 0, none⟩) hg).trans c0
  obtain ⟨pp, cp, rfl⟩ := slice_shape hr1
  obtain ⟨LN, hLN⟩ : ∃ LN, (Lit.plL fold p s).length = LN := ⟨_, rfl⟩
  rw [hLN] at hr1 hLL
  rw [hLN]
  have HLN := Hid.mk' hLN
  have HR := Hid.mk' hr1
  have HB := Hid.mk' hb1
  clear hr1 hb1 hLN
  go_wp2_with fail
  go_loopw [6, 7, 8] (fun nv fv iv wr => ∃ (a n many free lst : Nat), a ≤ s.size + 1 ∧ n ≤ LN ∧ nv = .int .i64 (many : Int) ∧ fv = .int .i64 (free : Int) ∧ iv = .int .i64 (n : Int) ∧ Hid (Sd fold p s a n many free lst) ∧ Hid (∃ m, wr = w1.drewN m)) (fun _ _ iv _ => LN - (intOf iv).toNat)
  case atStart => exact ⟨0, 0, 0, 0, 0, by omega, by omega, rfl, rfl, rfl, Sd.start fold p s, 0, rfl⟩
  case round =>
    obtain ⟨a, n, many, free, lst, ha, hnn, rfl, rfl, rfl, HS, HW⟩ := hrel
    have hfr := HS.out.fr
    have hmn := HS.out.mn
    by_cases hlt : n < LN
    · have hlI : (n : Int) < (LN : Int) := by omega
      obtain ⟨x, hx1, hx2, hx3, hx4, hx5⟩ := HS.out.next ha (by rw [HLN.out]; exact hlt)
      have hroom := ((Lit.stB_iff fold p s x).1 hx3).1
      have hmx := hx5.mn
      have hrow := HR.out
      rw [← HLN.out] at hrow
      rcases own_cells hrow with ⟨_, e⟩ | ⟨gg, cc, e, _, _, hcl⟩
      · exfalso
        rw [e] at HLN
        have := HLN.out
        simp at this
        omega
      · rw [HLN.out] at e hcl
        cases e
        have k1 : wr.cell? ⟨gg, n, none⟩ = some (.int .i64 (x : Int)) := by
          obtain ⟨m, rfl⟩ := HW.out
          have h := hcl n hlt
          rw [hx4] at h
          exact h
        have k0 : wr.cell? ⟨g, 0, none⟩ = some (.string p) := by obtain ⟨m, rfl⟩ := HW.out; exact c0z
        by_cases hfa : free ≤ x
        · have hfI : (free : Int) ≤ (x : Int) := by omega
          have hfd : decide ((free : Int) ≤ (x : Int)) = true := decide_eq_true hfI
          have HX := Hid.mk' (hx5.new hx2 hx3 hfa hp.1)
          clear hcl hrow hx3 hx4 hx5
          go_wp2_with fail
          go_quiet (fail)
          have HW3 : Hid (∃ m, wr.drewN nq = w1.drewN m) := by obtain ⟨m, rfl⟩ := HW.out; exact ⟨m + nq, drew_drew _ _ _⟩
          generalize wr.drewN nq = W3 at *
          go_wp2_with fail
          go_roundw
          case rel => exact ⟨x + 1, n + 1, many + 1, x + p.size, x + 1, by omega, by omega, by go_num, by go_num, by go_num, HX.out, HW3.out⟩
          case measure => simp [intOf]; omega
        · have hfI : ¬ (free : Int) ≤ (x : Int) := by omega
          have hfd : decide ((free : Int) ≤ (x : Int)) = false := decide_eq_false hfI
          have HX := Hid.mk' (hx5.old hx2 hx3 (by omega))
          clear hcl hrow hx3 hx4 hx5
          go_wp2_with fail
          go_roundw
          case rel => exact ⟨x + 1, n + 1, many, free, x + 1, by omega, by omega, rfl, rfl, by go_num, HX.out, HW.out⟩
          case measure => simp [intOf]; omega
    · have hlI : ¬ (n : Int) < (LN : Int) := by omega
      have HL := Hid.mk' (HS.out.last hp.1 ha (by rw [HLN.out]; omega))
      go_wp2_with fail
      go_ret
      exact ⟨ret_i64 (by rw [HL.out]), by obtain ⟨m, rfl⟩ := HW.out; exact HB.out.drewN' m⟩
theorem plL_sorted (fold : Bool) (p s : ByteArray) : (Lit.plL fold p s).Pairwise (· < ·) := by
  rw [Lit.plL_spec]
  unfold Lit.plc
  exact List.Pairwise.filter _ List.pairwise_lt_range
theorem first_hit (fold : Bool) (p s : ByteArray) (f : Int) (i : Nat) (hi : i < (Lit.plL fold p s).length) (hb : ∀ j, j < i → (((Lit.plL fold p s).getD j 0 : Nat) : Int) < f) (hf : f ≤ (((Lit.plL fold p s).getD i 0 : Nat) : Int)) : Lit.fndL fold p s f.toNat = (((Lit.plL fold p s).getD i 0 : Nat) : Int) := by
  have e : (Lit.plL fold p s).getD i 0 = (Lit.plL fold p s)[i] := by rw [List.getD_eq_getElem?_getD, List.getElem?_eq_getElem hi]; rfl
  refine Lit.fndL_of fold p s f.toNat _ (by omega) ?_ (fun y h1 h2 => ?_)
  · rw [← Lit.plL_mem, e]; exact List.getElem_mem hi
  · cases hst : Lit.stB fold p s y with
    | false => rfl
    | true =>
      exfalso
      obtain ⟨j, hj, rfl⟩ := List.mem_iff_getElem.1 ((Lit.plL_mem fold p s y).2 hst)
      have hji : j < i := by
        by_cases hlt : j < i
        · exact hlt
        · exfalso
          by_cases he : j = i
          · subst he; rw [e] at h2; omega
          · have := List.pairwise_iff_getElem.1 (plL_sorted fold p s) i j hi hj (by omega)
            rw [e] at h2
            omega
      have := hb j hji
      rw [List.getD_eq_getElem?_getD, List.getElem?_eq_getElem hj] at this
      simp at this
      omega
theorem first_none (fold : Bool) (p s : ByteArray) (f : Int) (hb : ∀ j, j < (Lit.plL fold p s).length → (((Lit.plL fold p s).getD j 0 : Nat) : Int) < f) : Lit.fndL fold p s f.toNat = -1 := by
  refine Lit.fndL_none fold p s _ (fun y h1 => ?_)
  cases hst : Lit.stB fold p s y with
  | false => rfl
  | true =>
    exfalso
    obtain ⟨j, hj, rfl⟩ := List.mem_iff_getElem.1 ((Lit.plL_mem fold p s y).2 hst)
    have := hb j hj
    rw [List.getD_eq_getElem?_getD, List.getElem?_eq_getElem hj] at this
    simp at this
    omega
set_option maxRecDepth 100000 in
set_option maxHeartbeats 2000000 in
theorem refFirst6_any (fold : Bool) (p s : ByteArray) (b0 : Nat) (pv : Option Addr) (cv : Nat) (f : Int) (w : World) (hs : s.size ≤ 17592186044000) (hrow : w.ownsRow b0 3 1 (.slice pv (Lit.plL fold p s).length cv) (Lit.plL fold p s).length (intv (Lit.plL fold p s))) :
    Calls Tryd.prog 18 #[.slice pv (Lit.plL fold p s).length cv, .int .i64 f] w fun e w' => e = .returned (.int .i64 (Lit.fndL fold p s f.toNat)) ∧ w' = w := by
  have hLL : (Lit.plL fold p s).length ≤ s.size + 1 := Lit.plcF_len fold p s (s.size + 1) 0
  have HHIT := Hid.mk' (fun i h1 h2 h3 => first_hit fold p s f i h1 h2 h3)
  have HNON := Hid.mk' (first_none fold p s f)
  obtain ⟨LN, hLN⟩ : ∃ LN, (Lit.plL fold p s).length = LN := ⟨_, rfl⟩
  have HLN := Hid.mk' hLN
  have HR := Hid.mk' hrow
  rw [hLN] at hLL
  rw [hLN]
  clear hrow hLN
  go_enter Tryd.func18, Tryd.ntmps18
  go_wp2_with fail
  go_loop [5] (fun iv => ∃ n : Nat, n ≤ LN ∧ iv = .int .i64 (n : Int) ∧ Hid (∀ j, j < n → (((Lit.plL fold p s).getD j 0 : Nat) : Int) < f)) (fun iv => LN - (intOf iv).toNat)
  case atStart => exact ⟨0, by omega, rfl, fun j hj => absurd hj (by omega)⟩
  case round =>
    obtain ⟨n, hnn, rfl, HS⟩ := hrel
    by_cases hlt : n < LN
    · have hlI : (n : Int) < (LN : Int) := by omega
      rcases own_cells HR.out with ⟨_, e⟩ | ⟨gg, cc, e, _, _, hcl⟩
      · exfalso
        rw [e] at HLN
        have := HLN.out
        simp at this
        omega
      · cases e
        have k1 := hcl n (by rw [HLN.out]; exact hlt)
        have HX : Hid (∀ (h : f ≤ (((Lit.plL fold p s).getD n 0 : Nat) : Int)), Lit.fndL fold p s f.toNat = (((Lit.plL fold p s).getD n 0 : Nat) : Int)) := fun h => HHIT.out n (by rw [HLN.out]; exact hlt) HS.out h
        have HNX : Hid (¬ f ≤ (((Lit.plL fold p s).getD n 0 : Nat) : Int) → ∀ j, j < n + 1 → (((Lit.plL fold p s).getD j 0 : Nat) : Int) < f) := fun h j hj => by
          by_cases e : j = n
          · subst e; omega
          · exact HS.out j (by omega)
        obtain ⟨x, hx⟩ : ∃ x, (Lit.plL fold p s).getD n 0 = x := ⟨_, rfl⟩
        rw [hx] at k1 HX HNX
        clear hx hcl
        by_cases hf : f ≤ (x : Int)
        · have hfd : decide (f ≤ (x : Int)) = true := decide_eq_true hf
          have HXF := Hid.mk' (HX.out hf)
          go_wp2_with fail
          go_ret
          exact ⟨by rw [HXF.out]; rfl, rfl⟩
        · have hfd : decide (f ≤ (x : Int)) = false := decide_eq_false hf
          have HXN := Hid.mk' (HNX.out hf)
          go_wp2_with fail
          go_round
          case rel => exact ⟨n + 1, by omega, by go_num, HXN.out⟩
          case measure => simp [intOf]; omega
    · have hlI : ¬ (n : Int) < (LN : Int) := by omega
      have HXN := Hid.mk' (HNON.out (fun j hj => HS.out j (by rw [HLN.out] at hj; omega)))
      go_wp2_with fail
      go_ret
      exact ⟨by rw [HXN.out]; rfl, rfl⟩
end Go.Proofs.YtecoiifmeajicaaDoor
