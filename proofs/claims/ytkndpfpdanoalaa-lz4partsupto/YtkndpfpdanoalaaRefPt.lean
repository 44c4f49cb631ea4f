/-
  The document's own parts of a packed text. Conditions: as it says.
-/
import Derived.Test.YtkndpfpdanoalaaPrtB
import Derived.Test.YtkndpfpdanoalaaRefEx
import Derived.Test.YtkndpfpdanoalaaLzF
import Derived.Deep.RegionHeld3
import Derived.Deep.AppendLies
namespace Go.Proofs.Ytkndpfpdanoalaa
open Go.RowKit Go.Shelf
set_option linter.unusedVariables false
def plv (l : List Pt) : List Value := l.map fun x => .int .i64 (x.1 : Int)
def pqv : List Pt → List Value
  | [] => []
  | x :: l => .string x.2.1 :: .int .i64 (x.2.2.1 : Int) :: .int .i64 (x.2.2.2 : Int) :: pqv l
theorem plv_append (a b : List Pt) : plv (a ++ b) = plv a ++ plv b := by unfold plv; exact List.map_append
theorem pqv_append : ∀ a b, pqv (a ++ b) = pqv a ++ pqv b
  | [], b => rfl
  | c :: a, b => by simp [pqv, pqv_append a b]
theorem pqv_at : ∀ (l : List Pt) (j : Nat) (x : Pt), l[j]? = some x → (pqv l)[3 * j]? = some (.string x.2.1) ∧ (pqv l)[3 * j + 1]? = some (.int .i64 (x.2.2.1 : Int)) ∧ (pqv l)[3 * j + 2]? = some (.int .i64 (x.2.2.2 : Int))
  | [], j, x, h => by simp at h
  | y :: l, 0, x, h => by
    simp at h
    subst h
    simp [pqv]
  | y :: l, j + 1, x, h => by
    simp at h
    have := pqv_at l j x h
    simp only [pqv, show 3 * (j + 1) = 3 * j + 1 + 1 + 1 by omega, show 3 * j + 1 + 1 + 1 + 1 = (3 * j + 1) + 1 + 1 + 1 by omega, show 3 * j + 1 + 1 + 1 + 2 = (3 * j + 2) + 1 + 1 + 1 by omega, List.getElem?_cons_succ]
    exact this
theorem plv_at (l : List Pt) (j : Nat) (x : Pt) (h : l[j]? = some x) : (plv l)[j]? = some (.int .i64 (x.1 : Int)) := by
  unfold plv
  rw [List.getElem?_map, h]
  rfl
theorem infoI : (Try.prog.info? 3).map (fun i => (i.zero, i.size, i.bytes)) = some (some (.int .i64 0), 1, 8) := by kernel_rfl
theorem infoQ : (Try.prog.info? 42).map (fun i => (i.zero, i.size, i.bytes)) = some (some (.agg #[.string ⟨#[]⟩, .int .i64 0, .int .i64 0]), 3, 32) := by kernel_rfl
theorem three_news (w : World) (x y z : Value) (t : TypeId) {B : Nat} (hB : B = w.heap.size) : ∀ (j : Nat) (u : Value), [x, y, z][j]? = some u → (w.alloc (.cells #[x, y, z] t)).cell? ((⟨B, 0, none⟩ : Addr).add j) = some u := by
  intro j u hu
  subst hB
  have hj : j < 3 := (List.getElem?_eq_some_iff.1 hu).1
  have := heap_alloc_new w (.cells #[x, y, z] t)
  rcases (show j = 0 ∨ j = 1 ∨ j = 2 by omega) with rfl | rfl | rfl <;> rw [Addr.add_lit] <;> simp only [World.cell?] <;> rw [this] <;> exact hu
theorem three_one (a b : Int) (t : ByteArray) : ∀ u ∈ [Value.string t, .int .i64 a, .int .i64 b], u.oneCell' = true := by
  intro u hu
  simp at hu
  rcases hu with rfl | rfl | rfl <;> rfl
theorem int_news (w : World) (x : Value) (t : TypeId) {B : Nat} (hB : B = w.heap.size) : ∀ (j : Nat) (u : Value), [x][j]? = some u → (w.alloc (.cells #[x] t)).cell? ((⟨B, 0, none⟩ : Addr).add j) = some u := by
  intro j u hu
  subst hB
  have hj : j < 1 := (List.getElem?_eq_some_iff.1 hu).1
  have := heap_alloc_new w (.cells #[x] t)
  obtain rfl : j = 0 := by omega
  rw [Addr.add_lit]
  simp only [World.cell?]
  rw [this]
  exact hu
theorem int_one (a : Int) : ∀ u ∈ [Value.int .i64 a], u.oneCell' = true := by
  intro u hu
  simp at hu
  subst hu
  rfl
theorem row_shape' {w : World} {base n size : Nat} {e : TypeId} {v : Value} {xs : List Value} (h : w.ownsRow base e size v n xs) : ∃ b cap, v = .slice b n cap := by
  rcases h.2 with ⟨rfl, rfl⟩ | ⟨g, cap, cur, rfl, _⟩
  · exact ⟨none, 0, rfl⟩
  · exact ⟨some ⟨g, 0, none⟩, cap, rfl⟩
theorem row_type {w : World} {base n size : Nat} {e : TypeId} {v : Value} {xs : List Value} (h : w.ownsRow base e size v n xs) : ∀ k, v.ownBlock = some k → ∃ cs fz, w.heap[k]? = some (.cells cs e fz) := by
  intro k hk
  rcases h.2 with ⟨rfl, _⟩ | ⟨g, cap, cur, rfl, h1, h2, _⟩
  · simp [Value.ownBlock] at hk
  · simp only [Value.ownBlock, Option.some.injEq] at hk
    subst hk
    exact ⟨_, _, h2⟩
/-- rows of other things don't meet -/
theorem row_apart {w : World} {base n size n' size' : Nat} {e e' : TypeId} {v v' : Value} {xs xs' : List Value} (h : w.ownsRow base e size v n xs) (h' : w.ownsRow base e' size' v' n' xs') (hne : e ≠ e') : v.ownBlock = none ∨ v.ownBlock ≠ v'.ownBlock := by
  cases hv : v.ownBlock with
  | none => exact .inl rfl
  | some k =>
    right
    intro e1
    obtain ⟨c1, z1, h1⟩ := row_type h k hv
    obtain ⟨c2, z2, h2⟩ := row_type h' k e1.symm
    rw [h1] at h2
    cases h2
    exact hne rfl
/-- a block of another kind stays while a row grows -/
theorem part_stay {w w' : World} {base n size : Nat} {e : TypeId} {v : Value} {xs : List Value} (h : w.ownsRow base e size v n xs) (hg : w.grownBy w' v.ownBlock) {b : Nat} {cs : Array Value} {t : TypeId} {fz : Nat × Nat} (ht : t ≠ e) (hb : w.heap[b]? = some (.cells cs t fz)) : w'.heap[b]? = some (.cells cs t fz) := by
  rw [hg.block b (Array.getElem?_eq_some_iff.1 hb).1 ?_]
  · exact hb
  · intro e1
    obtain ⟨c1, z1, h1⟩ := row_type h b e1.symm
    rw [h1] at hb
    cases hb
    exact ht rfl
abbrev most62 : Nat := 4611686018427387904
/-- what holds at the head of the loop -/
structure Rq (s : ByteArray) (w0 : World) (pv ov : Value) (n : Nat) (pre : List Lz.Sq) (i said : Nat) (w : World) : Prop where
  rowp : w.ownsRow w0.heap.size 3 1 pv n (plv (pre.map (toPt s)))
  rowo : w.ownsRow w0.heap.size 42 3 ov n (pqv (pre.map (toPt s)))
  len : n = pre.length
  left : Left s 0 most62 pre i said
  bel : Below w0.heap.size w0 w
  siz : w0.heap.size ≤ w.heap.size
  lim : n ≤ i
theorem ptL_62 (s : ByteArray) (hs : s.size ≤ 140737488355328) : ptL s = (allOf s 0 most62).1.map (toPt s) := by
  unfold ptL allOf
  rw [Lz.walk_room (Sums.bl s) (Sums.bl_byt s) 0 9223372036854775807 most62 (by rw [Sums.bl_length]; omega) (by rw [Sums.bl_length]; unfold most62; omega) _ 0 0 (by omega) (by omega)]
def PtsAre (L : List Pt) (w : World) (e : Ending) (w' : World) : Prop :=
  ∃ pv ov, e = .returned (.tuple #[pv, ov]) ∧ w'.ownsRow w.heap.size 3 1 pv L.length (plv L) ∧ w'.ownsRow w.heap.size 42 3 ov L.length (pqv L) ∧ Below w.heap.size w w'
theorem grown_below {w w' : World} (h : Below w.heap.size w w') : w.grownBy w' none := ⟨h.os, h.tape, h.output, h.size, fun k hk _ => h.block k hk⟩
theorem grown_new {w w' : World} {row : Option Nat} (h : w.grownBy w' row) (o : Obj) : w.grownBy (w'.alloc o) row :=
  ⟨h.os, h.tape, h.output, Nat.le_trans h.size (by simp), fun k hk hr => by
    rw [Below.heap_alloc _ _ _ (Nat.lt_of_lt_of_le hk h.size)]
    exact h.block k hk hr⟩
theorem none_apart (b : Option Addr) {n cap : Nat} : (Value.slice b n cap).ownBlock = none ∨ (Value.slice b n cap).ownBlock ≠ none := by
  cases h : (Value.slice b n cap).ownBlock with
  | none => exact .inl rfl
  | some k => exact .inr (by simp)
theorem step_one {s : ByteArray} {w0 : World} {bp bo : Option Addr} {n cp co : Nat} {pre : List Lz.Sq} {i said : Nat} {w w2 : World} (h : Rq s w0 (.slice bp n cp) (.slice bo n co) n pre i said w) (hb : Below w.heap.size w w2) (o : Obj) :
    Hid ((w2.alloc o).ownsRow w0.heap.size 3 1 (.slice bp n cp) n (plv (pre.map (toPt s))) ∧ (w2.alloc o).ownsRow w0.heap.size 42 3 (.slice bo n co) n (pqv (pre.map (toPt s))) ∧ Below w0.heap.size w0 (w2.alloc o)) :=
  ⟨h.rowp.kept (grown_new (grown_below hb) _) (none_apart bp), h.rowo.kept (grown_new (grown_below hb) _) (none_apart bo), (below_up h.bel h.siz hb).alloc (Nat.le_trans h.siz hb.size) _⟩
theorem step_two {w0 W w3 : World} {bp bo : Option Addr} {n cp co : Nat} {xs ys : List Value} {x : Value} {v3 : Value} {m : Nat} {zs : List Value} (h : W.ownsRow w0.heap.size 3 1 (.slice bp n cp) n xs ∧ W.ownsRow w0.heap.size 42 3 (.slice bo n co) n ys ∧ Below w0.heap.size w0 W)
    (h3 : w3.ownsRow w0.heap.size 3 1 v3 m zs) (hg : (W.alloc (.cells #[x] 3)).grownBy w3 (Value.slice bp n cp).ownBlock) {b : Nat} {cs : Array Value} (hp : W.heap[b]? = some (.cells cs 58 (0, 0))) :
    Hid (w3.ownsRow w0.heap.size 3 1 v3 m zs ∧ w3.ownsRow w0.heap.size 42 3 (.slice bo n co) n ys ∧ Below w0.heap.size w0 w3 ∧ w3.heap[b]? = some (.cells cs 58 (0, 0))) := by
  have hz : w0.heap.size ≤ W.heap.size := h.2.2.size
  have ha := h.1.alloc (.cells #[x] 3)
  refine ⟨h3, (h.2.1.alloc (.cells #[x] 3)).kept hg (row_apart (h.2.1.alloc _) ha (by decide)), (h.2.2.alloc hz _).grown hg (by simp; omega) (fun k hk => (h.1.lt k hk).1), ?_⟩
  refine part_stay ha hg (by decide) ?_
  rw [Below.heap_alloc _ _ _ (Array.getElem?_eq_some_iff.1 hp).1]
  exact hp
theorem step_three {w0 W w4 : World} {bo : Option Addr} {n co : Nat} {xs ys : List Value} {x y z : Value} {v3 v4 : Value} {m m4 : Nat} {zs : List Value} {b : Nat} {cs : Array Value} (h : W.ownsRow w0.heap.size 3 1 v3 m xs ∧ W.ownsRow w0.heap.size 42 3 (.slice bo n co) n ys ∧ Below w0.heap.size w0 W ∧ W.heap[b]? = some (.cells cs 58 (0, 0)))
    (h4 : w4.ownsRow w0.heap.size 42 3 v4 m4 zs) (hg : (W.alloc (.cells #[x, y, z] 42)).grownBy w4 (Value.slice bo n co).ownBlock) :
    Hid (w4.ownsRow w0.heap.size 3 1 v3 m xs ∧ w4.ownsRow w0.heap.size 42 3 v4 m4 zs ∧ Below w0.heap.size w0 w4 ∧ w4.heap[b]? = some (.cells cs 58 (0, 0))) := by
  have hz : w0.heap.size ≤ W.heap.size := h.2.2.1.size
  have ha := h.2.1.alloc (.cells #[x, y, z] 42)
  refine ⟨(h.1.alloc (.cells #[x, y, z] 42)).kept hg (row_apart (h.1.alloc _) ha (by decide)), h4, (h.2.2.1.alloc hz _).grown hg (by simp; omega) (fun k hk => (h.2.1.lt k hk).1), ?_⟩
  refine part_stay ha hg (by decide) ?_
  rw [Below.heap_alloc _ _ _ (Array.getElem?_eq_some_iff.1 h.2.2.2).1]
  exact h.2.2.2
set_option maxRecDepth 100000 in
set_option maxHeartbeats 2000000 in
theorem refParts_any (s : ByteArray) (w : World) (hs : s.size ≤ 1099511627776) :
    Calls Try.prog 19 #[.string s] w (PtsAre (ptL s) w) := by
  obtain ⟨i0, hi, hz0, hz1, hz2⟩ := info_parts infoI
  obtain ⟨j0, hj, hy0, hy1, hy2⟩ := info_parts infoQ
  have hlast := ptL_62 s (by omega)
  obtain ⟨LL, hLL⟩ : ∃ LL, ptL s = LL := ⟨_, rfl⟩
  rw [hLL] at hlast ⊢
  have HL := Hid.mk' hlast
  clear hlast hLL
  go_enter Try.func19, Try.ntmps19
  go_wp2
  go_loopw [4, 5, 6, 7] (fun pv ov sv av wr => ∃ (n : Nat) (pre : List Lz.Sq) (i said : Nat), av = .int .i64 (i : Int) ∧ sv = .int .i64 (said : Int) ∧ Rq s w pv ov n pre i said wr) (fun _ _ _ av _ => s.size - (intOf av).toNat)
  case atStart => exact ⟨0, [], 0, 0, rfl, rfl, ⟨World.ownsRow_nil _ _ _ _, World.ownsRow_nil _ _ _ _, rfl, ⟨Nat.zero_le _, Nat.zero_le _, by omega, s.size + 1, by omega, rfl⟩, Below.refl _ _, Nat.le_refl _, Nat.le_refl _⟩⟩
  case round =>
    obtain ⟨n, pre, i, said, rfl, rfl, hrq⟩ := hrel
    obtain ⟨bp, cp, rfl⟩ := row_shape' hrq.rowp
    obtain ⟨bo, co, rfl⟩ := row_shape' hrq.rowo
    obtain ⟨hli, hlm, hls, _⟩ := hrq.left
    have hlim := hrq.lim
    have HNX := Hid.mk' (refNext_any s i said 0 most62 wr (by omega) hli hlm hls (by decide) (by decide))
    have HRX := Hid.mk' hrq
    have hok := Lz.next_ok (Sums.bl s) (Sums.bl_byt s) i said 0 most62 hlm hls (by rw [Sums.bl_length]; exact hli)
    obtain ⟨p, hp⟩ : ∃ p, Lz.next (Sums.bl s) i said 0 most62 = p := ⟨_, rfl⟩
    rw [hp] at hok HNX
    have hm62 : ((most62 : Nat) : Int) = 4611686018427387904 := rfl
    rw [hm62] at HNX
    clear hm62
    obtain ⟨code, place, frm, many, off, len, nxt⟩ := p
    simp only [Lz.Fine, Lz.seqOf, Sums.bl_length] at hok
    clear hrq
    by_cases hc : code = 0
    · subst hc
      obtain ⟨⟨g1, g2, g3, g4, g5⟩, g6⟩ := hok rfl
      obtain ⟨T, hT⟩ : ∃ T, s.extract frm (frm + many) = T := ⟨_, rfl⟩
      obtain ⟨e1, he1⟩ : ∃ e1, frm + many = e1 := ⟨_, rfl⟩
      have he1I : (frm : Int) + (many : Int) = (e1 : Int) := by omega
      have HT := Hid.mk' hT
      rw [he1] at hT
      have hfe : frm ≤ e1 := by omega
      have hes : e1 ≤ s.size := by omega
      have hwr : IntKind.i64.wrap (e1 : Int) = (e1 : Int) := by rw [IntKind.wrap_i64]; omega
      have hfr0 : (0 : Int) ≤ (frm : Int) := by omega
      have hfeI : (frm : Int) ≤ (e1 : Int) := by omega
      have hesI : (e1 : Int) ≤ (s.size : Int) := by omega
      obtain rfl : place = 0 := by
        have := Lz.next_place (Sums.bl s) i said 0 most62 (by rw [hp])
        rw [hp] at this
        exact this
      by_cases hl0 : len = 0
      · subst hl0
        obtain rfl : off = 0 := by omega
        have hR := HL.out
        rw [left_last s 0 most62 pre i said HRX.out.left frm many nxt hp] at hR
        have HR := Hid.mk' hR
        clear hok hp HL hR g1 g2 g4 g5 g6
        go_wp2_with (first | (go_at_call 25; refine HNX.out.mono ?_; rintro e w2 ⟨a, b, c, d, l, f, rfl, hq, hb2⟩; obtain ⟨rfl, rfl, rfl, rfl, rfl, rfl⟩ := hq rfl; have HW2 := step_one HRX.out hb2 (.cells #[.int .i64 (i : Int), .int .i64 (frm : Int), .int .i64 (many : Int), .int .i64 0, .int .i64 0, .int .i64 (nxt : Int)] 58); have hsz2 : w.heap.size ≤ w2.heap.size := Nat.le_trans HRX.out.siz hb2.size; clear hb2 hq; unfold partV) | (at_builtin; refine wpList_append_own _ rfl _ _ 33 rfl w.heap.size 3 i0 _ 1 8 Try.underlying33 hi hz0 hz1 hz2 rfl (by decide) (.slice bp n cp) n (plv (pre.map (toPt s))) rfl (by exact (HW2.out.1.alloc _)) ⟨_, 0, none⟩ 1 1 [.int .i64 (i : Int)] rfl rfl (int_news _ _ _ (by simp)) (int_one _) (by unfold maxLen; omega) (by omega) (by simp; omega) ?_; intro v3 w3 hown3 hgrow3 _; have HW3 := step_two HW2.out hown3 hgrow3 (heap_alloc_new w2 _); obtain ⟨b3, cap3, rfl⟩ := row_shape' hown3; obtain ⟨p1, p2, p3, p4, p5⟩ := part_cell HW3.out.2.2.2; have hsz3 : w.heap.size ≤ w3.heap.size := Nat.le_trans hsz2 (Nat.le_trans (by simp; omega) hgrow3.size); clear hown3 hgrow3) | fail)
        go_region_held3 (fun w' => w'.cell? ⟨w2.heap.size, 1, none⟩ = some (.int .i64 (frm : Int)) ∧ w'.cell? ⟨w2.heap.size, 2, none⟩ = some (.int .i64 (many : Int)) ∧ w'.cell? ⟨w2.heap.size, 3, none⟩ = some (.int .i64 0) ∧ w'.cell? ⟨w2.heap.size, 4, none⟩ = some (.int .i64 0)) (first | go_keep | exact ⟨q1, q2, q3, q4⟩)
          ((refine step_append_lies _ (by rfl) _ _ _ (by rfl) w.heap.size 42 j0 _ 3 32 Try.underlying32 hj hy0 hy1 hy2 rfl (by omega) (.slice bo n co) n (pqv (pre.map (toPt s))) (by rfl) (by first | exact (HW3.out.2.1.alloc _).drew | exact (HW3.out.2.1.alloc _)) ⟨w3.heap.size, 0, none⟩ 1 1 [.string T, .int .i64 0, .int .i64 0] (by rfl) (by rfl) (World.news_of_block (cs := #[.string T, .int .i64 0, .int .i64 0]) (t := 42) (fr := (0, 0)) (heap_alloc_new w3 _)) (three_one _ _ _) (by omega) (by unfold maxLen; omega) (by omega) (by simp; omega) (w3.heap.size + 1) (by simp) ?_; intro g4 cap4 w4 hown4 hgrow4 hat4 hlt4; have HW4 := step_three (x := .string T) (y := .int .i64 0) (z := .int .i64 0) HW3.out hown4 ⟨hgrow4.os, hgrow4.tape, hgrow4.output, hgrow4.size, hgrow4.block⟩; obtain ⟨q1, q2, q3, q4, q5⟩ := part_cell HW4.out.2.2.2; have hsz4 : w.heap.size ≤ w4.heap.size := Nat.le_trans hsz3 (Nat.le_trans (by simp) hgrow4.size); clear hown4 hgrow4 hat4 hlt4))
        go_wp2_with fail
        go_ret2
        have hlen := HRX.out.len
        have hT2 := HT.out
        have r1 := HW4.out.1
        have r2 := HW4.out.2.1
        rw [← hT2] at r2
        refine ⟨_, _, rfl, ?_, ?_, HW4.out.2.2.1⟩
        · rw [HR.out, List.length_map, List.length_append, ← hlen, List.map_append, plv_append]
          exact r1
        · rw [HR.out, List.length_map, List.length_append, ← hlen, List.map_append, pqv_append]
          exact r2
      · obtain ⟨n1, n2, n3⟩ := g6 (by omega)
        obtain ⟨hpre, hleft⟩ := left_next s 0 most62 pre i said HRX.out.left frm many off len nxt hp (by omega) n1 n2 g4 n3
        have hlI : ((len : Int) == 0) = false := by simp; exact hl0
        have HLE := Hid.mk' hleft
        clear hok hp HL hpre hleft g1 g2 g6
        go_wp2_with (first | (go_at_call 25; refine HNX.out.mono ?_; rintro e w2 ⟨a, b, c, d, l, f, rfl, hq, hb2⟩; obtain ⟨rfl, rfl, rfl, rfl, rfl, rfl⟩ := hq rfl; have HW2 := step_one HRX.out hb2 (.cells #[.int .i64 (i : Int), .int .i64 (frm : Int), .int .i64 (many : Int), .int .i64 (off : Int), .int .i64 (len : Int), .int .i64 (nxt : Int)] 58); have hsz2 : w.heap.size ≤ w2.heap.size := Nat.le_trans HRX.out.siz hb2.size; clear hb2 hq; unfold partV) | (at_builtin; refine wpList_append_own _ rfl _ _ 33 rfl w.heap.size 3 i0 _ 1 8 Try.underlying33 hi hz0 hz1 hz2 rfl (by decide) (.slice bp n cp) n (plv (pre.map (toPt s))) rfl (by exact (HW2.out.1.alloc _)) ⟨_, 0, none⟩ 1 1 [.int .i64 (i : Int)] rfl rfl (int_news _ _ _ (by simp)) (int_one _) (by unfold maxLen; omega) (by omega) (by simp; omega) ?_; intro v3 w3 hown3 hgrow3 _; have HW3 := step_two HW2.out hown3 hgrow3 (heap_alloc_new w2 _); obtain ⟨b3, cap3, rfl⟩ := row_shape' hown3; obtain ⟨p1, p2, p3, p4, p5⟩ := part_cell HW3.out.2.2.2; have hsz3 : w.heap.size ≤ w3.heap.size := Nat.le_trans hsz2 (Nat.le_trans (by simp; omega) hgrow3.size); clear hown3 hgrow3) | fail)
        go_region_held3 (fun w' => w'.cell? ⟨w2.heap.size, 1, none⟩ = some (.int .i64 (frm : Int)) ∧ w'.cell? ⟨w2.heap.size, 2, none⟩ = some (.int .i64 (many : Int)) ∧ w'.cell? ⟨w2.heap.size, 3, none⟩ = some (.int .i64 (off : Int)) ∧ w'.cell? ⟨w2.heap.size, 4, none⟩ = some (.int .i64 (len : Int))) (first | go_keep | exact ⟨q1, q2, q3, q4⟩)
          ((refine step_append_lies _ (by rfl) _ _ _ (by rfl) w.heap.size 42 j0 _ 3 32 Try.underlying32 hj hy0 hy1 hy2 rfl (by omega) (.slice bo n co) n (pqv (pre.map (toPt s))) (by rfl) (by first | exact (HW3.out.2.1.alloc _).drew | exact (HW3.out.2.1.alloc _)) ⟨w3.heap.size, 0, none⟩ 1 1 [.string T, .int .i64 (off : Int), .int .i64 (len : Int)] (by rfl) (by rfl) (World.news_of_block (cs := #[.string T, .int .i64 (off : Int), .int .i64 (len : Int)]) (t := 42) (fr := (0, 0)) (heap_alloc_new w3 _)) (three_one _ _ _) (by omega) (by unfold maxLen; omega) (by omega) (by simp; omega) (w3.heap.size + 1) (by simp) ?_; intro g4 cap4 w4 hown4 hgrow4 hat4 hlt4; have HW4 := step_three (x := .string T) (y := .int .i64 (off : Int)) (z := .int .i64 (len : Int)) HW3.out hown4 ⟨hgrow4.os, hgrow4.tape, hgrow4.output, hgrow4.size, hgrow4.block⟩; obtain ⟨q1, q2, q3, q4, q5⟩ := part_cell HW4.out.2.2.2; have hsz4 : w.heap.size ≤ w4.heap.size := Nat.le_trans hsz3 (Nat.le_trans (by simp) hgrow4.size); clear hown4 hgrow4 hat4 hlt4))
        go_wp2_with fail
        go_roundw
        case rel =>
          have hlen := HRX.out.len
          have hT2 := HT.out
          have r1 := HW4.out.1
          have r2 := HW4.out.2.1
          rw [← hT2] at r2
          refine ⟨n + 1, pre ++ [⟨i, frm, many, off, len⟩], nxt, said + many + len, rfl, by simp, ⟨?_, ?_, by simp; omega, HLE.out, HW4.out.2.2.1, hsz4, by omega⟩⟩
          · rw [List.map_append, plv_append]
            exact r1
          · rw [List.map_append, pqv_append]
            exact r2
        case measure =>
          simp [intOf]
          omega
    · have hcI : ((code : Int) == 0) = false := by simp; exact hc
      have hR := HL.out
      rw [left_err s 0 most62 pre i said HRX.out.left code place _ hp rfl rfl hc] at hR
      have HR := Hid.mk' hR
      clear hok hp HL hR
      go_wp2_with (first | (go_at_call 25; refine HNX.out.mono ?_; rintro e w2 ⟨a, b, c, d, l, f, rfl, _, hb2⟩; have HB2 := Hid.mk' hb2; clear hb2; unfold partV) | fail)
      go_ret2
      have hlen := HRX.out.len
      refine ⟨_, _, rfl, ?_, ?_, (below_up HRX.out.bel HRX.out.siz HB2.out).alloc (Nat.le_trans HRX.out.siz HB2.out.size) _⟩
      · rw [HR.out, List.length_map, ← hlen]
        exact HRX.out.rowp.kept (grown_new (grown_below HB2.out) _) (none_apart bp)
      · rw [HR.out, List.length_map, ← hlen]
        exact HRX.out.rowo.kept (grown_new (grown_below HB2.out) _) (none_apart bo)
end Go.Proofs.Ytkndpfpdanoalaa
