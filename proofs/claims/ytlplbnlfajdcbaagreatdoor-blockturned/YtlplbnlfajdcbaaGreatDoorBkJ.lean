/-
  block: two arrays laid, in whatever order, to be held against one another. Conditions: as each says.
-/
import Derived.Test.YtlplbnlfajdcbaaGreatDoorBkI
import Derived.Test.YtlplbnlfajdcbaaGreatDoorRelR
namespace Go.Proofs.YtlplbnlfajdcbaaGreatDoor
open Go.RowKit
set_option linter.unusedVariables false
set_option linter.unusedSimpArgs false
/-- what a call answers, and what a move does -/
def valJ (H S N : Value) (j : Nat) : Value := if j = 1 ∨ j = 5 then N else if j = 3 then S else H
/-- what is known while the two arrays are laid -/
structure AI (B : Nat) (H S : Value) (A Z : Array Value) (w0 : World) (L : Nat → Bool) (f : Nat → Value) (X : World) : Prop where
  mem : Below (B + 1) w0 X
  lt : B + 1 ≤ w0.heap.size
  val : ∀ j, j < 6 → L j = true → f j = valJ H S (.agg A) j
  v6 : L 6 = true → ∃ p, f 6 = .pointer (some ⟨p, 0, none⟩) ∧ B + 1 ≤ p ∧ X.heap[p]? = some (.cells (if L 8 = true then A else Z) 75 (0, 0))
  v7 : L 7 = true → ∃ p, f 7 = .pointer (some ⟨p, 0, none⟩) ∧ B + 1 ≤ p ∧ X.heap[p]? = some (.cells (if L 9 = true then A else Z) 75 (0, 0))
  ne : L 6 = true → L 7 = true → f 6 ≠ f 7
  d8 : L 8 = true → L 6 = true
  d9 : L 9 = true → L 7 = true
section
variable {B : Nat} {H S : Value} {A Z : Array Value} {w0 : World} {L L' : Nat → Bool} {f : Nat → Value} {X Y : World}
theorem AI.step (h : AI B H S A Z w0 L f X) (i : Nat) (hi : i < 6) (hb : Below X.heap.size X Y) {v : Value} (hv : v = valJ H S (.agg A) i) : ∀ L' : Nat → Bool, (∀ k, L' k = if k = i then true else L k) → AI B H S A Z w0 L' (upd f i v) Y := by
  intro L' hL
  have e : ∀ k, 6 ≤ k → L' k = L k := fun k hk => by rw [hL, if_neg (by omega)]
  have ef : ∀ k, 6 ≤ k → upd f i v k = f k := fun k hk => by unfold upd; rw [if_neg (by omega)]
  have hs := h.mem.size
  have hl := h.lt
  refine ⟨h.mem.trans (hb.mono (by omega)), hl, fun j hj h1 => ?_, fun h1 => ?_, fun h1 => ?_, fun h1 h2 => ?_, fun h1 => ?_, fun h1 => ?_⟩
  · unfold upd
    by_cases q : j = i
    · subst q
      rw [if_pos rfl]
      exact hv
    · rw [if_neg q]
      rw [hL, if_neg q] at h1
      exact h.val j hj h1
  · rw [e 6 (by omega)] at h1
    obtain ⟨p, q1, q2, q3⟩ := h.v6 h1
    exact ⟨p, by rw [ef 6 (by omega)]; exact q1, q2, by rw [e 8 (by omega)]; exact (hb.block p (Array.getElem?_eq_some_iff.1 q3).1).trans q3⟩
  · rw [e 7 (by omega)] at h1
    obtain ⟨p, q1, q2, q3⟩ := h.v7 h1
    exact ⟨p, by rw [ef 7 (by omega)]; exact q1, q2, by rw [e 9 (by omega)]; exact (hb.block p (Array.getElem?_eq_some_iff.1 q3).1).trans q3⟩
  · rw [e 6 (by omega)] at h1
    rw [e 7 (by omega)] at h2
    rw [ef 6 (by omega), ef 7 (by omega)]
    exact h.ne h1 h2
  · rw [e 8 (by omega)] at h1
    rw [e 6 (by omega)]
    exact h.d8 h1
  · rw [e 9 (by omega)] at h1
    rw [e 7 (by omega)]
    exact h.d9 h1
theorem AI.new6 (h : AI B H S A Z w0 L f X) (h6 : L 6 = false) : ∀ L' : Nat → Bool, (∀ k, L' k = if k = 6 then true else L k) → AI B H S A Z w0 L' (upd f 6 (.pointer (some ⟨X.heap.size, 0, none⟩))) (X.alloc (.cells Z 75)) := by
  intro L' hL
  have hs := h.mem.size
  have hl := h.lt
  have h8 : L 8 = false := by
    cases q : L 8
    · rfl
    · rw [h.d8 q] at h6
      cases h6
  have e : ∀ k, k ≠ 6 → L' k = L k := fun k hk => by rw [hL, if_neg hk]
  have ef : ∀ k, k ≠ 6 → upd f 6 (.pointer (some ⟨X.heap.size, 0, none⟩)) k = f k := fun k hk => by unfold upd; rw [if_neg hk]
  refine ⟨h.mem.alloc (by omega) _, hl, fun j hj h1 => ?_, fun h1 => ?_, fun h1 => ?_, fun h1 h2 => ?_, fun h1 => ?_, fun h1 => ?_⟩
  · rw [ef j (by omega)]
    rw [e j (by omega)] at h1
    exact h.val j hj h1
  · refine ⟨X.heap.size, by unfold upd; rw [if_pos rfl], by omega, ?_⟩
    rw [e 8 (by decide), h8]
    exact heap_alloc_new _ _
  · rw [e 7 (by decide)] at h1
    obtain ⟨p, q1, q2, q3⟩ := h.v7 h1
    exact ⟨p, by rw [ef 7 (by decide)]; exact q1, q2, by rw [e 9 (by decide)]; exact (Below.heap_alloc _ _ _ (Array.getElem?_eq_some_iff.1 q3).1).trans q3⟩
  · rw [e 7 (by decide)] at h2
    obtain ⟨p, q1, q2, q3⟩ := h.v7 h2
    have hlt := (Array.getElem?_eq_some_iff.1 q3).1
    rw [ef 7 (by decide), q1]
    unfold upd
    rw [if_pos rfl]
    intro hh
    simp at hh <;> omega
  · rw [e 8 (by decide)] at h1
    rw [hL, if_pos rfl]
  · rw [e 9 (by decide)] at h1
    rw [e 7 (by decide)]
    exact h.d9 h1
theorem AI.new7 (h : AI B H S A Z w0 L f X) (h7 : L 7 = false) : ∀ L' : Nat → Bool, (∀ k, L' k = if k = 7 then true else L k) → AI B H S A Z w0 L' (upd f 7 (.pointer (some ⟨X.heap.size, 0, none⟩))) (X.alloc (.cells Z 75)) := by
  intro L' hL
  have hs := h.mem.size
  have hl := h.lt
  have h9 : L 9 = false := by
    cases q : L 9
    · rfl
    · rw [h.d9 q] at h7
      cases h7
  have e : ∀ k, k ≠ 7 → L' k = L k := fun k hk => by rw [hL, if_neg hk]
  have ef : ∀ k, k ≠ 7 → upd f 7 (.pointer (some ⟨X.heap.size, 0, none⟩)) k = f k := fun k hk => by unfold upd; rw [if_neg hk]
  refine ⟨h.mem.alloc (by omega) _, hl, fun j hj h1 => ?_, fun h1 => ?_, fun h1 => ?_, fun h1 h2 => ?_, fun h1 => ?_, fun h1 => ?_⟩
  · rw [ef j (by omega)]
    rw [e j (by omega)] at h1
    exact h.val j hj h1
  · rw [e 6 (by decide)] at h1
    obtain ⟨p, q1, q2, q3⟩ := h.v6 h1
    exact ⟨p, by rw [ef 6 (by decide)]; exact q1, q2, by rw [e 8 (by decide)]; exact (Below.heap_alloc _ _ _ (Array.getElem?_eq_some_iff.1 q3).1).trans q3⟩
  · refine ⟨X.heap.size, by unfold upd; rw [if_pos rfl], by omega, ?_⟩
    rw [e 9 (by decide), h9]
    exact heap_alloc_new _ _
  · rw [e 6 (by decide)] at h1
    obtain ⟨p, q1, q2, q3⟩ := h.v6 h1
    have hlt := (Array.getElem?_eq_some_iff.1 q3).1
    rw [ef 6 (by decide), q1]
    unfold upd
    rw [if_pos rfl]
    intro hh
    simp at hh <;> omega
  · rw [e 8 (by decide)] at h1
    rw [e 6 (by decide)]
    exact h.d8 h1
  · rw [hL, if_pos rfl]
/-- one of the two is written -/
theorem AI.put (h : AI B H S A Z w0 L f X) (j i : Nat) (hj : (j = 6 ∧ i = 8) ∨ (j = 7 ∧ i = 9)) (hjL : L j = true) {p : Nat} (hp : f j = .pointer (some ⟨p, 0, none⟩)) {u : Value} (hY : Y.heap[p]? = some (.cells A 75 (0, 0))) (ho : ∀ k, k ≠ p → Y.heap[k]? = X.heap[k]?) (hm : Below (B + 1) w0 Y) : ∀ L' : Nat → Bool, (∀ k, L' k = if k = i then true else L k) → AI B H S A Z w0 L' (upd f i u) Y := by
  intro L' hL
  have hl := h.lt
  have e : ∀ k, k ≠ i → L' k = L k := fun k hk => by rw [hL, if_neg hk]
  have ef : ∀ k, k ≠ i → upd f i u k = f k := fun k hk => by unfold upd; rw [if_neg hk]
  refine ⟨hm, hl, fun k hk h1 => ?_, fun h1 => ?_, fun h1 => ?_, fun h1 h2 => ?_, fun h1 => ?_, fun h1 => ?_⟩
  · rw [ef k (by omega)]
    rw [e k (by omega)] at h1
    exact h.val k hk h1
  · rw [e 6 (by omega)] at h1
    obtain ⟨q, q1, q2, q3⟩ := h.v6 h1
    refine ⟨q, by rw [ef 6 (by omega)]; exact q1, q2, ?_⟩
    rcases hj with ⟨rfl, rfl⟩ | ⟨rfl, rfl⟩
    · rw [hp] at q1
      obtain rfl : p = q := by simpa using q1
      rw [hL, if_pos rfl, if_pos rfl]
      exact hY
    · rw [e 8 (by decide), ho q (fun hh => h.ne h1 hjL (by rw [q1, hp, hh]))]
      exact q3
  · rw [e 7 (by omega)] at h1
    obtain ⟨q, q1, q2, q3⟩ := h.v7 h1
    refine ⟨q, by rw [ef 7 (by omega)]; exact q1, q2, ?_⟩
    rcases hj with ⟨rfl, rfl⟩ | ⟨rfl, rfl⟩
    · rw [e 9 (by decide), ho q (fun hh => h.ne hjL h1 (by rw [q1, hp, hh]))]
      exact q3
    · rw [hp] at q1
      obtain rfl : p = q := by simpa using q1
      rw [hL, if_pos rfl, if_pos rfl]
      exact hY
  · rw [e 6 (by omega)] at h1
    rw [e 7 (by omega)] at h2
    rw [ef 6 (by omega), ef 7 (by omega)]
    exact h.ne h1 h2
  · rw [e 6 (by omega)]
    rcases hj with ⟨rfl, rfl⟩ | ⟨rfl, rfl⟩
    · exact hjL
    · rw [e 8 (by decide)] at h1
      exact h.d8 h1
  · rw [e 7 (by omega)]
    rcases hj with ⟨rfl, rfl⟩ | ⟨rfl, rfl⟩
    · rw [e 9 (by decide)] at h1
      exact h.d9 h1
    · exact hjL
end
theorem nwA_some (a b c d e f h i k : Nat) (hk : k < 8) : ∃ x : Nat, (#[.int .u64 (a : Int), .int .u64 (b : Int), .int .u64 (c : Int), .int .u64 (d : Int), .int .u64 (e : Int), .int .u64 (f : Int), .int .u64 (h : Int), .int .u64 (i : Int)] : Array Value)[k]? = some (.int .u64 (x : Int)) := by
  have h8 : k = 0 ∨ k = 1 ∨ k = 2 ∨ k = 3 ∨ k = 4 ∨ k = 5 ∨ k = 6 ∨ k = 7 := by omega
  rcases h8 with rfl | rfl | rfl | rfl | rfl | rfl | rfl | rfl
  · exact ⟨a, rfl⟩
  · exact ⟨b, rfl⟩
  · exact ⟨c, rfl⟩
  · exact ⟨d, rfl⟩
  · exact ⟨e, rfl⟩
  · exact ⟨f, rfl⟩
  · exact ⟨h, rfl⟩
  · exact ⟨i, rfl⟩
set_option maxHeartbeats 4000000 in
set_option maxRecDepth 100000 in
theorem agree_ok (a b c d e f h i : Nat) (g : Int) (v : Value) (l : List Rec.Ln) (w : World) (hv : LsAt v l w) (h0 : 0 < l.length) (hc : l.length = c) (hd : Rec.mn l = (d : Int)) (he : Rec.mx l = (e : Int)) (ho : OkW a b c d e f h i) :
    Calls Tryz.prog 71 #[hdV a b c d e f g h i, v] w fun r w' => r = .returned .nilIface ∧ Below w.heap.size w w' := by
  obtain ⟨a1, b1, c0, c1, d1, e0, e1, f1, h0', h1, i0, i1⟩ := ho
  have HNU := Hid.mk' (fun W => numbersOf_any a b c d e f h i g W (by omega) (by omega) (by omega) (by omega) (by omega) (by omega) (by omega) (by omega))
  obtain ⟨ad, cp, rfl, hvv⟩ := hv
  have HLS : Hid (LsAt (.slice ad c cp) l w) := by rw [← hc]; exact ⟨ad, cp, rfl, hvv⟩
  have HCT : Hid (∀ W, LsAt (.slice ad c cp) l W → Calls Tryz.prog 32 #[hdV a b c d e f g h i, .slice ad c cp] W fun r w' => r = .returned (hdV a b c d e f g h i) ∧ Below W.heap.size W w') := fun W hW => by
    have := counted_any a b c d e f g h i (.slice ad c cp) l W hW h0 (by omega)
    rw [hc, hd, he] at this
    exact this
  rw [hc]
  obtain ⟨w0, hw0⟩ : ∃ w0, w.alloc (.cells #[.int .i64 (a : Int), .int .i64 (b : Int), .int .i64 (c : Int), .int .i64 (d : Int), .int .i64 (e : Int), .int .i64 (f : Int), .int .i64 (g : Int), .int .i64 (h : Int), .int .i64 (i : Int)] 23) = w0 := ⟨_, rfl⟩
  obtain ⟨B, hB⟩ : ∃ B, w.heap.size = B := ⟨_, rfl⟩
  have HK0 : Hid (w0.heap[B]? = some (.cells #[.int .i64 (a : Int), .int .i64 (b : Int), .int .i64 (c : Int), .int .i64 (d : Int), .int .i64 (e : Int), .int .i64 (f : Int), .int .i64 (g : Int), .int .i64 (h : Int), .int .i64 (i : Int)] 23 (0, 0)) ∧ Below B w w0 ∧ w0.heap.size = B + 1) := by
    unfold Hid
    rw [← hw0, ← hB]
    exact ⟨heap_alloc_new _ _, (Below.refl _ _).alloc (Nat.le_refl _) _, World.size_alloc ..⟩
  have k2 := cell_at (k := 2) HK0.out.1 rfl
  unfold hdV nwV at HNU
  unfold hdV at HCT ⊢
  have HH : Hid (∀ X, Below (B + 1) w0 X → X.heap[B]? = some (.cells #[.int .i64 (a : Int), .int .i64 (b : Int), .int .i64 (c : Int), .int .i64 (d : Int), .int .i64 (e : Int), .int .i64 (f : Int), .int .i64 (g : Int), .int .i64 (h : Int), .int .i64 (i : Int)] 23 (0, 0)) ∧ LsAt (.slice ad c cp) l X) := fun X hX => by
    obtain ⟨k1, k2, k3⟩ := HK0.out
    refine ⟨(hX.block B (by omega)).trans k1, HLS.out.below ?_⟩
    rw [hB]
    exact k2.trans (hX.mono (by omega))
  clear hvv hc hd he
  go_enter Tryz.func71, Tryz.ntmps71
  go_upto_region 3 with fail
  clear hw0 k2
  go_cut [5, 6, 17, 18, 19, 20, 21, 22] (fun s5 s6 _ _ _ _ _ _ wx => ∃ p q, s5 = .pointer (some ⟨p, 0, none⟩) ∧ s6 = .pointer (some ⟨q, 0, none⟩) ∧ Hid (wx.heap[p]? = some (.cells #[.int .u64 (a : Int), .int .u64 (b : Int), .int .u64 (c : Int), .int .u64 (d : Int), .int .u64 (e : Int), .int .u64 (f : Int), .int .u64 (h : Int), .int .u64 (i : Int)] 75 (0, 0)) ∧ wx.heap[q]? = some (.cells #[.int .u64 (a : Int), .int .u64 (b : Int), .int .u64 (c : Int), .int .u64 (d : Int), .int .u64 (e : Int), .int .u64 (f : Int), .int .u64 (h : Int), .int .u64 (i : Int)] 75 (0, 0)) ∧ Below B w wx))
  case first =>
    refine (wpIn_wide (n := 6)).1 ?_
    refine region_rel (by kernel_rfl) (fun zz => { tmps := #[.agg #[.int .i64 (a : Int), .int .i64 (b : Int), .int .i64 (c : Int), .int .i64 (d : Int), .int .i64 (e : Int), .int .i64 (f : Int), .int .i64 (g : Int), .int .i64 (h : Int), .int .i64 (i : Int)], .slice ad c cp, .pointer (some ⟨B, 0, none⟩), undef, .nilIface, zz 6, zz 7, undef, .slice ad c cp, .int .i64 (c : Int), .pointer (some ⟨B, 2, none⟩), .int .i64 (c : Int), .bool false, undef, undef, undef, undef, zz 0, zz 1, zz 2, zz 3, zz 4, zz 5, undef, undef, undef, undef, undef, undef, undef, undef, undef, undef, undef, undef, undef, undef, undef, undef], defers := [] }) (fun _ => undef) _ (fun L zz Z => AI B (.agg #[.int .i64 (a : Int), .int .i64 (b : Int), .int .i64 (c : Int), .int .i64 (d : Int), .int .i64 (e : Int), .int .i64 (f : Int), .int .i64 (g : Int), .int .i64 (h : Int), .int .i64 (i : Int)]) (.slice ad c cp) #[.int .u64 (a : Int), .int .u64 (b : Int), .int .u64 (c : Int), .int .u64 (d : Int), .int .u64 (e : Int), .int .u64 (f : Int), .int .u64 (h : Int), .int .u64 (i : Int)] #[.int .u64 0, .int .u64 0, .int .u64 0, .int .u64 0, .int .u64 0, .int .u64 0, .int .u64 0, .int .u64 0] w0 L zz Z) (fun L' hL => ⟨(Below.refl _ _).drewN' 1, by rw [HK0.out.2.2]; exact Nat.le_refl _, fun j _ x => (by rw [hL] at x; cases x), fun x => (by rw [hL] at x; cases x), fun x => (by rw [hL] at x; cases x), fun x => (by rw [hL] at x; cases x), fun x => (by rw [hL] at x; cases x), fun x => (by rw [hL] at x; cases x)⟩) (deps_of' (by kernel_rfl)) ?_ ?_
    · intro L zz Z hI i0 hi0 hL op ho hdone KK hKK
      have hlt : i0 < 10 := hi0
      rcases (show i0 = 0 ∨ i0 = 1 ∨ i0 = 2 ∨ i0 = 3 ∨ i0 = 4 ∨ i0 = 5 ∨ i0 = 6 ∨ i0 = 7 ∨ i0 = 8 ∨ i0 = 9 by omega) with rfl | rfl | rfl | rfl | rfl | rfl | rfl | rfl | rfl | rfl
      · simp at ho; subst ho
        have p0 := cell_at (k := 0) (HH.out Z hI.mem).1 rfl
        have p1 := cell_at (k := 1) (HH.out Z hI.mem).1 rfl
        have p2 := cell_at (k := 2) (HH.out Z hI.mem).1 rfl
        have p3 := cell_at (k := 3) (HH.out Z hI.mem).1 rfl
        have p4 := cell_at (k := 4) (HH.out Z hI.mem).1 rfl
        have p5 := cell_at (k := 5) (HH.out Z hI.mem).1 rfl
        have p6 := cell_at (k := 6) (HH.out Z hI.mem).1 rfl
        have p7 := cell_at (k := 7) (HH.out Z hI.mem).1 rfl
        have p8 := cell_at (k := 8) (HH.out Z hI.mem).1 rfl
        have hKX := hKK (.agg #[.int .i64 (a : Int), .int .i64 (b : Int), .int .i64 (c : Int), .int .i64 (d : Int), .int .i64 (e : Int), .int .i64 (f : Int), .int .i64 (g : Int), .int .i64 (h : Int), .int .i64 (i : Int)]) Z (hI.step 0 (by decide) (Below.refl _ _) rfl)
        simp [wpOpIn, Region.wanted, yielded, Oper.wpIn, Oper.semAt_eq, execOp, Oper.uponIn, go_sem, p0, p1, p2, p3, p4, p5, p6, p7, p8]
        first | exact hKX | (simp [upd] at hKX; exact hKX) | (simp [upd] at hKX ⊢; exact hKX)
      · simp at ho; subst ho; simp [Region.binds] at hdone
        have es : zz 0 = .agg #[.int .i64 (a : Int), .int .i64 (b : Int), .int .i64 (c : Int), .int .i64 (d : Int), .int .i64 (e : Int), .int .i64 (f : Int), .int .i64 (g : Int), .int .i64 (h : Int), .int .i64 (i : Int)] := hI.val 0 (by decide) hdone
        simp [wpOpIn, Region.wanted, yielded, Oper.wpIn, Oper.semAt_eq, execOp, Oper.uponIn, go_sem, es]
        refine ⟨trivial, ?_⟩
        refine CallsIn.mono (callsIn_wide.2 (HNU.out Z)) ?_
        rintro r Y ⟨rfl, hb⟩
        have hKX := hKK (.agg #[.int .u64 (a : Int), .int .u64 (b : Int), .int .u64 (c : Int), .int .u64 (d : Int), .int .u64 (e : Int), .int .u64 (f : Int), .int .u64 (h : Int), .int .u64 (i : Int)]) Y (hI.step 1 (by decide) hb rfl)
        first | exact hKX | (simp [upd, es] at hKX; exact hKX) | (simp [upd, es] at hKX ⊢; exact hKX)
      · simp at ho; subst ho
        have p0 := cell_at (k := 0) (HH.out Z hI.mem).1 rfl
        have p1 := cell_at (k := 1) (HH.out Z hI.mem).1 rfl
        have p2 := cell_at (k := 2) (HH.out Z hI.mem).1 rfl
        have p3 := cell_at (k := 3) (HH.out Z hI.mem).1 rfl
        have p4 := cell_at (k := 4) (HH.out Z hI.mem).1 rfl
        have p5 := cell_at (k := 5) (HH.out Z hI.mem).1 rfl
        have p6 := cell_at (k := 6) (HH.out Z hI.mem).1 rfl
        have p7 := cell_at (k := 7) (HH.out Z hI.mem).1 rfl
        have p8 := cell_at (k := 8) (HH.out Z hI.mem).1 rfl
        have hKX := hKK (.agg #[.int .i64 (a : Int), .int .i64 (b : Int), .int .i64 (c : Int), .int .i64 (d : Int), .int .i64 (e : Int), .int .i64 (f : Int), .int .i64 (g : Int), .int .i64 (h : Int), .int .i64 (i : Int)]) Z (hI.step 2 (by decide) (Below.refl _ _) rfl)
        simp [wpOpIn, Region.wanted, yielded, Oper.wpIn, Oper.semAt_eq, execOp, Oper.uponIn, go_sem, p0, p1, p2, p3, p4, p5, p6, p7, p8]
        first | exact hKX | (simp [upd] at hKX; exact hKX) | (simp [upd] at hKX ⊢; exact hKX)
      · simp at ho; subst ho
        have hKX := hKK (.slice ad c cp) Z (hI.step 3 (by decide) (Below.refl _ _) rfl)
        simp [wpOpIn, Region.wanted, yielded, Oper.wpIn, Oper.semAt_eq, execOp, Oper.uponIn, go_sem]
        first | exact hKX | (simp [upd] at hKX; exact hKX) | (simp [upd] at hKX ⊢; exact hKX)
      · simp at ho; subst ho; simp [Region.binds] at hdone
        have hs2 : L 2 = true := by simp [hdone]
        have hs3 : L 3 = true := by simp [hdone]
        have es : zz 2 = .agg #[.int .i64 (a : Int), .int .i64 (b : Int), .int .i64 (c : Int), .int .i64 (d : Int), .int .i64 (e : Int), .int .i64 (f : Int), .int .i64 (g : Int), .int .i64 (h : Int), .int .i64 (i : Int)] := hI.val 2 (by decide) hs2
        have et : zz 3 = .slice ad c cp := hI.val 3 (by decide) hs3
        simp [wpOpIn, Region.wanted, yielded, Oper.wpIn, Oper.semAt_eq, execOp, Oper.uponIn, go_sem, es, et]
        refine ⟨trivial, ?_⟩
        refine CallsIn.mono (callsIn_wide.2 (HCT.out Z (HH.out Z hI.mem).2)) ?_
        rintro r Y ⟨rfl, hb⟩
        have hKX := hKK (.agg #[.int .i64 (a : Int), .int .i64 (b : Int), .int .i64 (c : Int), .int .i64 (d : Int), .int .i64 (e : Int), .int .i64 (f : Int), .int .i64 (g : Int), .int .i64 (h : Int), .int .i64 (i : Int)]) Y (hI.step 4 (by decide) hb rfl)
        first | exact hKX | (simp [upd, es, et] at hKX; exact hKX) | (simp [upd, es, et] at hKX ⊢; exact hKX)
      · simp at ho; subst ho; simp [Region.binds] at hdone
        have hs4 : L 4 = true := by simp [hdone]
        have es : zz 4 = .agg #[.int .i64 (a : Int), .int .i64 (b : Int), .int .i64 (c : Int), .int .i64 (d : Int), .int .i64 (e : Int), .int .i64 (f : Int), .int .i64 (g : Int), .int .i64 (h : Int), .int .i64 (i : Int)] := hI.val 4 (by decide) hs4
        simp [wpOpIn, Region.wanted, yielded, Oper.wpIn, Oper.semAt_eq, execOp, Oper.uponIn, go_sem, es]
        refine ⟨trivial, ?_⟩
        refine CallsIn.mono (callsIn_wide.2 (HNU.out Z)) ?_
        rintro r Y ⟨rfl, hb⟩
        have hKX := hKK (.agg #[.int .u64 (a : Int), .int .u64 (b : Int), .int .u64 (c : Int), .int .u64 (d : Int), .int .u64 (e : Int), .int .u64 (f : Int), .int .u64 (h : Int), .int .u64 (i : Int)]) Y (hI.step 5 (by decide) hb rfl)
        first | exact hKX | (simp [upd, es] at hKX; exact hKX) | (simp [upd, es] at hKX ⊢; exact hKX)
      · simp at ho; subst ho
        have hKX := hKK (.pointer (some ⟨Z.heap.size, 0, none⟩)) (Z.alloc (.cells #[.int .u64 0, .int .u64 0, .int .u64 0, .int .u64 0, .int .u64 0, .int .u64 0, .int .u64 0, .int .u64 0] 75)) (hI.new6 hL)
        simp [wpOpIn, Region.wanted, yielded, Oper.wpIn, Oper.semAt_eq, execOp, Oper.uponIn, go_sem]
        first | exact hKX | (simp [upd] at hKX; exact hKX) | (simp [upd] at hKX ⊢; exact hKX)
      · simp at ho; subst ho
        have hKX := hKK (.pointer (some ⟨Z.heap.size, 0, none⟩)) (Z.alloc (.cells #[.int .u64 0, .int .u64 0, .int .u64 0, .int .u64 0, .int .u64 0, .int .u64 0, .int .u64 0, .int .u64 0] 75)) (hI.new7 hL)
        simp [wpOpIn, Region.wanted, yielded, Oper.wpIn, Oper.semAt_eq, execOp, Oper.uponIn, go_sem]
        first | exact hKX | (simp [upd] at hKX; exact hKX) | (simp [upd] at hKX ⊢; exact hKX)
      · simp at ho; subst ho; simp [Region.binds] at hdone
        have hj : L 6 = true := by simp [hdone]
        have hs : L 1 = true := by simp [hdone]
        have es := hI.val 1 (by decide) hs
        have es2 : zz 1 = .agg #[.int .u64 (a : Int), .int .u64 (b : Int), .int .u64 (c : Int), .int .u64 (d : Int), .int .u64 (e : Int), .int .u64 (f : Int), .int .u64 (h : Int), .int .u64 (i : Int)] := es
        obtain ⟨p, q1, q2, q3⟩ := hI.v6 hj
        rw [hL] at q3
        simp only [Bool.false_eq_true, if_false] at q3
        have z0 := cell_at (k := 0) q3 rfl
        have y0 := frozen_at (k := 0) q3
        have z1 := cell_at (k := 1) q3 rfl
        have y1 := frozen_at (k := 1) q3
        have z2 := cell_at (k := 2) q3 rfl
        have y2 := frozen_at (k := 2) q3
        have z3 := cell_at (k := 3) q3 rfl
        have y3 := frozen_at (k := 3) q3
        have z4 := cell_at (k := 4) q3 rfl
        have y4 := frozen_at (k := 4) q3
        have z5 := cell_at (k := 5) q3 rfl
        have y5 := frozen_at (k := 5) q3
        have z6 := cell_at (k := 6) q3 rfl
        have y6 := frozen_at (k := 6) q3
        have z7 := cell_at (k := 7) q3 rfl
        have y7 := frozen_at (k := 7) q3
        have hKX := hKK undef ((((((((Z.setCell ⟨p, 0, none⟩ (.int .u64 (a : Int))).setCell ⟨p, 1, none⟩ (.int .u64 (b : Int))).setCell ⟨p, 2, none⟩ (.int .u64 (c : Int))).setCell ⟨p, 3, none⟩ (.int .u64 (d : Int))).setCell ⟨p, 4, none⟩ (.int .u64 (e : Int))).setCell ⟨p, 5, none⟩ (.int .u64 (f : Int))).setCell ⟨p, 6, none⟩ (.int .u64 (h : Int))).setCell ⟨p, 7, none⟩ (.int .u64 (i : Int))) (hI.put 6 8 (by decide) hj q1 (eight_put _ _ _ _ _ _ _ _ q3) (fun k hk => eight_other _ _ _ _ _ _ _ _ hk) (eight_below _ _ _ _ _ _ _ _ hI.mem q2))
        simp [wpOpIn, Region.wanted, yielded, Oper.wpIn, Oper.semAt_eq, execOp, Oper.uponIn, go_sem, es2, q1, z0, y0, z1, y1, z2, y2, z3, y3, z4, y4, z5, y5, z6, y6, z7, y7]
        first | exact hKX | (simp [upd, es2, q1] at hKX; exact hKX) | (simp [upd, es2, q1] at hKX ⊢; exact hKX)
      · simp at ho; subst ho; simp [Region.binds] at hdone
        have hj : L 7 = true := by simp [hdone]
        have hs : L 5 = true := by simp [hdone]
        have es := hI.val 5 (by decide) hs
        have es2 : zz 5 = .agg #[.int .u64 (a : Int), .int .u64 (b : Int), .int .u64 (c : Int), .int .u64 (d : Int), .int .u64 (e : Int), .int .u64 (f : Int), .int .u64 (h : Int), .int .u64 (i : Int)] := es
        obtain ⟨p, q1, q2, q3⟩ := hI.v7 hj
        rw [hL] at q3
        simp only [Bool.false_eq_true, if_false] at q3
        have z0 := cell_at (k := 0) q3 rfl
        have y0 := frozen_at (k := 0) q3
        have z1 := cell_at (k := 1) q3 rfl
        have y1 := frozen_at (k := 1) q3
        have z2 := cell_at (k := 2) q3 rfl
        have y2 := frozen_at (k := 2) q3
        have z3 := cell_at (k := 3) q3 rfl
        have y3 := frozen_at (k := 3) q3
        have z4 := cell_at (k := 4) q3 rfl
        have y4 := frozen_at (k := 4) q3
        have z5 := cell_at (k := 5) q3 rfl
        have y5 := frozen_at (k := 5) q3
        have z6 := cell_at (k := 6) q3 rfl
        have y6 := frozen_at (k := 6) q3
        have z7 := cell_at (k := 7) q3 rfl
        have y7 := frozen_at (k := 7) q3
        have hKX := hKK undef ((((((((Z.setCell ⟨p, 0, none⟩ (.int .u64 (a : Int))).setCell ⟨p, 1, none⟩ (.int .u64 (b : Int))).setCell ⟨p, 2, none⟩ (.int .u64 (c : Int))).setCell ⟨p, 3, none⟩ (.int .u64 (d : Int))).setCell ⟨p, 4, none⟩ (.int .u64 (e : Int))).setCell ⟨p, 5, none⟩ (.int .u64 (f : Int))).setCell ⟨p, 6, none⟩ (.int .u64 (h : Int))).setCell ⟨p, 7, none⟩ (.int .u64 (i : Int))) (hI.put 7 9 (by decide) hj q1 (eight_put _ _ _ _ _ _ _ _ q3) (fun k hk => eight_other _ _ _ _ _ _ _ _ hk) (eight_below _ _ _ _ _ _ _ _ hI.mem q2))
        simp [wpOpIn, Region.wanted, yielded, Oper.wpIn, Oper.semAt_eq, execOp, Oper.uponIn, go_sem, es2, q1, z0, y0, z1, y1, z2, y2, z3, y3, z4, y4, z5, y5, z6, y6, z7, y7]
        first | exact hKX | (simp [upd, es2, q1] at hKX; exact hKX) | (simp [upd, es2, q1] at hKX ⊢; exact hKX)
    · intro L zz Z hall hI
      obtain ⟨p, p1, p2, p3⟩ := hI.v6 (hall 6 (by decide))
      obtain ⟨q, q1, q2, q3⟩ := hI.v7 (hall 7 (by decide))
      rw [hall 8 (by decide)] at p3
      rw [hall 9 (by decide)] at q3
      simp only [if_true] at p3 q3
      have HM := Hid.mk' (And.intro p3 (And.intro q3 (HK0.out.2.1.trans (hI.mem.mono (by omega)))))
      rw [p1, q1]
      clear hI p3 q3
      go_wp2_with fail
      go_meet
      exact ⟨p, q, rfl, rfl, HM.out.1, HM.out.2.1, HM.out.2.2⟩
  case rest =>
    obtain ⟨p, q, rfl, rfl, HX⟩ := hcut
    rename World => wx
    go_wp2_with fail
    go_loopw [7, 23] (fun _ s23 wr => ∃ k n : Nat, s23 = .int .i64 (k : Int) ∧ k ≤ 8 ∧ wr = wx.drewN n) (fun _ s23 _ => 8 - (intOf s23).toNat)
    case atStart => exact ⟨0, 0, rfl, by omega, rfl⟩
    case round =>
      obtain ⟨k, n, rfl, hk, rfl⟩ := hrel
      by_cases hk8 : k < 8
      · have hkI : (k : Int) < 8 := by omega
        have hk0 : (0 : Int) ≤ (k : Int) := by omega
        obtain ⟨x, hx⟩ := nwA_some a b c d e f h i k hk8
        have x1 := cell_at (k := k) HX.out.1 hx
        have x2 := cell_at (k := k) HX.out.2.1 hx
        have HK8 := Hid.mk' hk8
        clear hx hk hk8
        go_wp2_with fail
        go_quiet (fail)
        go_wp2_with fail
        go_roundw
        case rel => exact ⟨k + 1, n + nq, by go_num, HK8.out, rfl⟩
        case measure => have := HK8.out; simp [intOf]; omega
      · have hkI : ¬ (k : Int) < 8 := by omega
        go_wp2_with fail
        go_ret
        exact ⟨rfl, HX.out.2.2.drewN' n⟩
end Go.Proofs.YtlplbnlfajdcbaaGreatDoor
