/-
  fields of a line that is an object: what object.Parse tells of any line. Conditions: as each says.
-/
import Derived.Test.YtkplbggefiemdaaGreatDoorFmT
import Derived.Test.YtkplbggefiemdaaGreatDoorOqVZ
namespace Go.Proofs.YtkplbggefiemdaaGreatDoor
open Go.RowKit Go.Shelf
set_option linter.unusedVariables false
set_option linter.unusedSimpArgs false
theorem pth_len (p : List Nat) (i : Nat) (h : i < 65536) : (pthL p i).length ≤ p.length + 65560 := by
  unfold pthL
  have := dec_short i (by omega)
  simp
  omega
mutual
theorem flV_bd : ∀ (v : Vl) (n : Nat) (p : List Nat), okV n v = true → (flV v p).length ≤ cV v ∧ ∀ x ∈ flV v p, x.1.length ≤ p.length + 65560 * n ∧ x.2.length ≤ 65536
  | .mk k t ns ks, n, p, h => by
    rw [okV] at h
    simp only [Bool.or_eq_true, Bool.and_eq_true, decide_eq_true_eq, List.isEmpty_iff, List.all_eq_true] at h
    rw [(cV_mk k t ns ks).1]
    rcases h with (((⟨⟨⟨⟨k1, k3⟩, x1⟩, rfl⟩, rfl⟩ | ⟨⟨⟨rfl, x1⟩, rfl⟩, rfl⟩) | ⟨⟨⟨rfl, x1⟩, rfl⟩, rfl⟩) | ⟨⟨⟨⟨⟨rfl, x1⟩, rfl⟩, x3⟩, x4⟩, x5⟩) | ⟨⟨⟨⟨⟨⟨⟨rfl, x1⟩, x2⟩, x6⟩, x7⟩, x3⟩, x4⟩, x5⟩
    · rw [flV, if_neg (by omega), if_neg (by omega)]
      refine ⟨by simp, fun x hx => ?_⟩
      rw [List.mem_singleton.1 hx]
      refine ⟨by show p.length ≤ _; omega, ?_⟩
      rcases (show k = 1 ∨ k = 2 ∨ k = 3 by omega) with rfl | rfl | rfl <;> simp [plN]
    · rw [flV, if_neg (by omega), if_neg (by omega)]
      refine ⟨by simp, fun x hx => ?_⟩
      rw [List.mem_singleton.1 hx]
      exact ⟨by show p.length ≤ _; omega, by show (Sums.bl t).length ≤ _; rw [Sums.bl_length]; exact (numT_ok x1).1⟩
    · rw [flV, if_neg (by omega), if_neg (by omega)]
      refine ⟨by simp, fun x hx => ?_⟩
      rw [List.mem_singleton.1 hx]
      exact ⟨by show p.length ≤ _; omega, by show (Sums.bl t).length ≤ _; rw [Sums.bl_length]; exact (shT_ok x1).1⟩
    · rw [flV, if_pos rfl]
      obtain ⟨h1, h2⟩ := flK_bd ks (n - 1) (pthL p) 0 (p.length + 65560) x5 (fun i hi => pth_len p i (by omega))
      exact ⟨by omega, fun x hx => ⟨by have := (h2 x hx).1; omega, (h2 x hx).2⟩⟩
    · rw [flV, if_neg (by decide), if_pos rfl]
      obtain ⟨h1, h2⟩ := flK_bd ks (n - 1) (pthO p ns) 0 (p.length + 65560) x5 (fun i hi => by
        unfold pthO
        have hn : (Sums.bl (ns.getD i ByteArray.empty)).length ≤ 65536 := by
          rw [Sums.bl_length]
          rw [List.getD_eq_getElem?_getD]
          cases hg : ns[i]? with
          | none => show ByteArray.empty.size ≤ _; decide
          | some u => exact (shT_ok (x6 u (List.mem_of_getElem? hg))).1
        generalize Sums.bl (ns.getD i ByteArray.empty) = nm at hn ⊢
        rw [List.length_append]
        split
        · simp; omega
        · simp; omega)
      exact ⟨by omega, fun x hx => ⟨by have := (h2 x hx).1; omega, (h2 x hx).2⟩⟩
theorem flK_bd : ∀ (ks : List Vl) (n : Nat) (f : Nat → List Nat) (i m : Nat), okL n ks = true → (∀ j, j < i + ks.length → (f j).length ≤ m) → (flK ks f i).length ≤ cL ks ∧ ∀ x ∈ flK ks f i, x.1.length ≤ m + 65560 * n ∧ x.2.length ≤ 65536
  | [], n, f, i, m, _, _ => by rw [flK]; exact ⟨by simp, fun x hx => by cases hx⟩
  | v :: vs, n, f, i, m, h, hf => by
    rw [okL, Bool.and_eq_true] at h
    rw [flK, (cL_cons v vs).1]
    obtain ⟨a1, a2⟩ := flV_bd v n (f i) h.1
    obtain ⟨b1, b2⟩ := flK_bd vs n f (i + 1) m h.2 (fun j hj => hf j (by rw [List.length_cons]; omega))
    have hfi := hf i (by rw [List.length_cons]; omega)
    refine ⟨by rw [List.length_append]; omega, fun x hx => ?_⟩
    rcases List.mem_append.1 hx with e | e
    · have := a2 x e; exact ⟨by omega, this.2⟩
    · exact b2 x e
end
theorem blF_drop : ∀ (l : List Nat) (p : Nat), l.drop (blF l p - p) = l.dropWhile blkL
  | [], p => by simp
  | x :: r, p => by
    have hb : blkL x = decide (x = 32 ∨ x = 9 ∨ x = 10 ∨ x = 13) := by
      rw [Bool.eq_iff_iff, decide_eq_true_iff]
      unfold blkL inL
      by_cases h1 : x = 32
      · subst h1; decide
      · by_cases h2 : x = 9
        · subst h2; decide
        · by_cases h3 : x = 10
          · subst h3; decide
          · by_cases h4 : x = 13
            · subst h4; decide
            · have n1 := Ne.symm h1; have n2 := Ne.symm h2; have n3 := Ne.symm h3; have n4 := Ne.symm h4
              simp [ixF, h1, h2, h3, h4, n1, n2, n3, n4]
    have hle := (blF_le r (p + 1)).1
    rw [blF]
    by_cases h : x = 32 ∨ x = 9 ∨ x = 10 ∨ x = 13
    · rw [if_pos h, List.dropWhile_cons_of_pos (by rw [hb]; exact decide_eq_true h), ← blF_drop r (p + 1), show blF r (p + 1) - p = (blF r (p + 1) - (p + 1)) + 1 by omega, List.drop_succ_cons]
    · rw [if_neg h, List.dropWhile_cons_of_neg (by rw [hb]; simpa using h), Nat.sub_self, List.drop_zero]
/-- an object begins with its bracket -/
theorem bar_seven {S : ByteArray} {pq : Nat → Rv ByteArray} {n p : Nat} {val : Nat → Rv Vl} {t : ByteArray} {ns : List ByteArray} {ks : List Vl} {q : Nat} (h : barP S pq n val p = .ok (.mk 7 t ns ks) q) : hasO 123 ((Sums.bl S).drop p) = true := by
  unfold barP at h
  split at h
  · have := (wrd_ok _ _ _ _ _ _ h).1; cases this
  · split at h
    · have := (wrd_ok _ _ _ _ _ _ h).1; cases this
    · split at h
      · have := (wrd_ok _ _ _ _ _ _ h).1; cases this
      · split at h
        · cases hq : pq p with
          | no c z => rw [hq] at h; cases h
          | ok u z => rw [hq] at h; cases h
        · split at h
          · cases hq : brk (lstT val) (Sums.bl S) 93 n [] p with
            | no c z => rw [hq] at h; cases h
            | ok u z => rw [hq] at h; cases h
          · split at h
            · rename_i hb; exact hb
            · cases hq : nmP (Sums.bl S) p with
              | no c z => rw [hq] at h; cases h
              | ok z => rw [hq] at h; cases h
theorem whl_seven {S : ByteArray} {pq : Nat → Rv ByteArray} {t : ByteArray} {ns : List ByteArray} {ks : List Vl} {q : Nat} (h : whlP S pq = .ok (.mk 7 t ns ks) q) : braF (Sums.bl S) = true := by
  unfold whlP at h
  cases hv : valP S pq 40 0 with
  | no c z => rw [hv] at h; cases h
  | ok u z =>
    rw [hv] at h
    have h' : (if z = S.size then Rv.ok u z else .no 130 z) = .ok (.mk 7 t ns ks) q := h
    split at h'
    · injection h' with e1 e2
      subst e1
      rw [valP] at hv
      cases hb : barP S pq 40 (valP S pq 39) (blP (Sums.bl S) 0) with
      | no c y => rw [hb] at hv; cases hv
      | ok u y =>
        rw [hb] at hv
        have hv' : Rv.ok u (blP (Sums.bl S) y) = .ok (.mk 7 t ns ks) z := hv
        injection hv' with e3 e4
        subst e3
        have h1 := bar_seven hb
        have e := blF_drop (Sums.bl S) 0
        unfold blP at h1
        rw [List.drop_zero] at h1
        rw [Nat.sub_zero] at e
        unfold braF
        rw [← e]
        exact h1
    · cases h'
/-- what object.Parse tells of any line -/
def PaP (S : ByteArray) (w : World) (e : Ending) (w' : World) : Prop :=
  ∃ (xk : Int) (xt : ByteArray) (p1 : Option Addr) (n1 c1 : Nat) (p2 : Option Addr) (n2 c2 : Nat) (c q : Nat), e = .returned (.tuple #[.agg #[.int .i64 xk, .string xt, .slice p1 n1 c1, .slice p2 n2 c2], .int .i64 (c : Int), .int .i64 (q : Int)]) ∧ Below w.heap.size w w' ∧
    (c = 0 → xk = 7 → ∃ (v : Vl) (z : Nat) (F : Nat → Prop), whlP S (pqG S) = .ok v z ∧ S.size ≤ 65536 ∧ braF (Sums.bl S) = true ∧ (∀ k, F k → w.heap.size ≤ k ∧ k < w'.heap.size) ∧ VlAt F w' v #[.int .i64 xk, .string xt, .slice p1 n1 c1, .slice p2 n2 c2])
set_option maxRecDepth 100000 in
set_option maxHeartbeats 2000000 in
theorem parse_long (S : ByteArray) (w : World) (hS : 65536 < S.size) : Calls Tryz.prog 18 #[.string S] w fun e w' => e = .returned (.tuple #[.agg zr4, .int .i64 43, .int .i64 0]) ∧ Below w.heap.size w w' := by
  have hSI : (65536 : Int) < (S.size : Int) := by omega
  have hS2 : decide ((65536 : Int) < (S.size : Int)) = true := decide_eq_true hSI
  have hS3 : decide (65536 < S.size) = true := decide_eq_true hS
  have HA : Hid (∀ X, X = w.alloc (.cells #[.int .i64 0, .string ⟨#[]⟩, .slice none 0 0, .slice none 0 0] 41) → X.heap[w.heap.size]? = some (.cells zr4 41 (0, 0)) ∧ Below w.heap.size w X) := Hid.mk' (fun X hX => by subst hX; exact ⟨heap_alloc_new w _, (Below.refl w.heap.size w).alloc (Nat.le_refl _) _⟩)
  go_enter Tryz.func18, Tryz.ntmps18
  go_upto_region 2 with fail
  have hx := HA.out _ rfl
  generalize w.alloc (.cells #[.int .i64 0, .string ⟨#[]⟩, .slice none 0 0, .slice none 0 0] 41) = w1 at hx ⊢
  obtain ⟨hR, hB⟩ := hx
  have HR := Hid.mk' hR
  have HB := Hid.mk' hB
  obtain ⟨r0, r1, r2, r3, z0, z1, z2, z3⟩ := rz_of hR
  clear hB HA hR
  go_wp2_with fail
  have hp := put4_res (w := w1) (R := w.heap.size) (.int .i64 0) (.string ⟨#[]⟩) (.slice none 0 0) (.slice none 0 0) HR.out
  have hrow := hp.row
  show bodyPost _ _ _ _ _ (put4 w1 w.heap.size 0 (.int .i64 0) (.string ⟨#[]⟩) (.slice none 0 0) (.slice none 0 0))
  have hbb : Below w.heap.size w (put4 w1 w.heap.size 0 (.int .i64 0) (.string ⟨#[]⟩) (.slice none 0 0) (.slice none 0 0)) := ⟨hp.os.trans HB.out.os, hp.tape.trans HB.out.tape, hp.output.trans HB.out.output, by rw [hp.size]; exact HB.out.size, fun k hk => (hp.block k (by omega)).trans (HB.out.block k hk)⟩
  generalize put4 w1 w.heap.size 0 (.int .i64 0) (.string ⟨#[]⟩) (.slice none 0 0) (.slice none 0 0) = w4 at hrow hbb ⊢
  refine ⟨rfl, .tuple #[.agg #[.int .i64 0, .string ⟨#[]⟩, .slice none 0 0, .slice none 0 0], .int .i64 43, .int .i64 0], ?_, rfl, hbb⟩
  simp [results, Tryz.f18, go_sem, World.cell?, hrow]
theorem parse_tells (S : ByteArray) (w : World) (hw : RwT w) : Calls Tryz.prog 18 #[.string S] w (PaP S w) := by
  by_cases hS : S.size ≤ 65536
  · have h := parse_full S w hw hS
    cases hv : whlP S (pqG S) with
    | no c q =>
      rw [hv] at h
      refine h.mono ?_
      rintro e w' ⟨rfl, hb⟩
      exact ⟨0, ByteArray.empty, none, 0, 0, none, 0, 0, c, q, rfl, hb, fun _ h => by cases h⟩
    | ok v z =>
      rw [hv] at h
      refine h.mono ?_
      rintro e w' ⟨cs, rfl, hb, F, hF, hvl⟩
      obtain ⟨xk, xt, p1, n1, c1, p2, n2, c2, rfl⟩ := hvl.form
      refine ⟨xk, xt, p1, n1, c1, p2, n2, c2, 0, 0, rfl, hb, fun _ h7 => ⟨v, z, F, hv, hS, ?_, hF, hvl⟩⟩
      cases v with
      | mk k t ns ks =>
        obtain ⟨pn, cn, pk, ck, hcs, _, _⟩ := hvl.open_
        have hk : xk = (k : Int) := by simp at hcs; exact hcs.1
        have hk7 : k = 7 := by omega
        subst hk7
        exact whl_seven hv
  · refine (parse_long S w (by omega)).mono ?_
    rintro e w' ⟨rfl, hb⟩
    exact ⟨0, ByteArray.empty, none, 0, 0, none, 0, 0, 43, 0, rfl, hb, fun _ h => by cases h⟩
end Go.Proofs.YtkplbggefiemdaaGreatDoor
