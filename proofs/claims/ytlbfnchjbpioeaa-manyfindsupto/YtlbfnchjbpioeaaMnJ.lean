/-
  many.build, many.New. Conditions: as each says.
-/
import Derived.Test.YtlbfnchjbpioeaaMnI
namespace Go.Proofs.Ytlbfnchjbpioeaa
open Go.RowKit
set_option linter.unusedVariables false
/-- a set of words, as it lies -/
def ManyM (B sb : Nat) (W : List (List Nat)) (fold : Bool) (w : World) : Prop :=
  ∃ g cn g2 cw, SetM B sb g (.slice (some ⟨g2, 0, none⟩) W.length cw) (Mn.nsOf W).length cn W.length (fun i c => (Mn.fin (Mn.nsOf W) i (if fold then Mn.low c else c) : Int)) (fun i => (((Mn.nsOf W).getD i []).length : Int)) (fun i => Mn.lw W ((Mn.nsOf W).getD i [])) (fun j => ((W.getD j []).length : Int)) (fun j => Mn.lw W (W.getD j []).tail) w
theorem ManyM.keep {B sb : Nat} {W : List (List Nat)} {fold : Bool} {w w' : World} (h : ManyM B sb W fold w) (hb : Below w.heap.size w w') : ManyM B sb W fold w' := by
  obtain ⟨g, cn, g2, cw, h⟩ := h
  exact ⟨g, cn, g2, cw, h.keep hb⟩
theorem nd0 : ndZ.setIfInBounds 257 (.int .i16 (-1)) = ndN 0 (-1) := by
  apply Array.ext_getElem?
  intro j
  by_cases hj : j < 258
  · rw [ndN_at 0 (-1) j hj, Array.getElem?_setIfInBounds]
    by_cases h1 : 257 = j
    · subst h1
      simp [ndZ_size]
    · rw [if_neg h1]
      unfold ndZ
      by_cases h2 : j < 256
      · rw [if_pos h2, Array.getElem?_append_left (by simp; omega), Array.getElem?_replicate, if_pos h2]
      · rw [if_neg h2, if_pos (by omega), Array.getElem?_append_right (by simp; omega)]
        have : j = 256 := by omega
        subst this
        simp
  · rw [Array.getElem?_eq_none (by simp [ndZ_size]; omega), Array.getElem?_eq_none (by rw [ndN_size]; omega)]
theorem trie_one (w0 w2 : World) (hb : Below w0.heap.size w0 w2) (h1 : w2.heap[w0.heap.size]? = some (.cells (ndN 0 (-1)) 79 (0, 0))) (h2 : w2.heap[w0.heap.size + 1]? = some (.cells #[.slice (some ⟨w0.heap.size, 0, none⟩) 1 1, .slice none 0 0] 69 (0, 0))) : TrieM w0.heap.size (w0.heap.size + 1) w0.heap.size (.slice none 0 0) 1 [[]] [] w2 := by
  refine ⟨h2, ⟨by rw [rowV_len], .inr ⟨w0.heap.size, 1, ndN 0 (-1), rfl, Nat.le_refl _, h1, Nat.le_refl _, by unfold maxLen; omega, by rw [ndN_size], ?_⟩⟩, World.ownsRow_nil _ _ _ _, by omega⟩
  have := ndF_grow (nx := fun _ _ => 0) (nx' := fun i c => (Mn.raw [[]] i c : Int)) (ln := fun _ => 0) (wd := fun _ => 0) (ln' := fun i => (([[]].getD i ([] : List Nat)).length : Int)) (wd' := fun i => Mn.ixw [] ([[]].getD i [])) (n := 0) (l := 0) (v := -1) (fun i hi => by omega) (fun i hi => by omega) (fun i hi => by omega) (fun c _ => by
    have : Mn.raw [[]] 0 c = 0 := by
      unfold Mn.raw
      exact Mn.ix_not (by simp)
    rw [this]
    rfl) rfl rfl
  rw [List.take_of_length_le (by rw [Array.length_toList, ndN_size]; decide)]
  simpa [rowV] using this
theorem take_next (W : List (List Nat)) (k : Nat) (t : List Nat) (h : W[k]? = some t) : W.take (k + 1) = W.take k ++ [t] := by
  rw [List.take_add_one, h]
  rfl
set_option maxRecDepth 100000 in
set_option maxHeartbeats 4000000 in
theorem build_any (p : Option Addr) (cap : Nat) (L : List ByteArray) (fold : Bool) (w0 : World) (h : StrAt w0 p L) (hg : Mn.Good fold L) :
    Calls Try.prog 27 #[.slice p L.length cap, .bool fold] w0 fun e w' => ∃ sb, e = .returned (.pointer (some ⟨sb, 0, none⟩)) ∧ ManyM w0.heap.size sb (Mn.wds fold L) fold w' ∧ Below w0.heap.size w0 w' := by
  obtain ⟨W, hW⟩ : ∃ W, Mn.wds fold L = W := ⟨_, rfl⟩
  have hWl := Mn.wds_len fold L
  have hnod := hg.nodup
  have hlen := hg.len
  have hzer := hg.zero
  rw [hW] at hWl hnod hlen hzer ⊢
  obtain ⟨n, hn⟩ : ∃ n, L.length = n := ⟨_, rfl⟩
  have hfew := hg.few
  have hsome := hg.some_
  rw [hn] at hWl hfew hsome ⊢
  obtain ⟨B, hB⟩ : ∃ B, w0.heap.size = B := ⟨_, rfl⟩
  rw [hB]
  have HX := Hid.mk' (And.intro hg (And.intro hW (And.intro hWl (And.intro hnod (And.intro hlen (And.intro hzer hn))))))
  have HS := Hid.mk' h
  have hlenN : ∀ k, k ≤ n → (Mn.nsOf (W.take k)).length + 256 ≤ 32000 := fun k hk => by
    have := Mn.nsOf_len 256 (W.take k) (fun x hx => (hlen x (List.mem_of_mem_take hx)).2.1)
    rw [List.length_take, hWl] at this
    have h3 : min k n ≤ 64 := by omega
    have : min k n * 256 ≤ 64 * 256 := Nat.mul_le_mul_right _ h3
    omega
  have HLN := Hid.mk' hlenN
  have hzr := zero_node
  obtain ⟨Z, hZ⟩ : ∃ Z, ndZ = Z := ⟨_, rfl⟩
  have hZs : Z.size = 258 := by rw [← hZ]; exact ndZ_size
  rw [hZ] at hzr
  obtain ⟨i0, hi, hz0, hz1, hz2⟩ := info_parts infoN
  obtain ⟨cs, hcs⟩ : ∃ cs, Z.setIfInBounds 257 (.int .i16 (-1)) = cs := ⟨_, rfl⟩
  have HCS : Hid (cs = ndN 0 (-1)) := by rw [← hcs, ← hZ]; exact nd0
  have hcsz : cs.size = 258 := by rw [← hcs]; simp [hZs]
  obtain ⟨w2, hw2⟩ : ∃ w2, (w0.alloc (.cells cs 79)).alloc (.cells #[.slice (some ⟨B, 0, none⟩) 1 1, .slice none 0 0] 69) = w2 := ⟨_, rfl⟩
  have hst : TrieM B (B + 1) B (.slice none 0 0) 1 [[]] [] w2 ∧ Below B w0 w2 := by
    have hb2 : Below w0.heap.size w0 w2 := by rw [← hw2]; exact ((Below.refl _ _).alloc (Nat.le_refl _) _).alloc (by simp) _
    have := trie_one w0 w2 hb2 (by
      rw [← hw2, Below.heap_alloc _ _ _ (by simp), ← HCS.out]
      exact heap_alloc_new w0 _) (by
      rw [← hw2, hB]
      have := heap_alloc_new (w0.alloc (.cells cs 79)) (.cells #[.slice (some ⟨B, 0, none⟩) 1 1, .slice none 0 0] 69)
      rw [show (w0.alloc (.cells cs 79)).heap.size = B + 1 by simp [hB]] at this
      exact this)
    rw [hB] at this hb2
    exact ⟨this, hb2⟩
  have HST := Hid.mk' hst
  clear hst h hg hnod hlen hzer hlenN hW hZ hWl
  go_enter Try.func27, Try.ntmps27
  go_wp2_with (first | (refine wpList_buildSlice rfl 66 79 1 _ rfl cs i0 (.agg ndZ) Try.underlying66 hi hz0 (by rw [hz1]; decide) (by rw [hz1]; decide) (by rw [Array.toList_map]; exact fill_node hz1 cs hcsz) ?_) | fail)
  clear hw2 hcs
  go_loopw [7, 14] (fun tv kv wr => ∃ (k g cn : Nat) (wv : Value), kv = .int .i64 (k : Int) ∧ k ≤ n ∧ Hid (TrieM B (B + 1) g wv cn (Mn.nsOf (W.take k)) (W.take k) wr ∧ Below B w0 wr)) (fun _ kv _ => n - (intOf kv).toNat)
  case atStart => exact ⟨0, B, 1, .slice none 0 0, rfl, Nat.zero_le _, by rw [List.take_zero]; exact HST⟩
  case round =>
    obtain ⟨k, g, cn, wv, rfl, hk, hs⟩ := hrel
    clear HST
    by_cases hkn : k < n
    · have hkI : (k : Int) < (n : Int) := by omega
      obtain ⟨x, hx⟩ : ∃ x, L.getD k ByteArray.empty = x := ⟨_, rfl⟩
      have hSr : StrAt wr p L := HS.out.keep (by rw [hB]; exact hs.out.2)
      obtain ⟨gp, off, rfl, hc⟩ := hSr k (by have := HX.out.2.2.2.2.2.2; omega)
      obtain ⟨f1, f2, f3⟩ := HX.out.1.fits k (by have := HX.out.2.2.2.2.2.2; omega)
      have hWk := Mn.wds_get fold L k (by have := HX.out.2.2.2.2.2.2; omega)
      rw [hx] at hc f1 f2 f3 hWk
      rw [HX.out.2.1] at f3 hWk
      have hBs : B ≤ wr.heap.size := by have := hs.out.2.size; omega
      have hlk := HLN.out k hk
      have hfs := Mn.fd_size fold x
      have HNX : Hid (Mn.nsOf (W.take (k + 1)) = Mn.addP (Mn.nsOf (W.take k)) (Sums.bl (Mn.fd fold x)) (Mn.fd fold x).size ∧ W.take (k + 1) = W.take k ++ [Sums.bl (Mn.fd fold x)]) := by
        have h9 := take_next W k _ hWk
        refine ⟨?_, h9⟩
        rw [h9, Mn.nsOf_snoc, Sums.bl_length]
      have HAD := Hid.mk' (fun (w : World) (hw : TrieM B (B + 1) g wv cn (Mn.nsOf (W.take k)) (W.take k) w) (hb : B ≤ w.heap.size) => add_any B (B + 1) g cn wv (Mn.nsOf (W.take k)) (W.take k) (Mn.fd fold x) w hw (Mn.nsOf_tr _) Mn.nsOf_word f3 (by omega) (by omega) hlk (by rw [List.length_take, HX.out.2.2.1]; omega) hb)
      clear hx hSr f3 hWk hlk
      cases fold with
      | false =>
        have e : Mn.fd false x = x := rfl
        rw [e] at HAD HNX
        clear e
        go_wp2_with (first | (go_at_call 38; refine (HAD.out _ (by exact hs.out.1) hBs).mono ?_; rintro e w5 ⟨rfl, g5, cn5, wv5, ht5, hb5⟩; have HT5 := Hid.mk' (And.intro ht5 (hs.out.2.trans hb5)); clear ht5 hb5) | fail)
        go_roundw
        case rel =>
          refine ⟨k + 1, g5, cn5, wv5, by simp, by omega, ?_⟩
          rw [HNX.out.1, HNX.out.2]
          exact HT5
        case measure =>
          simp [intOf]
          omega
      | true =>
        have e : Mn.fd true x = Swar.foldL x := rfl
        rw [e] at HAD HNX
        clear e
        have HFO := Hid.mk' (fun w => fold_any x w (by omega))
        obtain ⟨y, hy⟩ : ∃ y, Swar.foldL x = y := ⟨_, rfl⟩
        rw [hy] at HAD HNX HFO
        clear hy hfs
        go_wp2_with (first | (go_at_call 34; refine (HFO.out _).mono ?_; rintro e w4 ⟨rfl, hb4⟩; have HT4 := Hid.mk' (And.intro (SetM.keep hs.out.1 hb4) (mb_up hs.out.2 hBs hb4)); have hBs4 : B ≤ w4.heap.size := Nat.le_trans hBs hb4.size; clear hb4) | (go_at_call 38; refine (HAD.out _ (by exact HT4.out.1) hBs4).mono ?_; rintro e w5 ⟨rfl, g5, cn5, wv5, ht5, hb5⟩; have HT5 := Hid.mk' (And.intro ht5 (HT4.out.2.trans hb5)); clear ht5 hb5) | fail)
        go_roundw
        case rel =>
          refine ⟨k + 1, g5, cn5, wv5, by simp, by omega, ?_⟩
          rw [HNX.out.1, HNX.out.2]
          exact HT5
        case measure =>
          simp [intOf]
          omega
    · have hkI : ¬ (k : Int) < (n : Int) := by omega
      have hWt : W.take k = W := List.take_of_length_le (by rw [HX.out.2.2.1]; omega)
      rw [hWt] at hs
      have hlk := HLN.out n (Nat.le_refl _)
      rw [List.take_of_length_le (by rw [HX.out.2.2.1]; exact Nat.le_refl _)] at hlk
      have hBs : B ≤ wr.heap.size := by have := hs.out.2.size; omega
      have HJN := Hid.mk' (join_any B (B + 1) g cn wv (Mn.nsOf W) W wr hs.out.1 (Mn.nsOf_tr W) Mn.nsOf_word HX.out.2.2.2.1 HX.out.2.2.2.2.2.1 (Mn.nsOf_byt (fun x hx => (HX.out.2.2.2.2.1 x hx).2.2)) (by omega) (by rw [HX.out.2.2.1]; exact hfew) (by rw [HX.out.2.2.1]; exact hsome) hBs)
      cases fold with
      | false =>
        clear hWt
        go_wp2_with (first | (go_at_call 39; refine HJN.out.mono ?_; rintro e w5 ⟨rfl, he5, hb5⟩; have HE5 := Hid.mk' (And.intro he5 (hs.out.2.trans hb5)); clear he5 hb5) | fail)
        go_ret
        refine ⟨B + 1, rfl, ?_, HE5.out.2⟩
        have h9 := HE5.out.1
        unfold EndM at h9
        obtain ⟨g2, cw, rfl⟩ := h9.wform (by rw [HX.out.2.2.1]; exact hsome)
        exact ⟨g, cn, g2, cw, h9⟩
      | true =>
        clear hWt
        go_wp2_with (first | (go_at_call 39; refine HJN.out.mono ?_; rintro e w5 ⟨rfl, he5, hb5⟩; have HE5 := Hid.mk' (And.intro he5 (hs.out.2.trans hb5)); have HCP := Hid.mk' (capitals_any w5 he5 (by omega)); clear he5 hb5) | (go_at_call 40; refine HCP.out.mono ?_; rintro e w6 ⟨rfl, he6, hb6⟩; have HE6 := Hid.mk' (And.intro he6 (HE5.out.2.trans hb6)); clear he6 hb6) | fail)
        go_ret
        refine ⟨B + 1, rfl, ?_, HE6.out.2⟩
        have h9 := HE6.out.1
        obtain ⟨g2, cw, rfl⟩ := h9.wform (by rw [HX.out.2.2.1]; exact hsome)
        exact ⟨g, cn, g2, cw, h9⟩
/-- what many.New tells: where a word may not be -/
theorem new_few (p : Option Addr) (n cap : Nat) (fold : Bool) (w : World) (h : n = 0 ∨ 64 < n) (hn : n ≤ 1125899906842624) :
    Calls Try.prog 9 #[.slice p n cap, .bool fold] w fun e w' => e = .returned (.tuple #[.pointer none, .int .i64 70, .int .i64 0]) ∧ w' = w := by
  by_cases h0 : n = 0
  · subst h0
    go_enter Try.func9, Try.ntmps9
    go_wp2
    go_ret3
    exact ⟨rfl, rfl⟩
  · have h0B : ((n : Int) == 0) = false := by simp; omega
    have h1 : (64 : Int) < (n : Int) := by omega
    have h1B : decide ((64 : Int) < (n : Int)) = true := by simp; omega
    clear h
    go_enter Try.func9, Try.ntmps9
    go_wp2
    go_ret3
    exact ⟨rfl, rfl⟩
set_option maxRecDepth 100000 in
set_option maxHeartbeats 2000000 in
theorem new_any (p : Option Addr) (cap : Nat) (L : List ByteArray) (fold : Bool) (w0 : World) (h : StrAt w0 p L) (h0 : 0 < L.length) (h64 : L.length ≤ 64) (hcap : L.length ≤ cap) (hcm : cap ≤ 9223372036854775807) (hsz : ∀ x ∈ L, x.size ≤ 1125899906842624) :
    Calls Try.prog 9 #[.slice p L.length cap, .bool fold] w0 fun e w' => Below w0.heap.size w0 w' ∧ ((∃ k, k < L.length ∧ Mn.bad fold L k = true ∧ (∀ j, j < k → Mn.bad fold L j = false) ∧ e = .returned (.tuple #[.pointer none, .int .i64 70, .int .i64 (k : Int)])) ∨ (Mn.Good fold L ∧ ∃ sb, e = .returned (.tuple #[.pointer (some ⟨sb, 0, none⟩), .int .i64 0, .int .i64 0]) ∧ ManyM w0.heap.size sb (Mn.wds fold L) fold w')) := by
  obtain ⟨n, hn⟩ : ∃ n, L.length = n := ⟨_, rfl⟩
  rw [hn] at h0 h64 hcap ⊢
  have HX := Hid.mk' (And.intro hn h)
  have h0B : ((n : Int) == 0) = false := by simp; omega
  have h1 : ¬ (64 : Int) < (n : Int) := by omega
  have h1B : decide ((64 : Int) < (n : Int)) = false := by simp; omega
  clear hn h
  go_enter Try.func9, Try.ntmps9
  go_wp2
  go_loopw [19] (fun kv wr => ∃ (k j : Nat), kv = .int .i64 (k : Int) ∧ k ≤ n ∧ Hid (∀ i, i < k → Mn.bad fold L i = false) ∧ wr = w0.drewN j) (fun kv _ => n - (intOf kv).toNat)
  case atStart => exact ⟨0, 0, rfl, Nat.zero_le _, fun i hi => by omega, rfl⟩
  case round =>
    obtain ⟨k, j, rfl, hk, hgo, rfl⟩ := hrel
    by_cases hkn : k < n
    · have hkI : (k : Int) < (n : Int) := by omega
      have hkc : (k : Int) ≤ (cap : Int) := by omega
      obtain ⟨x, hx⟩ : ∃ x, L.getD k ByteArray.empty = x := ⟨_, rfl⟩
      obtain ⟨g, off, rfl, hc⟩ := HX.out.2 k (by have := HX.out.1; omega)
      rw [hx] at hc
      have hc2 : (w0.drewN j).cell? ⟨g, off + k, none⟩ = some (.string x) := hc
      have hxs := hsz x (by
        rw [← hx, List.getD_eq_getElem?_getD, List.getElem?_eq_getElem (by have := HX.out.1; omega)]
        exact List.getElem_mem _)
      have HW := Hid.mk' (fun w => isWord_any x w hxs)
      have hbad : Mn.bad fold L k = (!Mn.word x || Mn.among fold (L.take k) x) := by unfold Mn.bad; rw [hx]
      have hAM : ∀ j, Calls Try.prog 26 #[.slice (some ⟨g, off, none⟩) (L.take k).length cap, .string x, .bool fold] (w0.drewN j) fun e w' => e = .returned (.bool (Mn.among fold (L.take k) x)) ∧ ∃ n, w' = (w0.drewN j).drewN n := fun j => isAmong_any (some ⟨g, off, none⟩) cap (L.take k) x fold (w0.drewN j) (HX.out.2.take k) (fun y hy => hsz y (List.mem_of_mem_take hy)) hxs (by rw [List.length_take]; omega)
      rw [List.length_take, HX.out.1, Nat.min_eq_left hk] at hAM
      obtain ⟨b1, hb1⟩ : ∃ b1, Mn.word x = b1 := ⟨_, rfl⟩
      obtain ⟨b2, hb2⟩ : ∃ b2, Mn.among fold (L.take k) x = b2 := ⟨_, rfl⟩
      rw [hb1] at HW hbad
      rw [hb2] at hbad
      simp only [hb2] at hAM
      have HAM := Hid.mk' hAM
      have HBD := Hid.mk' hbad
      clear hAM hbad hb1 hb2 hx hc
      cases b1 with
      | false =>
        go_wp2_with (first | (go_at_call 25; refine (HW.out _).mono ?_; rintro e w1 ⟨rfl, hw1⟩; have hw2 := hw1.symm; subst hw2) | fail)
        go_ret3
        exact ⟨(Below.refl _ _).drewN' j, .inl ⟨k, hkn, HBD.out, hgo.out, rfl⟩⟩
      | true =>
        cases b2 with
        | true =>
          go_wp2_with (first | (go_at_call 25; refine (HW.out _).mono ?_; rintro e w1 ⟨rfl, hw1⟩; have hw2 := hw1.symm; subst hw2) | (go_at_call 26; refine (HAM.out _).mono ?_; rintro e w1 ⟨rfl, nd, rfl⟩) | fail)
          go_ret3
          exact ⟨(Below.refl _ _).drewN' (j + nd), .inl ⟨k, hkn, HBD.out, hgo.out, rfl⟩⟩
        | false =>
          go_wp2_with (first | (go_at_call 25; refine (HW.out _).mono ?_; rintro e w1 ⟨rfl, hw1⟩; have hw2 := hw1.symm; subst hw2) | (go_at_call 26; refine (HAM.out _).mono ?_; rintro e w1 ⟨rfl, nd, rfl⟩) | fail)
          go_roundw
          case rel =>
            refine ⟨k + 1, j + nd, by simp, by omega, fun i hi => ?_, rfl⟩
            by_cases e : i = k
            · rw [e]
              exact HBD.out
            · exact hgo.out i (by omega)
          case measure =>
            simp [intOf]
            omega
    · have hkI : ¬ (k : Int) < (n : Int) := by omega
      have hke : k = n := by omega
      have HG : Hid (Mn.Good fold L) := ⟨by rw [HX.out.1]; exact h0, by rw [HX.out.1]; exact h64, fun i hi => hgo.out i (by rw [hke, ← HX.out.1]; exact hi)⟩
      have hBU : Calls Try.prog 27 #[.slice p L.length cap, .bool fold] (w0.drewN j) fun e w' => ∃ sb, e = .returned (.pointer (some ⟨sb, 0, none⟩)) ∧ ManyM w0.heap.size sb (Mn.wds fold L) fold w' ∧ Below w0.heap.size (w0.drewN j) w' := build_any p cap L fold (w0.drewN j) HX.out.2 HG.out
      rw [HX.out.1] at hBU
      have HBU := Hid.mk' hBU
      clear hBU hke hgo
      go_wp2_with (first | (go_at_call 27; refine HBU.out.mono ?_; rintro e w5 ⟨sb, rfl, hm5, hb5⟩; have HM5 := Hid.mk' (And.intro hm5 (((Below.refl w0.heap.size w0).drewN' j).trans hb5)); clear hm5 hb5) | fail)
      go_ret3
      exact ⟨HM5.out.2, .inr ⟨HG.out, sb, rfl, HM5.out.1⟩⟩
end Go.Proofs.Ytlbfnchjbpioeaa
