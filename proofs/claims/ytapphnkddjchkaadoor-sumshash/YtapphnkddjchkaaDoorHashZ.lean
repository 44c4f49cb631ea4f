/-
  What Write, Sum, Len of a Hash do, by what was written. Conditions: as each says.
-/
import Derived.Test.YtapphnkddjchkaaDoorWriteB
namespace Go.Proofs.YtapphnkddjchkaaDoor
open Go.RowKit
set_option linter.unusedVariables false
/-- only block g is written -/
structure Only (g : Nat) (w w' : World) : Prop where
  os : w'.os = w.os
  tape : w'.tape = w.tape
  output : w'.output = w.output
  size : w.heap.size ≤ w'.heap.size
  block : ∀ k, k < w.heap.size → k ≠ g → w'.heap[k]? = w.heap[k]?
theorem Put.only {g : Nat} {t : TypeId} {cs : List Value} {a b : World} (h : Put g t cs a b) : Only g a b := ⟨h.os, h.tape, h.output, by rw [h.size]; exact Nat.le_refl _, fun k _ hk => h.block k hk⟩
theorem Only.below {g B : Nat} {a b : World} (h : Only g a b) (hB : B ≤ g) (hs : B ≤ a.heap.size) : Below B a b := ⟨h.os, h.tape, h.output, h.size, fun k hk => h.block k (by omega) (by omega)⟩
def HashIs (g seed : Nat) (l : List Nat) (w : World) : Prop := ∃ f row wt, HashOf g seed l w f row wt
theorem HashIs.heap {g seed : Nat} {l : List Nat} {w w' : World} (h : HashIs g seed l w) (e : w'.heap[g]? = w.heap[g]?) : HashIs g seed l w' := by
  obtain ⟨f, row, wt, h⟩ := h
  exact ⟨f, row, wt, ⟨e.trans h.mem, h.len, h.byt, h.four, h.rest, h.less⟩⟩
theorem HashIs.drewN {g seed : Nat} {l : List Nat} {w : World} (h : HashIs g seed l w) (n : Nat) : HashIs g seed l (w.drewN n) := h.heap rfl
theorem HashIs.lt {g seed : Nat} {l : List Nat} {w : World} (h : HashIs g seed l w) : g < w.heap.size := by
  obtain ⟨f, row, wt, h⟩ := h
  exact (Array.getElem?_eq_some_iff.1 h.mem).1
theorem HashIs.below {g seed B : Nat} {l : List Nat} {w w' : World} (h : HashIs g seed l w) (hb : Below B w w') (hg : g < B) : HashIs g seed l w' := h.heap (hb.block g hg)
theorem HashIs.other {g k seed : Nat} {l : List Nat} {w w' : World} (h : HashIs g seed l w) (ho : Only k w w') (hg : g ≠ k) : HashIs g seed l w' := h.heap (ho.block g h.lt hg)
theorem four_ok (seed : Nat) (hq : seed < 4294967296) (l : List Nat) : FourLt (Sums.rows32 (Sums.begin32 seed) l).1 := rows_lt _ _ _ (Nat.le_refl _) (begin_lt seed hq)
theorem rest_len {g seed : Nat} {l : List Nat} {w : World} {f : Sums.Four} {row : List Nat} {wt : Nat} (h : HashOf g seed l w f row wt) : (Sums.rows32 (Sums.begin32 seed) l).2.length = wt := by
  rw [← h.rest, List.length_take, h.len]
  have := h.less
  omega
theorem rest_byt (seed : Nat) (f : Sums.Four) (n : Nat) : ∀ (l : List Nat) (f : Sums.Four), l.length ≤ n → (∀ z ∈ l, z < 256) → ∀ z ∈ (Sums.rows32 f l).2, z < 256 := by
  induction n with
  | zero => intro l f hl hb; rw [Sums.rows32_end f l (by omega)]; exact hb
  | succ n ih =>
      intro l f hl hb
      by_cases h : 16 ≤ l.length
      · rw [Sums.rows32_more f l h]
        exact ih _ _ (by rw [List.length_drop]; omega) (fun z hz => hb z (List.mem_of_mem_drop hz))
      · rw [Sums.rows32_end f l h]; exact hb
theorem write_any (g seed : Nat) (l : List Nat) (s : ByteArray) (w : World) (hq : seed < 4294967296) (hl : l.length + s.size < 9223372036854775808) (h : HashIs g seed l w) :
    Calls Tryd.prog 6 #[.pointer (some ⟨g, 0, none⟩), .string s] w fun e w' => e = .returned (.tuple #[]) ∧ HashIs g seed (l ++ Sums.bl s) w' ∧ Only g w w' := by
  obtain ⟨f, row, wt, H⟩ := h
  have hf : FourLt f := by rw [H.four]; exact four_ok seed hq l
  have ha := rows_append _ (Sums.bl s) l (Sums.begin32 seed) (Nat.le_refl _)
  rw [← H.four, ← H.rest] at ha
  have hlen : (l ++ Sums.bl s).length = l.length + s.size := by rw [List.length_append, Sums.bl_length]
  by_cases h0 : wt = 0
  · subst h0
    rw [List.take_zero, List.nil_append] at ha
    have hm : (Sums.rows32 f (Sums.bl s)).2.length < 16 := rows_rest _ _ _ (Nat.le_refl _)
    refine (write_at0 g seed f row l.length s w H.len hf hl H.mem).mono ?_
    rintro e w' ⟨he, P⟩
    refine ⟨he, ⟨(Sums.rows32 f (Sums.bl s)).1, laid row 0 (Sums.rows32 f (Sums.bl s)).2, (Sums.rows32 f (Sums.bl s)).2.length, ⟨?_, ?_, ?_, ?_, ?_, hm⟩⟩, P.only⟩
    · rw [hlen]; exact P.row
    · rw [laid_len _ _ _ (by rw [H.len]; omega)]; exact H.len
    · exact laid_byt H.byt (rest_byt seed f _ _ _ (Nat.le_refl _) (Sums.bl_byt s))
    · rw [ha]
    · rw [ha, laid_take0]
  · by_cases h1 : wt + s.size < 16
    · have hx : (row.take wt ++ Sums.bl s).length < 16 := by rw [List.length_append, List.length_take, Sums.bl_length, H.len]; omega
      rw [Sums.rows32_end f _ (by omega)] at ha
      refine (write_more g seed f row wt l.length s w H.len hl (by omega) h1 H.mem).mono ?_
      rintro e w' ⟨he, P⟩
      refine ⟨he, ⟨f, laid row wt (Sums.bl s), wt + s.size, ⟨?_, ?_, ?_, ?_, ?_, h1⟩⟩, P.only⟩
      · rw [hlen]; exact P.row
      · rw [laid_len _ _ _ (by rw [H.len, Sums.bl_length]; omega)]; exact H.len
      · exact laid_byt H.byt (Sums.bl_byt s)
      · rw [ha]
      · rw [ha, ← Sums.bl_length s, laid_take _ _ _ (by rw [H.len]; have := H.less; omega)]
    · have hless := H.less
      have hN : ((Sums.bl s).take (16 - wt)).length = 16 - wt := by rw [List.length_take, Sums.bl_length]; omega
      have hR : laid row wt ((Sums.bl s).take (16 - wt)) = row.take wt ++ (Sums.bl s).take (16 - wt) := by
        unfold laid
        rw [hN, List.drop_eq_nil_of_le (by rw [H.len]; omega), List.append_nil]
      have hx : 16 ≤ (row.take wt ++ Sums.bl s).length := by rw [List.length_append, List.length_take, Sums.bl_length, H.len]; omega
      have hwt : (row.take wt).length = wt := by rw [List.length_take, H.len]; omega
      have e1 : Sums.take32 f (row.take wt ++ Sums.bl s) = Sums.take32 f (laid row wt ((Sums.bl s).take (16 - wt))) := by
        rw [hR, ← take32_row f (row.take wt ++ Sums.bl s), List.take_append, hwt, List.take_of_length_le (by rw [hwt]; omega)]
      have e2 : (row.take wt ++ Sums.bl s).drop 16 = (Sums.bl s).drop (16 - wt) := by
        rw [List.drop_append, hwt, List.drop_eq_nil_of_le (by rw [hwt]; omega), List.nil_append]
      rw [Sums.rows32_more f _ hx, e1, e2] at ha
      have hm : (Sums.rows32 (Sums.take32 f (laid row wt ((Sums.bl s).take (16 - wt)))) ((Sums.bl s).drop (16 - wt))).2.length < 16 := rows_rest _ _ _ (Nat.le_refl _)
      have hRl : (laid row wt ((Sums.bl s).take (16 - wt))).length = 16 := by rw [laid_len _ _ _ (by rw [hN, H.len]; omega)]; exact H.len
      have hRb : ∀ z ∈ laid row wt ((Sums.bl s).take (16 - wt)), z < 256 := laid_byt H.byt (fun z hz => Sums.bl_byt s z (List.mem_of_mem_take hz))
      refine (write_full g seed f row wt l.length s w H.len H.byt hf hl (by omega) hless h1 H.mem).mono ?_
      rintro e w' ⟨he, P⟩
      refine ⟨he, ⟨(Sums.rows32 (Sums.take32 f (laid row wt ((Sums.bl s).take (16 - wt)))) ((Sums.bl s).drop (16 - wt))).1, laid (laid row wt ((Sums.bl s).take (16 - wt))) 0 (Sums.rows32 (Sums.take32 f (laid row wt ((Sums.bl s).take (16 - wt)))) ((Sums.bl s).drop (16 - wt))).2, (Sums.rows32 (Sums.take32 f (laid row wt ((Sums.bl s).take (16 - wt)))) ((Sums.bl s).drop (16 - wt))).2.length, ⟨?_, ?_, ?_, ?_, ?_, hm⟩⟩, P.only⟩
      · rw [hlen]; exact P.row
      · rw [laid_len _ _ _ (by rw [hRl]; omega)]; exact hRl
      · exact laid_byt hRb (rest_byt seed f _ _ _ (Nat.le_refl _) (fun z hz => Sums.bl_byt s z (List.mem_of_mem_drop hz)))
      · rw [ha]
      · rw [ha, laid_take0]
set_option maxHeartbeats 1000000 in
theorem sum_more (g seed : Nat) (f : Sums.Four) (row : List Nat) (wt len : Nat) (w : World) (hrow : row.length = 16) (hb : ∀ z ∈ row, z < 256) (hf : FourLt f) (hl : ¬ len < 16) (hn : len < 9223372036854775808) (hwt : wt ≤ 16) (h : w.heap[g]? = some (.cells (hashC seed f row wt len).toArray 48 (0, 0))) :
    Calls Tryd.prog 8 #[.pointer (some ⟨g, 0, none⟩)] w fun e w' => e = .returned (.int .u32 (Sums.last32 (Sums.merged32 f) len (row.take wt) : Nat)) ∧ ∃ n, w' = w.drewN n := by
  have hp := Put.refl h
  have c0 : w.cell? ⟨g, 0, none⟩ = some (.int .u32 (seed : Int)) := hp.cell _ (hashC_0 _ _ _ _ _)
  have c21 : w.cell? ⟨g, 21, none⟩ = some (.int .i64 (wt : Int)) := hp.cell _ (hashC_21 _ _ _ _ _ hrow)
  have c22 : w.cell? ⟨g, 22, none⟩ = some (.int .i64 (len : Int)) := hp.cell _ (hashC_22 _ _ _ _ _ hrow)
  have g1 : (16 : Int) ≤ (len : Int) := by omega
  have g2 : (wt : Int) ≤ 16 := by omega
  have hcv : ∀ n c, (convert 49 9 (.slice (some ⟨g, 5, none⟩) wt c)).run Tryd.prog (w.drewN n) = .ok (.string (rowStr row wt)) (w.drewN n) := fun n c => rowText w (w.drewN n) g seed f row wt len wt c hrow hwt (hp.drewN n)
  have HB := Hid.mk' (bl_rowStr row wt hb)
  have hz : (rowStr row wt).size ≤ maxLen := by
    rw [← Sums.bl_length, HB.out, List.length_take]
    unfold maxLen; omega
  have HP := Hid.mk' hp
  clear hp h
  go_enter Tryd.func8, Tryd.ntmps8
  go_wp2_with fail
  refine (merged_any g 1 f _ (fun j hj => by exact HP.out.cell _ (hashC_four seed f row wt len j hj)) hf).mono ?_
  rintro e w1 ⟨rfl, n1, rfl⟩
  have lm := merged_lt f
  clear hcv
  go_wp2_with fail
  have HP1 : Put g 48 (hashC seed f row wt len) (w.drewN n1) (w.drewN n1) := Put.refl (HP.out.drewN n1).row
  obtain ⟨w1, hw1⟩ : ∃ w1, w1 = w.drewN n1 := ⟨_, rfl⟩
  rw [← hw1] at HP1 ⊢
  have HW1 := Hid.mk' hw1
  clear hw1 c0 c21 c22 HP
  have c21 : w1.cell? ⟨g, 21, none⟩ = some (.int .i64 (wt : Int)) := HP1.cell _ (hashC_21 _ _ _ _ _ hrow)
  have c22 : w1.cell? ⟨g, 22, none⟩ = some (.int .i64 (len : Int)) := HP1.cell _ (hashC_22 _ _ _ _ _ hrow)
  have hcv : ∀ n c, (convert 49 9 (.slice (some ⟨g, 5, none⟩) wt c)).run Tryd.prog (w1.drewN n) = .ok (.string (rowStr row wt)) (w1.drewN n) := fun n c => rowText w1 (w1.drewN n) g seed f row wt len wt c hrow hwt (HP1.drewN n)
  clear HP1
  obtain ⟨S, HS⟩ : ∃ S, Hid (S = Sums.merged32 f) := ⟨_, Hid.mk' rfl⟩
  rw [← HS.out] at lm ⊢
  go_quiet ((go_at_call 19; exact Calls.quiet_of (last32_any S len (rowStr row wt) _ lm hn hz)))
  go_wp2_with fail
  go_ret
  refine ⟨ret_u32 (by rw [HB.out, HS.out]), n1 + nq, ?_⟩
  rw [HW1.out, World.drewN_drewN]
theorem sum_any (g seed : Nat) (l : List Nat) (w : World) (hq : seed < 4294967296) (hl : l.length < 9223372036854775808) (h : HashIs g seed l w) :
    Calls Tryd.prog 8 #[.pointer (some ⟨g, 0, none⟩)] w fun e w' => e = .returned (.int .u32 (Sums.xx32 seed l : Nat)) ∧ ∃ n, w' = w.drewN n := by
  obtain ⟨f, row, wt, H⟩ := h
  have hless := H.less
  by_cases h16 : l.length < 16
  · rw [xx32_short seed l h16]
    have e := H.rest
    rw [Sums.rows32_end _ l (by omega)] at e
    have := sum_less g seed f row wt l.length w H.len H.byt hq h16 (by omega) H.mem
    rw [e] at this
    exact this
  · rw [xx32_long seed l h16, ← H.four, ← H.rest]
    exact sum_more g seed f row wt l.length w H.len H.byt (by rw [H.four]; exact four_ok seed hq l) h16 hl (by omega) H.mem
theorem hlen_any (g seed : Nat) (l : List Nat) (w : World) (h : HashIs g seed l w) :
    Calls Tryd.prog 10 #[.pointer (some ⟨g, 0, none⟩)] w fun e w' => e = .returned (.int .i64 (l.length : Int)) ∧ w' = w := by
  obtain ⟨f, row, wt, H⟩ := h
  exact len_any g seed f row wt l.length w H.len H.mem
theorem fresh (g seed : Nat) (w : World) (h : w.heap[g]? = some (.cells (hashC seed (Sums.begin32 seed) (List.replicate 16 0) 0 0).toArray 48 (0, 0))) : HashIs g seed [] w :=
  ⟨_, _, _, ⟨h, by simp, fun z hz => by rw [(List.mem_replicate.1 hz).2]; decide, by rw [Sums.rows32_end _ _ (by decide)], by rw [Sums.rows32_end _ _ (by decide)]; rfl, by decide⟩⟩
theorem hnew_any (seed : Nat) (w : World) (hq : seed < 4294967296) :
    Calls Tryd.prog 5 #[.int .u32 (seed : Int)] w fun e w' => ∃ g, w.heap.size ≤ g ∧ e = .returned (.pointer (some ⟨g, 0, none⟩)) ∧ HashIs g seed [] w' ∧ Below w.heap.size w w' :=
  (new_any seed w hq).mono fun e w' ⟨g, hg, he, hm, hb⟩ => ⟨g, hg, he, fresh g seed w' hm, hb⟩
theorem infoH : (Tryd.prog.info? 48).map (·.size) = some 23 := by kernel_rfl
def freshC (seed : Nat) : List Value := hashC seed (Sums.begin32 seed) (List.replicate 16 0) 0 0
theorem freshC_size (seed : Nat) : (Tryd.prog.info? 48).map (·.size) = some (freshC seed).toArray.size := by
  rw [infoH, List.size_toArray, freshC, hashC_len _ _ _ _ _ (by simp)]
theorem freshC_one (seed : Nat) : (freshC seed).toArray.all (·.oneCell') = true := by
  refine Array.all_eq_true_iff_forall_mem.2 (fun v hv => ?_)
  have h : v ∈ freshC seed := by simpa using hv
  unfold freshC hashC byv at h
  rcases List.mem_append.1 h with h | h
  · rcases List.mem_append.1 h with h | h
    · simp only [List.mem_cons, List.not_mem_nil, or_false] at h
      rcases h with rfl | rfl | rfl | rfl | rfl <;> rfl
    · obtain ⟨z, _, rfl⟩ := List.mem_map.1 h
      rfl
  · simp only [List.mem_cons, List.not_mem_nil, or_false] at h
    rcases h with rfl | rfl <;> rfl
set_option maxHeartbeats 1000000 in
theorem reset_any (g seed : Nat) (l : List Nat) (w : World) (hq : seed < 4294967296) (h : HashIs g seed l w) :
    Calls Tryd.prog 7 #[.pointer (some ⟨g, 0, none⟩)] w fun e w' => e = .returned (.tuple #[]) ∧ HashIs g seed [] w' ∧ Only g w w' := by
  have hgl := h.lt
  obtain ⟨f, row, wt, H⟩ := h
  have c0 : w.cell? ⟨g, 0, none⟩ = some (.int .u32 (seed : Int)) := (Put.refl H.mem).cell _ (hashC_0 _ _ _ _ _)
  have HH := Hid.mk' H
  clear H
  go_enter Tryd.func7, Tryd.ntmps7
  go_wp2_with fail
  refine (new_any seed w hq).mono ?_
  rintro e w1 ⟨g2, hg2, rfl, hm, hb⟩
  have HM : Hid (w1.heap[g2]? = some (.cells (freshC seed).toArray 48 (0, 0))) := hm
  have HG : Hid (w1.heap[g]? = some (.cells (hashC seed f row wt l.length).toArray 48 (0, 0))) := (hb.block g hgl).trans HH.out.mem
  have hsz : (hashC seed f row wt l.length).toArray.size = (freshC seed).toArray.size := by
    rw [List.size_toArray, List.size_toArray, freshC, hashC_len _ _ _ _ _ HH.out.len, hashC_len _ _ _ _ _ (by simp)]
  have HS := Hid.mk' hsz
  have HB := Hid.mk' hb
  clear hm hb hsz
  go_wp2_with (first | (refine wpList_load_row rfl 48 _ rfl g2 rfl 48 _ _ _ HM.out Tryd.underlying48 rfl (freshC_size seed) ?_) | (refine wpList_store_row rfl 48 _ _ rfl g (freshC seed).toArray rfl rfl 48 _ HG.out (freshC_size seed) HS.out (freshC_one seed) ?_) | fail)
  go_end0
  refine ⟨rfl, fresh g seed _ (setRow_heap _ g _ _ 48 _ HG.out), ⟨HB.out.os, HB.out.tape, HB.out.output, ?_, fun k hk hkg => ?_⟩⟩
  · have := HB.out.size
    simpa [World.setRow] using this
  · rw [← HB.out.block k hk]
    simp only [World.setRow, Array.getElem?_modify]
    rw [if_neg (by omega)]
end Go.Proofs.YtapphnkddjchkaaDoor
