/-
  Images told apart; the law BlockBack. Conditions: as each says.
-/
import Derived.Test.YtlplbnlfajdcbaaGreatDoorBkQ
namespace Go.Proofs.YtlplbnlfajdcbaaGreatDoor
open Go.RowKit
set_option linter.unusedVariables false
set_option linter.unusedSimpArgs false
theorem str_eql (a b : ByteArray) (w : World) : (binOp .eql 9 (.string a) (.string b)).run Tryz.prog w = .ok (.bool (decide (a = b))) w := by
  by_cases h : a = b
  · subst h
    simp [go_sem]
  · have h2 : ¬ a.toList = b.toList := by
      intro e
      rw [ByteArray.toList_eq, ByteArray.toList_eq] at e
      exact h (ByteArray.ext (Array.toList_inj.1 e))
    simp [go_sem, h, h2]
theorem eql_headB (a b f g a' b' f' g' : Int) (w : World) : (binOp .eql 23 (hdV a b 0 0 0 f g 0 0) (hdV a' b' 0 0 0 f' g' 0 0)).run Tryz.prog w = .ok (.bool (decide (a = a' ∧ b = b' ∧ f = f' ∧ g = g'))) w := by
  have hi3 := Tryz.underlying3
  have hu := Tryz.underlying23
  have hst : Tryz.prog.underlying 23 = some (.struct (Tryz.prog.fieldsOf 23)) := by kernel_rfl
  obtain ⟨j, r1, r2, r3, r4⟩ := info_parts infoI
  unfold hdV
  rw [run_eql_struct, run_equalIn_struct w 9999 23 _ _ hst (by kernel_rfl)]
  have hfo := TypeDesc.struct.inj (Option.some.inj (hst.symm.trans hu))
  rw [hfo]
  simp [Op.eqFields, part, run_underlying hi3, typeInfo, sizeOf, r1, r2, r3, go_sem, run_equalIn_int _ 9998 3 .i64 .i64 _ _ hi3]
  by_cases e0 : a = a' <;> by_cases e1 : b = b' <;> by_cases e2 : f = f' <;> by_cases e3 : g = g' <;> simp [e0, e1, e2, e3]
theorem pkL_inj {s t : ByteArray} {g : Nat} (h : pkL s g = pkL t g) (hst : s.size = t.size) : s = t := by
  have h1 := packC_exp s (lvC s g) (lvC_tru s g) s.size (Nat.le_refl _)
  have h2 := packC_exp t (lvC t g) (lvC_tru t g) s.size (by omega)
  unfold pkL at h
  rw [h] at h1
  have h3 := h1.symm.trans h2
  unfold tup3 at h3
  simp at h3
  exact h3
theorem payT_inj {l m : List Rec.Ln} (hl : Fine l) (hm : Fine m) (h : payT l = payT m) : l = m := by
  have h1 := dec_pay l hl
  have h2 := dec_pay m hm
  rw [h] at h1
  have h3 := h1.trans h2.symm
  simp at h3
  exact h3
theorem wsL_lt (a b f g : Nat) (l : List Rec.Ln) (hl : Fine l) (ha : a ≤ 1152921504606846976) (hb : b ≤ 1152921504606846976) (hf : f ≤ 1152921504606846976) : ∀ k, k < 8 → (wsL a b f g l).getD k 0 < 256 ^ 8 := by
  have h1 := hl.len
  obtain ⟨x, hx, hmn⟩ := mn_in l hl.one
  obtain ⟨y, hy, hmx⟩ := mx_in l hl.one
  have b1 := bad_st (hl.all x hx)
  have b2 := bad_st (hl.all y hy)
  have hP := payT_size l
  have hPs := hl.size
  have hps := pkL_size (payT l) g
  intro k hk
  rcases (show k = 0 ∨ k = 1 ∨ k = 2 ∨ k = 3 ∨ k = 4 ∨ k = 5 ∨ k = 6 ∨ k = 7 by omega) with rfl | rfl | rfl | rfl | rfl | rfl | rfl | rfl
  · show a < 256 ^ 8
    omega
  · show b < 256 ^ 8
    omega
  · show l.length < 256 ^ 8
    omega
  · show (Rec.mn l).toNat < 256 ^ 8
    omega
  · show (Rec.mx l).toNat < 256 ^ 8
    omega
  · show f < 256 ^ 8
    omega
  · show (payT l).size < 256 ^ 8
    omega
  · show (pkL (payT l) g).size < 256 ^ 8
    omega
theorem imgL_inj {a b f g a' b' f' g' : Nat} {l m : List Rec.Ln} (hl : Fine l) (hm : Fine m) (ha : a ≤ 1152921504606846976) (hb : b ≤ 1152921504606846976) (hf : f ≤ 1152921504606846976) (hg : g ≤ 2) (ha' : a' ≤ 1152921504606846976) (hb' : b' ≤ 1152921504606846976) (hf' : f' ≤ 1152921504606846976) (hg' : g' ≤ 2)
    (h : nums (imgL a b f g l) = nums (imgL a' b' f' g' m)) : (a = a' ∧ b = b' ∧ f = f' ∧ g = g') ∧ l = m := by
  have hw := wsL_lt a b f g l hl ha hb hf
  have hw' := wsL_lt a' b' f' g' m hm ha' hb' hf'
  have l1 : (wsL a b f g l).length = 8 := rfl
  have l2 : (wsL a' b' f' g' m).length = 8 := rfl
  have hby : ∀ ws p q, ∀ z ∈ smd (hdL ws p) ++ smd (Sums.bl q), z < 256 := by
    intro ws p q z hz
    rcases List.mem_append.1 hz with h1 | h1
    · exact smd_byt _ (hdL_byt _ _) z h1
    · exact smd_byt _ (Sums.bl_byt _) z h1
  have h1 : imgL a b f g l = imgL a' b' f' g' m := by
    have h2 := congrArg Sums.bl h
    rw [bl_nums _ (by unfold imgL; exact hby _ _ _), bl_nums _ (by unfold imgL; exact hby _ _ _)] at h2
    exact h2
  unfold imgL smd at h1
  rw [List.append_assoc, List.append_assoc] at h1
  obtain ⟨h2, h3⟩ := List.append_inj h1 (by rw [hdL_len _ _ l1, hdL_len _ _ l2])
  obtain ⟨-, h4⟩ := List.append_inj h3 (by rw [smL_len, smL_len])
  rw [hdL_eq _ _ l1, hdL_eq _ _ l2, List.append_assoc, List.append_assoc] at h2
  obtain ⟨-, h5⟩ := List.append_inj h2 rfl
  have hfl : ∀ ws : List Nat, ws.length = 8 → (ws.flatMap (fixL 8)).length = 64 := by
    intro ws hws
    have e := hdL_len ws 0 hws
    rw [hdL_eq _ _ hws] at e
    simp only [List.length_append, List.length_cons, List.length_nil] at e
    omega
  obtain ⟨h6, h7⟩ := List.append_inj h5 (by rw [hfl _ l1, hfl _ l2])
  have hk : ∀ k, k < 8 → (wsL a b f g l).getD k 0 = (wsL a' b' f' g' m).getD k 0 := by
    intro k hk
    rw [← leAt_flat _ k (by rw [l1]; exact hk) (hw k hk), ← leAt_flat _ k (by rw [l2]; exact hk) (hw' k hk), h6]
  have ea : a = a' := hk 0 (by decide)
  have eb : b = b' := hk 1 (by decide)
  have ef : f = f' := hk 5 (by decide)
  have er : (payT l).size = (payT m).size := hk 6 (by decide)
  have ep : (pkL (payT l) g).size = (pkL (payT m) g').size := hk 7 (by decide)
  have eg : g = g' := by
    simp at h7
    omega
  subst eg
  obtain ⟨h8, -⟩ := List.append_inj h4 (by rw [Sums.bl_length, Sums.bl_length]; exact ep)
  have h9 : pkL (payT l) g = pkL (payT m) g := by
    have e := congrArg nums h8
    rw [nums_bl, nums_bl] at e
    exact e
  exact ⟨⟨ea, eb, ef, rfl⟩, payT_inj hl hm (pkL_inj h9 er)⟩
end Go.Proofs.YtlplbnlfajdcbaaGreatDoor

namespace Go.Proofs.YtlplbnlfajdcbaaGreatDoor
open Go.RowKit
set_option linter.unusedVariables false
set_option linter.unusedSimpArgs false
theorem neq_head_same (a b c d e f g h i : Int) (w : World) : (binOp .neq 23 (.agg #[.int .i64 a, .int .i64 b, .int .i64 c, .int .i64 d, .int .i64 e, .int .i64 f, .int .i64 g, .int .i64 h, .int .i64 i]) (.agg #[.int .i64 a, .int .i64 b, .int .i64 c, .int .i64 d, .int .i64 e, .int .i64 f, .int .i64 g, .int .i64 h, .int .i64 i])).run Tryz.prog w = .ok (.bool false) w := by
  have hi3 := Tryz.underlying3
  have hu := Tryz.underlying23
  have hst : Tryz.prog.underlying 23 = some (.struct (Tryz.prog.fieldsOf 23)) := by kernel_rfl
  obtain ⟨j, r1, r2, r3, r4⟩ := info_parts infoI
  rw [run_neq_struct, run_equalIn_struct w 9999 23 _ _ hst (by kernel_rfl)]
  have hfo := TypeDesc.struct.inj (Option.some.inj (hst.symm.trans hu))
  rw [hfo]
  simp [Op.eqFields, part, run_underlying hi3, typeInfo, sizeOf, r1, r2, r3, go_sem, run_equalIn_int _ 9998 3 .i64 .i64 _ _ hi3]
theorem hdOf_made {a b f g : Nat} {l : List Rec.Ln} (hl : Fine l) (ha : a ≤ 1152921504606846976) (hb : b ≤ 1152921504606846976) (hf : f ≤ 1152921504606846976) (hg : g ≤ 2) :
    HdOf a b l.length (Rec.mn l).toNat (Rec.mx l).toNat f g (payT l).size (pkL (payT l) g).size l := by
  have h1 := hl.len
  obtain ⟨x, hx, hmn⟩ := mn_in l hl.one
  obtain ⟨y, hy, hmx⟩ := mx_in l hl.one
  have b1 := bad_st (hl.all x hx)
  have b2 := bad_st (hl.all y hy)
  have hP := payT_size l
  have hPs := hl.size
  have hps := pkL_size (payT l) g
  have hpp := pkL_pos (payT l) g
  have hle := Rec.len_le l
  have hmm := (mn_mx l hl.one).1
  have ho := hl.one
  have hsz : 1 ≤ Rec.szF l := by unfold Rec.szF; omega
  refine ⟨⟨ha, hb, ho, h1, by omega, by omega, by omega, hf, by omega, by omega, hpp, by omega⟩, hl, hg, rfl, by omega, by omega, rfl, rfl⟩
theorem madeB2 (h0 h1 h2 h3 h4 h5 h6 h7 h8 : Int) (v : Value) (l : List Rec.Ln) (hl : l.length ≤ 1125899906842624) (hls : (∀ x ∈ l, -9223372036854775808 ≤ x.1 ∧ x.1 ≤ 9223372036854775807 ∧ x.2.size ≤ 140737488351232)) (qh0 : -9223372036854775808 ≤ h0 ∧ h0 ≤ 9223372036854775807) (qh1 : -9223372036854775808 ≤ h1 ∧ h1 ≤ 9223372036854775807) (qh5 : -9223372036854775808 ≤ h5 ∧ h5 ≤ 9223372036854775807) (qh6 : -9223372036854775808 ≤ h6 ∧ h6 ≤ 9223372036854775807) :
    ∃ (a b c d e f g h i : Nat) (L : List Rec.Ln), HdOf a b c d e f g h i L ∧ ∀ w, LsAt v l w → Calls Tryz.prog 21 #[.agg #[.int .i64 h0, .int .i64 h1, .int .i64 h2, .int .i64 h3, .int .i64 h4, .int .i64 h5, .int .i64 h6, .int .i64 h7, .int .i64 h8], v] w fun r w' => ∃ p cc, r = .returned (.tuple #[.agg #[.int .i64 (a : Int), .int .i64 (b : Int), .int .i64 0, .int .i64 0, .int .i64 0, .int .i64 (f : Int), .int .i64 (g : Int), .int .i64 0, .int .i64 0], .slice p c cc]) ∧ LsAt (.slice p c cc) L w' ∧ Below w.heap.size w w' := by
  have p0 := pkB_lt h0 1152921504606846977 (by decide)
  have p1 := pkB_lt h1 1152921504606846977 (by decide)
  have p5 := pkB_lt h5 1152921504606846977 (by decide)
  have p6 := pkB_lt h6 3 (by decide)
  exact ⟨pkB h0 1152921504606846977, pkB h1 1152921504606846977, _, _, _, pkB h5 1152921504606846977, pkB h6 3, _, _, madeL l, hdOf_made (made_fine l) (by omega) (by omega) (by omega) (by omega), fun w hv => made_any h0 h1 h2 h3 h4 h5 h6 h7 h8 v l w hv hl hls qh0 qh1 qh5 qh6⟩
set_option maxHeartbeats 8000000 in
set_option maxRecDepth 100000 in
theorem blockBack_any (h0 h1 h2 h3 h4 h5 h6 h7 h8 : Int) (v1 : Value) (l : List Rec.Ln) (w : World)
    (qh0 : -9223372036854775808 ≤ h0 ∧ h0 ≤ 9223372036854775807) (qh1 : -9223372036854775808 ≤ h1 ∧ h1 ≤ 9223372036854775807) (qh5 : -9223372036854775808 ≤ h5 ∧ h5 ≤ 9223372036854775807) (qh6 : -9223372036854775808 ≤ h6 ∧ h6 ≤ 9223372036854775807) (hv1 : LsAt v1 l w) (hl : l.length ≤ 1125899906842624) (hls : (∀ x ∈ l, -9223372036854775808 ≤ x.1 ∧ x.1 ≤ 9223372036854775807 ∧ x.2.size ≤ 140737488351232)) (ht : Tab w) :
    Calls Tryz.prog 5 #[.agg #[.int .i64 h0, .int .i64 h1, .int .i64 h2, .int .i64 h3, .int .i64 h4, .int .i64 h5, .int .i64 h6, .int .i64 h7, .int .i64 h8], v1] w fun e w' => e = .returned (.bool true) ∧ Below w.heap.size w w' := by
  obtain ⟨a, b, c, d, e, f, g, h, i, L, ho, hmd⟩ := madeB2 h0 h1 h2 h3 h4 h5 h6 h7 h8 v1 l hl hls qh0 qh1 qh5 qh6
  have ok := ho.ok
  have him : imgL a b f g L = imgH a b c d e f g h i L := imgH_of ho
  have hlen := imgH_len ho
  have hse : ∀ (c' d' e' h' i' : Int) v W, LsAt v L W → Tab W → Calls Tryz.prog 12 #[.agg #[.int .i64 (a : Int), .int .i64 (b : Int), .int .i64 c', .int .i64 d', .int .i64 e', .int .i64 (f : Int), .int .i64 (g : Int), .int .i64 h', .int .i64 i'], v] W fun r w' => r = .returned (.tuple #[.string (nums (imgH a b c d e f g h i L)), .nilIface]) ∧ Below W.heap.size W w' := fun c' d' e' h' i' v W hv hW => by
    have := seal_ok a b f g c' d' e' h' i' v L W hv ho.fine ok.a1 ok.b1 ok.f1 ho.g2 hW
    rw [him] at this
    exact this
  have hs1 := hse 0 0 0 0 0
  have hs2 := hse c d e h i
  have hop : ∀ W, Tab W → Calls Tryz.prog 18 #[.string (nums (imgH a b c d e f g h i L))] W fun r w' => ∃ v, r = .returned (.tuple #[.agg #[.int .i64 (a : Int), .int .i64 (b : Int), .int .i64 (c : Int), .int .i64 (d : Int), .int .i64 (e : Int), .int .i64 (f : Int), .int .i64 (g : Int), .int .i64 (h : Int), .int .i64 (i : Int)], v, .nilIface]) ∧ w'.ownsRow W.heap.size 26 2 v L.length (lnV L) ∧ Below W.heap.size W w' := fun W hW => open_ok a b c d e f g h i L W ho hW
  have hlo : ∀ W, Tab W → Calls Tryz.prog 16 #[.string (nums (imgH a b c d e f g h i L))] W fun r w' => r = .returned (.tuple #[.agg #[.int .i64 (a : Int), .int .i64 (b : Int), .int .i64 (c : Int), .int .i64 (d : Int), .int .i64 (e : Int), .int .i64 (f : Int), .int .i64 (g : Int), .int .i64 (h : Int), .int .i64 (i : Int)], .nilIface]) ∧ Below W.heap.size W w' := fun W hW => look_ok a b c d e f h i g _ (smd_byt _ (Sums.bl_byt _)) (by rw [smd_len, Sums.bl_length, ho.i]; have := ok.i1; omega) W ok ho.g2 hW
  have hsm : ∀ u1 u2 W, LsAt u1 L W → LsAt u2 L W → Calls Tryz.prog 19 #[u1, u2] W fun e w' => e = .returned (.bool true) ∧ ∃ k, w' = W.drewN k := fun u1 u2 W h1 h2 => by
    have := sameLines_any u1 u2 L L W h1 h2 (by have := ho.fine.len; omega) (by have := ho.fine.len; omega)
    rw [decide_eq_true rfl] at this
    exact this
  have hsz : (nums (imgH a b c d e f g h i L)).size = 77 + i := by rw [nums_size, hlen]
  have hne := neq_head_same a b c d e f g h i
  have hel : ∀ k, k < c → (d : Int) ≤ (L.getD k (0, ⟨#[]⟩)).1 ∧ (L.getD k (0, ⟨#[]⟩)).1 ≤ (e : Int) := fun k hk => by
    have hm : L.getD k (0, ⟨#[]⟩) ∈ L := by
      rw [List.getD_eq_getElem?_getD, List.getElem?_eq_getElem (by rw [ho.c]; exact hk)]
      exact List.getElem_mem ..
    have h9 := (mn_mx L ho.fine.one).2 _ hm
    rw [ho.d, ho.e] at h9
    exact h9
  have hin : ∀ z : Int, (∃ x ∈ L, z = x.1) → ∃ j, j < c ∧ (L.getD j (0, ⟨#[]⟩)).1 = z := fun z hz => by
    obtain ⟨x, hx, rfl⟩ := hz
    obtain ⟨j, hj, rfl⟩ := List.mem_iff_getElem.1 hx
    refine ⟨j, by rw [← ho.c]; exact hj, ?_⟩
    rw [List.getD_eq_getElem?_getD, List.getElem?_eq_getElem hj]
    rfl
  have hmn := hin d (by have h9 := mn_in L ho.fine.one; rw [ho.d] at h9; exact h9)
  have hmx := hin e (by have h9 := mx_in L ho.fine.one; rw [ho.e] at h9; exact h9)
  have hcb : c ≤ 131072 := ok.c1
  have hdb : d ≤ 253402300799999 := ok.d1
  have heb : e ≤ 253402300799999 := ok.e1
  have hib : i ≤ 131602 := ok.i1
  have hLc := ho.c
  rw [hLc] at hop
  obtain ⟨s, hs⟩ : ∃ s, nums (imgH a b c d e f g h i L) = s := ⟨_, rfl⟩
  rw [hs] at hs1 hs2 hop hlo hsz
  have hszI : (s.size : Int) = 77 + (i : Int) := by omega
  have HSZ := Hid.mk' hszI
  have HS1 := Hid.mk' hs1
  have HS2 := Hid.mk' hs2
  have HOP := Hid.mk' hop
  have HLO := Hid.mk' hlo
  have HSM := Hid.mk' hsm
  have HMD := Hid.mk' hmd
  have HEL := Hid.mk' hel
  have HMN := Hid.mk' hmn
  have HMX := Hid.mk' hmx
  have HNE := Hid.mk' hne
  have HLC := Hid.mk' hLc
  have HKN := Hid.mk' (fun W (hW : Tab W) => known_any W hW)
  obtain ⟨B, hB⟩ : ∃ B, w.heap.size = B := ⟨_, rfl⟩
  obtain ⟨w0, hw0⟩ : ∃ w0, w.alloc (.cells #[.int .i64 h0, .int .i64 h1, .int .i64 h2, .int .i64 h3, .int .i64 h4, .int .i64 h5, .int .i64 h6, .int .i64 h7, .int .i64 h8] 23) = w0 := ⟨_, rfl⟩
  have HA : Hid (∀ X, Below w0.heap.size w0 X → X.heap[B]? = some (.cells #[.int .i64 h0, .int .i64 h1, .int .i64 h2, .int .i64 h3, .int .i64 h4, .int .i64 h5, .int .i64 h6, .int .i64 h7, .int .i64 h8] 23 (0, 0)) ∧ LsAt v1 l X ∧ Tab X ∧ Below w.heap.size w X) := by
    have z2 : w0.heap.size = B + 1 := by rw [← hw0, World.size_alloc, hB]
    have z3 : Below B w w0 := by
      rw [← hw0]
      exact (Below.refl B w).alloc (by omega) _
    have z4 : w0.heap[B]? = some (.cells #[.int .i64 h0, .int .i64 h1, .int .i64 h2, .int .i64 h3, .int .i64 h4, .int .i64 h5, .int .i64 h6, .int .i64 h7, .int .i64 h8] 23 (0, 0)) := by
      rw [← hw0, ← hB]
      exact heap_alloc_new _ _
    intro X hX
    have z6 : Below w.heap.size w X := by rw [hB]; exact z3.trans (hX.mono (by omega))
    exact ⟨(hX.block B (by omega)).trans z4, hv1.below z6, ht.below z6, z6⟩
  clear hv1 hl hls qh0 qh1 qh5 qh6 ht hmd hse hs1 hs2 hop hlo hsm hs hsz hszI hne hel hin hmn hmx him hlen ho ok hLc
  go_enter Tryz.func5, Tryz.ntmps5
  go_upto_region 2 with (go_at_call 9; refine (HKN.out w0 (HA.out w0 (Below.refl _ _)).2.2.1).mono ?_; rintro r w1 ⟨rfl, hb1⟩; have HB1 := Hid.mk' hb1; clear hb1)
  have p0 := cell_at (k := 0) (HA.out w1 HB1.out).1 rfl
  have p1 := cell_at (k := 1) (HA.out w1 HB1.out).1 rfl
  have p2 := cell_at (k := 2) (HA.out w1 HB1.out).1 rfl
  have p3 := cell_at (k := 3) (HA.out w1 HB1.out).1 rfl
  have p4 := cell_at (k := 4) (HA.out w1 HB1.out).1 rfl
  have p5 := cell_at (k := 5) (HA.out w1 HB1.out).1 rfl
  have p6 := cell_at (k := 6) (HA.out w1 HB1.out).1 rfl
  have p7 := cell_at (k := 7) (HA.out w1 HB1.out).1 rfl
  have p8 := cell_at (k := 8) (HA.out w1 HB1.out).1 rfl
  go_upto_region 3 with (go_at_call 21; refine (HMD.out w1 (HA.out w1 HB1.out).2.1).mono ?_; rintro r w2 ⟨n1, c1, rfl, hv2, hb2⟩; have HB2 := Hid.mk' (HB1.out.trans (hb2.mono HB1.out.size)); have HV2 := Hid.mk' hv2; clear hb2 hv2)
  clear p0 p1 p2 p3 p4 p5 p6 p7 p8
  obtain ⟨C, hC⟩ : ∃ C, w2.heap.size = C := ⟨_, rfl⟩
  obtain ⟨w3, hww3⟩ : ∃ w3, w2.alloc (.cells #[.int .i64 (a : Int), .int .i64 (b : Int), .int .i64 0, .int .i64 0, .int .i64 0, .int .i64 (f : Int), .int .i64 (g : Int), .int .i64 0, .int .i64 0] 23) = w3 := ⟨_, rfl⟩
  have HX1 : Hid (∀ X, Below w3.heap.size w3 X → X.heap[C]? = some (.cells #[.int .i64 (a : Int), .int .i64 (b : Int), .int .i64 0, .int .i64 0, .int .i64 0, .int .i64 (f : Int), .int .i64 (g : Int), .int .i64 0, .int .i64 0] 23 (0, 0)) ∧ LsAt (.slice n1 c c1) L X ∧ Below w0.heap.size w0 X) := by
    have z1 : w3.heap[C]? = some (.cells #[.int .i64 (a : Int), .int .i64 (b : Int), .int .i64 0, .int .i64 0, .int .i64 0, .int .i64 (f : Int), .int .i64 (g : Int), .int .i64 0, .int .i64 0] 23 (0, 0)) := by
      rw [← hww3, ← hC]
      exact heap_alloc_new _ _
    have z2 : Below w2.heap.size w2 w3 := by
      rw [← hww3]
      exact (Below.refl _ _).alloc (Nat.le_refl _) _
    intro X hX
    have z3 : Below w2.heap.size w2 X := z2.trans (hX.mono z2.size)
    exact ⟨(hX.block C (Array.getElem?_eq_some_iff.1 z1).1).trans z1, HV2.out.below z3, HB2.out.trans (z3.mono HB2.out.size)⟩
  try rw [hww3]
  try rw [hC]
  clear hww3 hC HB2 HV2 HB1
  have p0 := cell_at (k := 0) (HX1.out w3 (Below.refl _ _)).1 rfl
  have p1 := cell_at (k := 1) (HX1.out w3 (Below.refl _ _)).1 rfl
  have p2 := cell_at (k := 2) (HX1.out w3 (Below.refl _ _)).1 rfl
  have p3 := cell_at (k := 3) (HX1.out w3 (Below.refl _ _)).1 rfl
  have p4 := cell_at (k := 4) (HX1.out w3 (Below.refl _ _)).1 rfl
  have p5 := cell_at (k := 5) (HX1.out w3 (Below.refl _ _)).1 rfl
  have p6 := cell_at (k := 6) (HX1.out w3 (Below.refl _ _)).1 rfl
  have p7 := cell_at (k := 7) (HX1.out w3 (Below.refl _ _)).1 rfl
  have p8 := cell_at (k := 8) (HX1.out w3 (Below.refl _ _)).1 rfl
  go_upto_region 4 with (go_at_call 12; refine (HS1.out _ w3 (HX1.out w3 (Below.refl _ _)).2.1 (HA.out w3 (HX1.out w3 (Below.refl _ _)).2.2).2.2.1).mono ?_; rintro r w4 ⟨rfl, hb4⟩; have HB4 := Hid.mk' hb4; clear hb4)
  clear p0 p1 p2 p3 p4 p5 p6 p7 p8
  go_upto_region 5 with (go_at_call 16; refine (HLO.out w4 (HA.out w4 (HX1.out w4 HB4.out).2.2).2.2.1).mono ?_; rintro r w5 ⟨rfl, hb5⟩; have HB5 := Hid.mk' (HB4.out.trans (hb5.mono HB4.out.size)); clear hb5)
  have HB5x : Hid (Below w0.heap.size w0 w5) := (HX1.out w5 HB5.out).2.2
  obtain ⟨D, hD⟩ : ∃ D, w5.heap.size = D := ⟨_, rfl⟩
  obtain ⟨w6, hww6⟩ : ∃ w6, w5.alloc (.cells #[.int .i64 (a : Int), .int .i64 (b : Int), .int .i64 (c : Int), .int .i64 (d : Int), .int .i64 (e : Int), .int .i64 (f : Int), .int .i64 (g : Int), .int .i64 (h : Int), .int .i64 (i : Int)] 23) = w6 := ⟨_, rfl⟩
  have HX2 : Hid (∀ X, Below w6.heap.size w6 X → X.heap[D]? = some (.cells #[.int .i64 (a : Int), .int .i64 (b : Int), .int .i64 (c : Int), .int .i64 (d : Int), .int .i64 (e : Int), .int .i64 (f : Int), .int .i64 (g : Int), .int .i64 (h : Int), .int .i64 (i : Int)] 23 (0, 0)) ∧ (X.heap[C]? = some (.cells #[.int .i64 (a : Int), .int .i64 (b : Int), .int .i64 0, .int .i64 0, .int .i64 0, .int .i64 (f : Int), .int .i64 (g : Int), .int .i64 0, .int .i64 0] 23 (0, 0)) ∧ LsAt (.slice n1 c c1) L X) ∧ Below w0.heap.size w0 X) := by
    have z1 : w6.heap[D]? = some (.cells #[.int .i64 (a : Int), .int .i64 (b : Int), .int .i64 (c : Int), .int .i64 (d : Int), .int .i64 (e : Int), .int .i64 (f : Int), .int .i64 (g : Int), .int .i64 (h : Int), .int .i64 (i : Int)] 23 (0, 0)) := by
      rw [← hww6, ← hD]
      exact heap_alloc_new _ _
    have z2 : Below w5.heap.size w5 w6 := by
      rw [← hww6]
      exact (Below.refl _ _).alloc (Nat.le_refl _) _
    intro X hX
    have z3 : Below w5.heap.size w5 X := z2.trans (hX.mono z2.size)
    exact ⟨(hX.block D (Array.getElem?_eq_some_iff.1 z1).1).trans z1, ⟨(HX1.out X (HB5.out.trans (z3.mono HB5.out.size))).1, (HX1.out X (HB5.out.trans (z3.mono HB5.out.size))).2.1⟩, HB5x.out.trans (z3.mono HB5x.out.size)⟩
  try rw [hww6]
  try rw [hD]
  clear hww6 hD HB5 HB5x HB4 HX1
  go_upto_region 6 with (go_at_call 18; refine (HOP.out w6 (HA.out w6 (HX2.out w6 (Below.refl _ _)).2.2).2.2.1).mono ?_; rintro r w7 ⟨vv, rfl, hv7, hb7⟩; obtain ⟨n2, c2, rfl⟩ := row_shape hv7; have HV7 : Hid (LsAt (.slice n2 c c2) L w7) := (by rw [← HLC.out] at hv7 ⊢; exact own_ls hv7); have HB7 := Hid.mk' hb7; clear hb7 hv7)
  have HB7x : Hid (Below w0.heap.size w0 w7) := (HX2.out w7 HB7.out).2.2
  obtain ⟨E, hE⟩ : ∃ E, w7.heap.size = E := ⟨_, rfl⟩
  obtain ⟨w8, hww8⟩ : ∃ w8, w7.alloc (.cells #[.int .i64 (a : Int), .int .i64 (b : Int), .int .i64 (c : Int), .int .i64 (d : Int), .int .i64 (e : Int), .int .i64 (f : Int), .int .i64 (g : Int), .int .i64 (h : Int), .int .i64 (i : Int)] 23) = w8 := ⟨_, rfl⟩
  have HX3 : Hid (∀ X, Below w8.heap.size w8 X → X.heap[E]? = some (.cells #[.int .i64 (a : Int), .int .i64 (b : Int), .int .i64 (c : Int), .int .i64 (d : Int), .int .i64 (e : Int), .int .i64 (f : Int), .int .i64 (g : Int), .int .i64 (h : Int), .int .i64 (i : Int)] 23 (0, 0)) ∧ (X.heap[D]? = some (.cells #[.int .i64 (a : Int), .int .i64 (b : Int), .int .i64 (c : Int), .int .i64 (d : Int), .int .i64 (e : Int), .int .i64 (f : Int), .int .i64 (g : Int), .int .i64 (h : Int), .int .i64 (i : Int)] 23 (0, 0)) ∧ X.heap[C]? = some (.cells #[.int .i64 (a : Int), .int .i64 (b : Int), .int .i64 0, .int .i64 0, .int .i64 0, .int .i64 (f : Int), .int .i64 (g : Int), .int .i64 0, .int .i64 0] 23 (0, 0)) ∧ LsAt (.slice n1 c c1) L X ∧ LsAt (.slice n2 c c2) L X) ∧ Below w0.heap.size w0 X) := by
    have z1 : w8.heap[E]? = some (.cells #[.int .i64 (a : Int), .int .i64 (b : Int), .int .i64 (c : Int), .int .i64 (d : Int), .int .i64 (e : Int), .int .i64 (f : Int), .int .i64 (g : Int), .int .i64 (h : Int), .int .i64 (i : Int)] 23 (0, 0)) := by
      rw [← hww8, ← hE]
      exact heap_alloc_new _ _
    have z2 : Below w7.heap.size w7 w8 := by
      rw [← hww8]
      exact (Below.refl _ _).alloc (Nat.le_refl _) _
    intro X hX
    have z3 : Below w7.heap.size w7 X := z2.trans (hX.mono z2.size)
    exact ⟨(hX.block E (Array.getElem?_eq_some_iff.1 z1).1).trans z1, ⟨(HX2.out X (HB7.out.trans (z3.mono HB7.out.size))).1, (HX2.out X (HB7.out.trans (z3.mono HB7.out.size))).2.1.1, (HX2.out X (HB7.out.trans (z3.mono HB7.out.size))).2.1.2, HV7.out.below z3⟩, HB7x.out.trans (z3.mono HB7x.out.size)⟩
  try rw [hww8]
  try rw [hE]
  clear hww8 hE HB7 HB7x HV7 HX2
  have p0 := cell_at (k := 0) (HX3.out w8 (Below.refl _ _)).1 rfl
  have p1 := cell_at (k := 1) (HX3.out w8 (Below.refl _ _)).1 rfl
  have p2 := cell_at (k := 2) (HX3.out w8 (Below.refl _ _)).1 rfl
  have p3 := cell_at (k := 3) (HX3.out w8 (Below.refl _ _)).1 rfl
  have p4 := cell_at (k := 4) (HX3.out w8 (Below.refl _ _)).1 rfl
  have p5 := cell_at (k := 5) (HX3.out w8 (Below.refl _ _)).1 rfl
  have p6 := cell_at (k := 6) (HX3.out w8 (Below.refl _ _)).1 rfl
  have p7 := cell_at (k := 7) (HX3.out w8 (Below.refl _ _)).1 rfl
  have p8 := cell_at (k := 8) (HX3.out w8 (Below.refl _ _)).1 rfl
  have q0 := cell_at (k := 0) (HX3.out w8 (Below.refl _ _)).2.1.1 rfl
  have q1 := cell_at (k := 1) (HX3.out w8 (Below.refl _ _)).2.1.1 rfl
  have q2 := cell_at (k := 2) (HX3.out w8 (Below.refl _ _)).2.1.1 rfl
  have q3 := cell_at (k := 3) (HX3.out w8 (Below.refl _ _)).2.1.1 rfl
  have q4 := cell_at (k := 4) (HX3.out w8 (Below.refl _ _)).2.1.1 rfl
  have q5 := cell_at (k := 5) (HX3.out w8 (Below.refl _ _)).2.1.1 rfl
  have q6 := cell_at (k := 6) (HX3.out w8 (Below.refl _ _)).2.1.1 rfl
  have q7 := cell_at (k := 7) (HX3.out w8 (Below.refl _ _)).2.1.1 rfl
  have q8 := cell_at (k := 8) (HX3.out w8 (Below.refl _ _)).2.1.1 rfl
  have r0 := cell_at (k := 0) (HX3.out w8 (Below.refl _ _)).2.1.2.1 rfl
  have r1 := cell_at (k := 1) (HX3.out w8 (Below.refl _ _)).2.1.2.1 rfl
  have r2 := cell_at (k := 2) (HX3.out w8 (Below.refl _ _)).2.1.2.1 rfl
  have r3 := cell_at (k := 3) (HX3.out w8 (Below.refl _ _)).2.1.2.1 rfl
  have r4 := cell_at (k := 4) (HX3.out w8 (Below.refl _ _)).2.1.2.1 rfl
  have r5 := cell_at (k := 5) (HX3.out w8 (Below.refl _ _)).2.1.2.1 rfl
  have r6 := cell_at (k := 6) (HX3.out w8 (Below.refl _ _)).2.1.2.1 rfl
  have r7 := cell_at (k := 7) (HX3.out w8 (Below.refl _ _)).2.1.2.1 rfl
  have r8 := cell_at (k := 8) (HX3.out w8 (Below.refl _ _)).2.1.2.1 rfl
  have hne := HNE.out
  go_upto_region 9 with (go_at_call 19; refine (HSM.out _ _ w8 (HX3.out w8 (Below.refl _ _)).2.1.2.2.1 (HX3.out w8 (Below.refl _ _)).2.1.2.2.2).mono ?_; rintro r w9 ⟨rfl, nq9, hw9⟩; have HB9 : Hid (Below w8.heap.size w8 w9) := (by rw [hw9]; exact (Below.refl _ _).drewN' nq9); clear hw9)
  clear p0 p1 p2 p3 p4 p5 p6 p7 p8 q0 q1 q2 q3 q4 q5 q6 q7 q8 r0 r1 r2 r3 r4 r5 r6 r7 r8
  clear hne
  have HC : Hid (∀ X, Below w8.heap.size w8 X → ∀ k, k < c → ∃ qb off x t, n1 = some ⟨qb, off, none⟩ ∧ L.getD k (0, ⟨#[]⟩) = (x, t) ∧ X.cell? ⟨qb, off + k * 2, none⟩ = some (.int .i64 x)) := fun X hX k hk => by
    obtain ⟨ad, cp, hv, k1⟩ := (HX3.out X hX).2.1.2.2.1
    obtain ⟨qb, off, rfl, _, hcc⟩ := k1 (by rw [HLC.out]; omega)
    cases hv
    exact ⟨qb, off, _, _, rfl, rfl, (hcc k (by rw [HLC.out]; exact hk)).1⟩
  go_wp2_with fail
  go_loopw [16, 17, 18] (fun s16 s17 s18 wr => ∃ (k : Nat) (p q : Bool), s16 = .bool p ∧ s17 = .bool q ∧ s18 = .int .i64 (k : Int) ∧ k ≤ c ∧ Hid (Below w8.heap.size w8 wr ∧ (p = true ↔ ∃ j, j < k ∧ (L.getD j (0, ⟨#[]⟩)).1 = (d : Int)) ∧ (q = true ↔ ∃ j, j < k ∧ (L.getD j (0, ⟨#[]⟩)).1 = (e : Int)))) (fun _ _ s18 _ => c - (intOf s18).toNat)
  case atStart => exact ⟨0, false, false, rfl, rfl, rfl, by omega, HB9.out, by simp, by simp⟩
  case round =>
    obtain ⟨k, p, q, rfl, rfl, rfl, hkc, HR⟩ := hrel
    rename World => wr
    by_cases hlt : k < c
    · obtain ⟨qb, off, x, t, rfl, hx, hcx⟩ := HC.out wr HR.out.1 k hlt
      have hxe := HEL.out k hlt
      rw [hx] at hxe
      have HXX := Hid.mk' hx
      have hx1 : ¬ x < (d : Int) := by have := hxe.1; simp only at this; omega
      have hx2 : ¬ (e : Int) < x := by have := hxe.2; simp only at this; omega
      have k0 : (0 : Int) ≤ (k : Int) := by omega
      have k1 : (k : Int) < (c : Int) := by omega
      have p3 := cell_at (k := 3) (HX3.out wr HR.out.1).1 rfl
      have p4 := cell_at (k := 4) (HX3.out wr HR.out.1).1 rfl
      have HLT := Hid.mk' hlt
      have HPQ : Hid (∀ z : Int, ∀ r : Bool, (r = true ↔ ∃ j, j < k ∧ (L.getD j (0, ⟨#[]⟩)).1 = z) → ((r || (x == z)) = true ↔ ∃ j, j < k + 1 ∧ (L.getD j (0, ⟨#[]⟩)).1 = z)) := fun z r hr => by
        rw [Bool.or_eq_true, hr, beq_iff_eq]
        constructor
        · rintro (⟨j, h1, h2⟩ | h1)
          · exact ⟨j, by omega, h2⟩
          · exact ⟨k, by omega, by rw [HXX.out]; exact h1⟩
        · rintro ⟨j, h1, h2⟩
          by_cases hjk : j = k
          · right
            rw [hjk, HXX.out] at h2
            exact h2
          · exact .inl ⟨j, by omega, h2⟩
      have HN : Hid (Below w8.heap.size w8 wr ∧ ((p || (x == (d : Int))) = true ↔ ∃ j, j < k + 1 ∧ (L.getD j (0, ⟨#[]⟩)).1 = (d : Int)) ∧ ((q || (x == (e : Int))) = true ↔ ∃ j, j < k + 1 ∧ (L.getD j (0, ⟨#[]⟩)).1 = (e : Int))) := ⟨HR.out.1, HPQ.out _ _ HR.out.2.1, HPQ.out _ _ HR.out.2.2⟩
      clear hx hxe hlt hkc HR HPQ
      cases p <;> cases q
      all_goals
        go_wp2_with fail
        go_quiet (fail)
        go_wp2_with fail
        go_quiet (fail)
        go_wp2_with fail
        go_quiet (fail)
        go_wp2_with fail
        go_roundw
        case rel => exact ⟨k + 1, _, _, rfl, rfl, by go_num, HLT.out, by first | exact HN.out.1.drewN' _ | exact (HN.out.1.drewN' _).drewN' _ | exact ((HN.out.1.drewN' _).drewN' _).drewN' _, by simpa using HN.out.2.1, by simpa using HN.out.2.2⟩
        case measure => have := HLT.out; simp [intOf]; omega
    · have hkk : k = c := by omega
      have hp : p = true := HR.out.2.1.2 (by rw [hkk]; exact HMN.out)
      have hq : q = true := HR.out.2.2.2 (by rw [hkk]; exact HMX.out)
      have HBR := Hid.mk' HR.out.1
      subst hp
      subst hq
      have k1 : ¬ (k : Int) < (c : Int) := by omega
      clear HR hkk hlt hkc
      have p0 := cell_at (k := 0) (HX3.out wr HBR.out).1 rfl
      have p1 := cell_at (k := 1) (HX3.out wr HBR.out).1 rfl
      have p2 := cell_at (k := 2) (HX3.out wr HBR.out).1 rfl
      have p3 := cell_at (k := 3) (HX3.out wr HBR.out).1 rfl
      have p4 := cell_at (k := 4) (HX3.out wr HBR.out).1 rfl
      have p5 := cell_at (k := 5) (HX3.out wr HBR.out).1 rfl
      have p6 := cell_at (k := 6) (HX3.out wr HBR.out).1 rfl
      have p7 := cell_at (k := 7) (HX3.out wr HBR.out).1 rfl
      have p8 := cell_at (k := 8) (HX3.out wr HBR.out).1 rfl
      go_upto_region 19 with (go_at_call 12; refine (HS2.out _ wr (HX3.out wr HBR.out).2.1.2.2.2 (HA.out wr (HX3.out wr HBR.out).2.2).2.2.1).mono ?_; rintro r w10 ⟨rfl, hb10⟩; have HB10 := Hid.mk' (HBR.out.trans (hb10.mono HBR.out.size)); clear hb10)
      clear p0 p1 p2 p3 p4 p5 p6 p7 p8
      have p8 := cell_at (k := 8) (HX3.out w10 HB10.out).1 rfl
      have hszI := HSZ.out
      have HBL := Hid.mk' (HA.out w10 (HX3.out w10 HB10.out).2.2).2.2.2
      have hib0 : (0 : Int) ≤ (i : Int) := by omega
      go_wp2_with fail
      go_ret
      exact ⟨rfl, HBL.out⟩
end Go.Proofs.YtlplbnlfajdcbaaGreatDoor
