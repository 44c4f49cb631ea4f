/-
  The document's own ExpandOn answers as the program's. Conditions: as it says.
-/
import Derived.Test.YtkndpfpdanoalaaRefNx
import Derived.Test.YtkndpfpdanoalaaExp
import Derived.Test.YtkndpfpdanoalaaMk
namespace Go.Proofs.Ytkndpfpdanoalaa
open Go.RowKit
set_option linter.unusedVariables false
theorem ownM_shape {w : World} {base n : Nat} {v : Value} {xs : List Value} (h : OwnM w base v n xs) : ∃ b cap, v = .slice b n cap := by
  rcases h.2 with ⟨rfl, rfl⟩ | ⟨g, cap, cur, fz, rfl, _⟩
  · exact ⟨none, 0, rfl⟩
  · exact ⟨some ⟨g, 0, none⟩, cap, rfl⟩
theorem ownM_some {w : World} {base n : Nat} {v : Value} {xs : List Value} (h : OwnM w base v n xs) (h0 : 0 < n) : ∃ g cap, v = .slice (some ⟨g, 0, none⟩) n cap ∧ n ≤ cap := by
  rcases h.2 with ⟨_, h1⟩ | ⟨g, cap, cur, fz, rfl, _, _, _, h2, _⟩
  · omega
  · exact ⟨g, cap, rfl, h2⟩
/-- what holds at the head of the loop -/
structure Rx (s bef : ByteArray) (most base : Nat) (w0 : World) (ov : Value) (pre : List Lz.Sq) (i said : Nat) (w : World) : Prop where
  row : OwnM w base ov (bef.size + said) (byv (Lz.says (Sums.bl s) (Sums.bl bef) pre))
  left : Left s bef.size most pre i said
  bel : Below base w0 w
  siz : base ≤ w.heap.size
theorem Rx.len {s bef : ByteArray} {most base : Nat} {w0 : World} {ov : Value} {pre : List Lz.Sq} {i said : Nat} {w : World} (h : Rx s bef most base w0 ov pre i said w) : (Lz.says (Sums.bl s) (Sums.bl bef) pre).length = bef.size + said := by
  have := h.row.1
  rwa [byv_len] at this
theorem conv_none (c : Nat) (w : World) : (convert 50 9 (.slice none 0 c)).run Try.prog w = .ok (.string ⟨#[]⟩) w :=
  run_convert_bytes_nil w 50 5 Try.underlying50 Try.underlying5 0 c 9 Try.underlying9
theorem conv_zero (g o c : Nat) (w : World) : (convert 50 9 (.slice (some ⟨g, o, none⟩) 0 c)).run Try.prog w = .ok (.string ⟨#[]⟩) w :=
  run_convert_bytes_arg w 50 5 Try.underlying50 Try.underlying5 g o 0 c [] rfl (fun i hi => absurd hi (by omega)) 9 Try.underlying9
/-- the end of a row, as a text -/
theorem conv_end (B m k g cap c2 : Nat) (l : List Nat) (wr : World) (hl : l.length = k + m) (hown : OwnM wr B (.slice (some ⟨g, 0, none⟩) (k + m) cap) (k + m) (byv l)) :
    (convert 50 9 (.slice (some ⟨g, k, none⟩) m c2)).run Try.prog wr = .ok (.string (nums (l.drop k))) wr := by
  refine run_convert_bytes_arg wr 50 5 Try.underlying50 Try.underlying5 g k m c2 _ (by simp [hl]) (fun i hi => ?_) 9 Try.underlying9
  rw [hown.cellAt g rfl (k + i) (by omega)]
  unfold byv
  rw [List.getElem?_map, List.getD_eq_getElem?_getD, List.getElem?_map, List.getElem?_drop, List.getElem?_eq_getElem (show k + i < l.length by omega)]
  rfl
/-- what stands behind k cells of a row, as a slice and as a text -/
theorem rest_text (B n k : Nat) (v : Value) (l : List Nat) (w : World) (hk : k ≤ n) (hl : l.length = n) (hown : OwnM w B v n (byv l)) :
    ∃ v', (Instr.slice 50 v (some (.int .i64 (k : Int))) none none).run Try.prog w = .ok v' w ∧ (convert 50 9 v').run Try.prog w = .ok (.string (nums (l.drop k))) w := by
  obtain ⟨i0, hi, hz0, hz1, hz2⟩ := info_parts infoB
  obtain ⟨m, rfl⟩ : ∃ m, n = k + m := ⟨n - k, by omega⟩
  have hrun : ∀ (b : Option Addr) (cap : Nat), (Instr.slice 50 (.slice b (k + m) cap) (some (.int .i64 (k : Int))) none none).run Try.prog w = .ok (.slice (if cap = k then b else b.map (·.add k)) m (cap - k)) w := by
    intro b cap
    simp [Instr.slice, Instr.sliceBounds, Instr.sliceBound, asIntOf, run_underlying Try.underlying50, sizeOf, typeInfo, hi, hz1]
  rcases hown.2 with ⟨rfl, h0⟩ | ⟨g, cap, cur, fz, rfl, hb, hg, hfz, hnc, _⟩
  · obtain ⟨rfl, rfl⟩ : k = 0 ∧ m = 0 := by omega
    obtain rfl : l = [] := List.length_eq_zero_iff.1 (by omega)
    refine ⟨_, hrun none 0, ?_⟩
    exact conv_none 0 w
  · refine ⟨_, hrun (some ⟨g, 0, none⟩) cap, ?_⟩
    by_cases hc : cap = k
    · obtain rfl : m = 0 := by omega
      rw [if_pos hc]
      have : l.drop k = [] := List.drop_eq_nil_of_le (by omega)
      rw [this]
      exact conv_zero g 0 _ w
    · rw [if_neg hc]
      show (convert 50 9 (.slice (some ((⟨g, 0, none⟩ : Addr).add k)) m (cap - k))).run Try.prog w = _
      rw [Addr.add_lit, Nat.zero_add]
      exact conv_end B m k g cap _ l w hl hown
theorem one_news (w : World) (c : Int) (t : TypeId) : ∀ (j : Nat) (u : Value), [Value.int .u8 c][j]? = some u → (w.alloc (.cells #[.int .u8 c] t)).cell? ((⟨w.heap.size, 0, none⟩ : Addr).add j) = some u := by
  intro j u hu
  have hj : j < 1 := (List.getElem?_eq_some_iff.1 hu).1
  obtain rfl : j = 0 := by omega
  rw [Addr.add_lit]
  simp at hu
  subst hu
  have := heap_alloc_new w (.cells #[.int .u8 c] t)
  simp only [World.cell?]
  rw [this]
  rfl
theorem one_cell (c : Int) : ∀ u ∈ [Value.int .u8 c], u.oneCell' = true := by
  intro u hu
  obtain rfl : u = _ := by simpa using hu
  rfl
theorem below_up {base : Nat} {a b c : World} (h : Below base a b) (hb : base ≤ b.heap.size) (k : Below b.heap.size b c) : Below base a c :=
  h.trans ⟨k.os, k.tape, k.output, k.size, fun i hi => k.block i (by omega)⟩
theorem part_cell {w : World} {b : Nat} {f0 f1 f2 f3 f4 f5 : Value} {t : TypeId} (h : w.heap[b]? = some (.cells #[f0, f1, f2, f3, f4, f5] t (0, 0))) : w.cell? ⟨b, 1, none⟩ = some f1 ∧ w.cell? ⟨b, 2, none⟩ = some f2 ∧ w.cell? ⟨b, 3, none⟩ = some f3 ∧ w.cell? ⟨b, 4, none⟩ = some f4 ∧ w.cell? ⟨b, 5, none⟩ = some f5 := by
  simp [World.cell?, h]
/-- a block of another kind stays while the row grows -/
theorem part_blk {w w' : World} {base n : Nat} {v : Value} {xs : List Value} (hg : w.grownBy w' v.ownBlock) (h : OwnM w base v n xs) (b : Nat) (cs : Array Value) (t : TypeId) {o : Obj} (ho : o = .cells cs t (0, 0)) (ht : t ≠ 5) (hb : w.heap[b]? = some o) : w'.heap[b]? = some (.cells cs t (0, 0)) := by
  subst ho
  rw [hg.block b (Array.getElem?_eq_some_iff.1 hb).1 ?_]
  · exact hb
  · intro e
    rcases h.2 with ⟨rfl, _⟩ | ⟨g, cap, cur, fz, rfl, _, h2, _⟩
    · simp [Value.ownBlock] at e
    · simp only [Value.ownBlock, Option.some.injEq] at e
      subst e
      rw [h2] at hb
      simp only [Option.some.injEq, Obj.cells.injEq] at hb
      exact ht hb.2.1.symm
set_option maxRecDepth 100000 in
set_option maxHeartbeats 4000000 in
theorem refExpandOn_any (bef s : ByteArray) (most : Nat) (w : World) (hs : s.size ≤ 140737488355328) (hbef : bef.size ≤ 140737488355328) (hm : most ≤ 9223372036854775807) (hsz : most ≤ 35184372088832 ∨ s.size ≤ 137438953472) :
    Calls Try.prog 14 #[.string bef, .string s, .int .i64 (most : Int)] w fun e w' => e = .returned (.tuple #[.string (if (allOf s bef.size most).2.1 = 0 then nums (sofar s bef (allOf s bef.size most).1) else ⟨#[]⟩), .int .i64 ((allOf s bef.size most).2.1 : Int), .int .i64 (if (allOf s bef.size most).2.1 = 0 then 0 else ((allOf s bef.size most).2.2 : Int))]) ∧ Below w.heap.size w w' := by
  obtain ⟨i0, hi, hz0, hz1, hz2⟩ := info_parts infoB
  have h0 : ¬ (most : Int) < 0 := by omega
  have hconv := Go.Lib.run_convert_string_bytes (P := Try.prog) w 9 50 5 bef Try.underlying9 Try.underlying50 Try.underlying5
  have hst : Rx s bef most w.heap.size w (.slice (some ⟨w.heap.size, 0, none⟩) bef.size (grownCap w bef.size 0 5)) [] 0 0 (Go.Lib.bytesWorld w 5 bef) := by
    refine ⟨own_text w _ bef (Nat.le_refl _) (by unfold maxLen; omega), ⟨Nat.zero_le _, Nat.zero_le _, by omega, s.size + 1, by omega, rfl⟩, ?_, by rw [Go.Lib.bytesWorld_size]; omega⟩
    exact ⟨rfl, rfl, rfl, by rw [Go.Lib.bytesWorld_size]; omega, fun k hk => Go.Lib.bytesWorld_at_old w 5 bef k hk⟩
  have HST := Hid.mk' hst
  clear hst
  generalize hres : allOf s bef.size most = R at ⊢
  have HR := Hid.mk' hres
  clear hres
  go_enter Try.func14, Try.ntmps14
  go_wp2
  go_loopw [9, 10] (fun ov av wr => ∃ (pre : List Lz.Sq) (i said : Nat), av = .int .i64 (i : Int) ∧ Rx s bef most w.heap.size w ov pre i said wr) (fun _ av _ => s.size - (intOf av).toNat)
  case atStart => exact ⟨[], 0, 0, rfl, HST.out⟩
  case round =>
    obtain ⟨pre, i, said, rfl, hrx⟩ := hrel
    clear HST hconv
    obtain ⟨bb, cc, rfl⟩ := ownM_shape hrx.row
    obtain ⟨hli, hlm, hls, _⟩ := hrx.left
    have hlen := hrx.len
    have HNX := Hid.mk' (refNext_any s i said bef.size most wr hs hli hlm hls hm hbef)
    obtain ⟨n, hn⟩ : ∃ n, bef.size + said = n := ⟨_, rfl⟩
    have hnI : (n : Int) - (bef.size : Int) = (said : Int) := by omega
    have HRX := Hid.mk' hrx
    have hok := Lz.next_ok (Sums.bl s) (Sums.bl_byt s) i said bef.size most hlm hls (by rw [Sums.bl_length]; exact hli)
    obtain ⟨p, hp⟩ : ∃ p, Lz.next (Sums.bl s) i said bef.size most = p := ⟨_, rfl⟩
    rw [hp] at hok HNX
    have HLT : Hid (∀ k, (Value.slice bb n cc).ownBlock = some k → w.heap.size ≤ k) := by
      intro k hk
      rw [← hn] at hk
      exact (HRX.out.row.lt k hk).1
    rw [hn]
    obtain ⟨code, place, frm, many, off, len, nxt⟩ := p
    simp only [Lz.Fine, Lz.seqOf, Sums.bl_length] at hok
    clear hrx
    by_cases hc : code = 0
    · subst hc
      obtain ⟨⟨g1, g2, g3, g4, g5⟩, g6⟩ := hok rfl
      by_cases hl0 : len = 0
      · subst hl0
        obtain rfl : off = 0 := by omega
        obtain rfl : place = 0 := by
          have := Lz.next_place (Sums.bl s) i said bef.size most (by rw [hp])
          rw [hp] at this
          exact this
        have hR := HR.out
        rw [left_last s bef.size most pre i said HRX.out.left frm many nxt hp] at hR
        subst hR
        obtain ⟨T, hT⟩ : ∃ T, s.extract frm (frm + many) = T := ⟨_, rfl⟩
        have hTs : T.size = many := by rw [← hT, ext_size s _ _ (by omega) g3]; omega
        have hTb : Sums.bl T = ((Sums.bl s).drop frm).take many := by rw [← hT]; exact bl_part s frm many
        obtain ⟨M, hM⟩ : ∃ M, M = Lz.says (Sums.bl s) (Sums.bl bef) (pre ++ [⟨i, frm, many, 0, 0⟩]) := ⟨_, rfl⟩
        have hMe : M = Lz.says (Sums.bl s) (Sums.bl bef) pre ++ Sums.bl T := by rw [hM, Lz.says_snoc, Lz.say, grow_zero, hTb]
        obtain ⟨e1, he1⟩ : ∃ e1, frm + many = e1 := ⟨_, rfl⟩
        have he1I : (frm : Int) + (many : Int) = (e1 : Int) := by omega
        rw [he1] at hT
        have hfe : frm ≤ e1 := by omega
        have hes : e1 ≤ s.size := by omega
        have hrow : ∀ (o : Obj) (w2 : World), Below wr.heap.size wr w2 → OwnM (w2.alloc o) w.heap.size (.slice bb n cc) n (byv (Lz.says (Sums.bl s) (Sums.bl bef) pre)) := by
          intro o w2 hb
          have h := HRX.out.row
          rw [hn] at h
          refine h.kept fun k hk => ?_
          have := (h.lt k hk).2
          rw [Below.heap_alloc _ _ _ (Nat.lt_of_lt_of_le this hb.size), hb.block k this]
        have HROW := Hid.mk' hrow
        have HME := Hid.mk' hMe
        have HM := Hid.mk' hM
        have HTB := Hid.mk' hTb
        have hnb : n + T.size + (n + T.size) / 4 + 192 ≤ 281474976710656 := by omega
        clear hrow hMe hTb hM hp HR g1 g4 g5 g6 hlen
        go_wp2_with (first | (go_at_call 25; refine HNX.out.mono ?_; rintro e w2 ⟨a, b, c, d, l, f, rfl, hq, hb2⟩; obtain ⟨rfl, rfl, rfl, rfl, rfl, rfl⟩ := hq rfl; have hsz2 := Nat.le_trans HRX.out.siz hb2.size; have HB2 := Hid.mk' hb2; clear hb2 hq; unfold partV) | (at_builtin; refine at_text _ rfl _ _ 50 9 rfl w.heap.size i0 Try.underlying50 Try.underlying9 hi hz0 hz1 hz2 (.slice bb n cc) n (byv (Lz.says (Sums.bl s) (Sums.bl bef) pre)) rfl (by exact (HROW.out _ _ HB2.out)) T rfl hnb (by simp; omega) ?_; intro v1 w1 hown1 hgrow1; rw [strc_byv, ← byv_append, ← HME.out] at hown1; obtain ⟨n1, hn1⟩ : ∃ n1, n + T.size = n1 := ⟨_, rfl⟩; rw [hn1] at hown1; obtain ⟨vs, hv1, hv2⟩ := rest_text w.heap.size n1 bef.size v1 M w1 (by omega) (by rw [← byv_len]; exact hown1.1) hown1; obtain ⟨b1, c1, rfl⟩ := ownM_shape hown1; have pc := part_blk hgrow1 (HROW.out _ _ HB2.out) w2.heap.size _ 58 rfl (by decide) (heap_alloc_new _ _); obtain ⟨p1, p2, p3, p4, p5⟩ := part_cell pc; have HO1 := Hid.mk' hown1; have HBE := Hid.mk' (((below_up HRX.out.bel HRX.out.siz HB2.out).alloc hsz2 _).grown hgrow1 (by simp; omega) HLT.out); clear hown1 hgrow1 pc) | fail)
        go_ret3
        have hso : sofar s bef (pre ++ [⟨i, frm, many, 0, 0⟩]) = M.drop bef.size := by rw [sofar, ← HM.out]
        rw [hso]
        exact ⟨rfl, HBE.out⟩
      · have hl1 : 0 < len := by omega
        obtain ⟨n1i, n2i, n3i⟩ := g6 hl1
        obtain ⟨_, hoff0, hoffm⟩ : 0 < len ∧ 0 < off ∧ off ≤ bef.size + (said + many) := by omega
        obtain rfl : place = 0 := by
          have := Lz.next_place (Sums.bl s) i said bef.size most (by rw [hp])
          rw [hp] at this
          exact this
        obtain ⟨hpre, hleft⟩ := left_next s bef.size most pre i said HRX.out.left frm many off len nxt hp hl1 n1i n2i g4 n3i
        obtain ⟨T, hT⟩ : ∃ T, s.extract frm (frm + many) = T := ⟨_, rfl⟩
        have hTs : T.size = many := by rw [← hT, ext_size s _ _ (by omega) g3]; omega
        have hTb : Sums.bl T = ((Sums.bl s).drop frm).take many := by rw [← hT]; exact bl_part s frm many
        obtain ⟨M, hM⟩ : ∃ M, M = Lz.says (Sums.bl s) (Sums.bl bef) pre ++ Sums.bl T := ⟨_, rfl⟩
        have hMe : Lz.says (Sums.bl s) (Sums.bl bef) (pre ++ [⟨i, frm, many, off, len⟩]) = Lz.grow off len M := by rw [Lz.says_snoc, Lz.say, hM, hTb]
        obtain ⟨e1, he1⟩ : ∃ e1, frm + many = e1 := ⟨_, rfl⟩
        have he1I : (frm : Int) + (many : Int) = (e1 : Int) := by omega
        rw [he1] at hT
        have hfe : frm ≤ e1 := by omega
        have hes : e1 ≤ s.size := by omega
        have hrow : ∀ (o : Obj) (w2 : World), Below wr.heap.size wr w2 → OwnM (w2.alloc o) w.heap.size (.slice bb n cc) n (byv (Lz.says (Sums.bl s) (Sums.bl bef) pre)) := by
          intro o w2 hb
          have h := HRX.out.row
          rw [hn] at h
          refine h.kept fun k hk => ?_
          have := (h.lt k hk).2
          rw [Below.heap_alloc _ _ _ (Nat.lt_of_lt_of_le this hb.size), hb.block k this]
        have HROW := Hid.mk' hrow
        have HME := Hid.mk' hMe
        have HM := Hid.mk' hM
        have HTB := Hid.mk' hTb
        have HLE := Hid.mk' hleft
        have hnb : n + T.size + (n + T.size) / 4 + 192 ≤ 281474976710656 := by omega
        have hnl : n + many + len ≤ 175921860444160 := by omega
        have hlI : ((len : Int) == 0) = false := by simp; omega
        have hlb : len ≤ 9223372036854775807 := by omega
        have hlb1 : off ≤ n + many := by omega
        obtain ⟨sd2, hsd2⟩ : ∃ sd2, said + many + len = sd2 := ⟨_, rfl⟩
        rw [hsd2] at HLE
        have hn2 : bef.size + sd2 = n + many + len := by omega
        clear hrow hMe hTb hM hp HR g1 g4 g5 g6 hlen hpre hleft hsd2
        go_wp2_with (first | (go_at_call 25; refine HNX.out.mono ?_; rintro e w2 ⟨a, b, c, d, l, f, rfl, hq, hb2⟩; obtain ⟨rfl, rfl, rfl, rfl, rfl, rfl⟩ := hq rfl; have hsz2 := Nat.le_trans HRX.out.siz hb2.size; have HB2 := Hid.mk' hb2; clear hb2 hq; unfold partV) | (at_builtin; refine at_text _ rfl _ _ 50 9 rfl w.heap.size i0 Try.underlying50 Try.underlying9 hi hz0 hz1 hz2 (.slice bb n cc) n (byv (Lz.says (Sums.bl s) (Sums.bl bef) pre)) rfl (by exact (HROW.out _ _ HB2.out)) T rfl hnb (by simp; omega) ?_; intro v1 w1 hown1 hgrow1; rw [strc_byv, ← byv_append, ← HM.out, hTs] at hown1; obtain ⟨m1, hm1⟩ : ∃ m1, n + many = m1 := ⟨_, rfl⟩; rw [hm1] at hown1; obtain ⟨b1, c1, rfl⟩ := ownM_shape hown1; have pc := part_blk hgrow1 (HROW.out _ _ HB2.out) w2.heap.size _ 58 rfl (by decide) (heap_alloc_new _ _); obtain ⟨p1, p2, p3, p4, p5⟩ := part_cell pc; have HO1 := Hid.mk' hown1; have HPC := Hid.mk' pc; have hsz3 : w.heap.size ≤ w1.heap.size := Nat.le_trans hsz2 (Nat.le_trans (by simp) hgrow1.size); have HBE := Hid.mk' (((below_up HRX.out.bel HRX.out.siz HB2.out).alloc hsz2 _).grown hgrow1 (by simp; omega) HLT.out); clear hown1 hgrow1 pc) | fail)
        rename World => wo
        go_loopw [9, 14] (fun ov kv wi => ∃ (k m : Nat), kv = .int .i64 (k : Int) ∧ k ≤ len ∧ m = n + many + k ∧ OwnM wi w.heap.size ov m (byv (Lz.grow off k M)) ∧ wi.heap[w2.heap.size]? = some (.cells #[.int .i64 (i : Int), .int .i64 (frm : Int), .int .i64 (many : Int), .int .i64 (off : Int), .int .i64 (len : Int), .int .i64 (nxt : Int)] 58 (0, 0)) ∧ Below w.heap.size w wi ∧ w.heap.size ≤ wi.heap.size) (fun _ kv _ => len - (intOf kv).toNat)
        case atStart => exact ⟨0, m1, rfl, by omega, by omega, HO1.out, HPC.out, HBE.out, hsz3⟩
        case round =>
          obtain ⟨k, m, rfl, hk, hm2, hrow2, hpc2, hbe2, hsz4⟩ := hrel
          rename World => wi
          clear p1 p2 p3 p4 p5
          obtain ⟨q1, q2, q3, q4, q5⟩ := part_cell hpc2
          have HPC2 := Hid.mk' hpc2
          have HBE2 := Hid.mk' hbe2
          clear hpc2 hbe2
          by_cases hkl : k = len
          · subst hkl
            have HROW2 := Hid.mk' hrow2
            clear hrow2
            go_wp2
            go_roundw
            case rel =>
              refine ⟨_, nxt, sd2, rfl, ⟨?_, HLE.out, HBE2.out, hsz4⟩⟩
              rw [HME.out, hn2, ← hm2]
              exact HROW2.out
            case measure =>
              simp [intOf]
              omega
          · have hkI : (k : Int) < (len : Int) := by omega
            obtain ⟨g, cap, rfl, hcap⟩ := ownM_some hrow2 (by omega)
            obtain ⟨d, hd⟩ : ∃ d, d + off = m := ⟨m - off, by omega⟩
            have hdI : (m : Int) - (off : Int) = (d : Int) := by omega
            have hdm : d < m := by omega
            obtain ⟨G, hG⟩ : ∃ G, Lz.grow off k M = G := ⟨_, rfl⟩
            rw [hG] at hrow2
            have hGl : G.length = m := by rw [← byv_len]; exact hrow2.1
            obtain ⟨c, hc⟩ : ∃ c, c = G.getD d 0 := ⟨_, rfl⟩
            have hcell : wi.cell? ⟨g, d, none⟩ = some (.int .u8 (c : Int)) := by
              rw [hrow2.cellAt g rfl d hdm]
              unfold byv
              rw [List.getElem?_map, List.getElem?_eq_getElem (by omega), hc, List.getD_eq_getElem?_getD, List.getElem?_eq_getElem (by omega)]
              rfl
            have hG1 : Lz.grow off (k + 1) M = G ++ [c] := by
              rw [Lz.grow_add, hG, Lz.grow, Lz.grow, hGl, show m - off = d by omega, ← hc]
            have HG1 := Hid.mk' hG1
            have HROW2 := Hid.mk' hrow2
            have hmb : m + 1 + (m + 1) / 4 + 192 ≤ 281474976710656 := by omega
            have HGL := Hid.mk' hGl
            have HM2 := Hid.mk' hm2
            have HD := Hid.mk' hd
            clear hrow2 hGl hG1 hc hG hm2 hd
            go_wp2_with (first | (at_builtin; refine at_cells _ rfl _ _ 50 rfl w.heap.size i0 Try.underlying50 hi hz0 hz1 hz2 (.slice (some ⟨g, 0, none⟩) m cap) m (byv G) rfl (by exact (HROW2.out.kept fun k hk => Below.heap_alloc wi _ k (HROW2.out.lt k hk).2)) ⟨wi.heap.size, 0, none⟩ 1 1 [.int .u8 (c : Int)] rfl (by decide) rfl (one_news _ _ _) (one_cell _) hmb (by simp; omega) ?_; intro v3 w3 hown3 hgrow3; have HO3 := Hid.mk' hown3; have HG3 := Hid.mk' hgrow3; clear hown3 hgrow3) | fail)
            go_roundw
            case rel =>
              have hm2 := HM2.out
              have hrowa : OwnM (wi.alloc (.cells #[.int .u8 (c : Int)] 5)) w.heap.size (.slice (some ⟨g, 0, none⟩) m cap) m (byv G) := HROW2.out.kept fun k hk => Below.heap_alloc wi _ k (HROW2.out.lt k hk).2
              refine ⟨k + 1, m + 1, by simp, by omega, by omega, ?_, ?_, (HBE2.out.alloc hsz4 _).grown HG3.out (by simp; omega) (fun k hk => (HROW2.out.lt k hk).1), Nat.le_trans hsz4 (Nat.le_trans (by simp) HG3.out.size)⟩
              · rw [HG1.out, byv_append]
                exact HO3.out
              · refine part_blk HG3.out hrowa _ _ _ rfl (by decide) ?_
                rw [Below.heap_alloc wi _ _ (Array.getElem?_eq_some_iff.1 HPC2.out).1]
                exact HPC2.out
            case measure =>
              simp [intOf]
              omega
    · have hcI : ((code : Int) == 0) = false := by simp; exact hc
      have hR := HR.out
      rw [left_err s bef.size most pre i said HRX.out.left code place _ hp rfl rfl hc] at hR
      subst hR
      clear hok hp HR
      go_wp2_with (first | (go_at_call 25; refine HNX.out.mono ?_; rintro e w2 ⟨a, b, c, d, l, f, rfl, _, hb2⟩; have HB2 := Hid.mk' hb2; clear hb2; unfold partV) | fail)
      go_ret3
      exact ⟨rfl, (below_up HRX.out.bel HRX.out.siz HB2.out).alloc (Nat.le_trans HRX.out.siz HB2.out.size) _⟩
theorem refExpandOn_neg (bef s : ByteArray) (most : Int) (w : World) (hm : most < 0) :
    Calls Try.prog 14 #[.string bef, .string s, .int .i64 most] w fun e w' => e = .returned (.tuple #[.string ⟨#[]⟩, .int .i64 1, .int .i64 0]) ∧ Below w.heap.size w w' := by
  go_enter Try.func14, Try.ntmps14
  go_wp2
  go_ret3
  exact ⟨rfl, Below.refl _ _⟩
theorem refExpandOn_all (bef s : ByteArray) (most : Int) (w : World) (hs : s.size ≤ 140737488355328) (hbef : bef.size ≤ 140737488355328) (hm : most ≤ 9223372036854775807) (hsz : most ≤ 35184372088832 ∨ s.size ≤ 137438953472) :
    Calls Try.prog 14 #[.string bef, .string s, .int .i64 most] w fun e w' => e = .returned (expR bef s most) ∧ Below w.heap.size w w' := by
  by_cases h : most < 0
  · unfold expR
    rw [if_pos h]
    exact refExpandOn_neg bef s most w h
  · obtain ⟨m, rfl⟩ : ∃ m : Nat, most = (m : Int) := ⟨most.toNat, by omega⟩
    unfold expR
    rw [if_neg h, Int.toNat_natCast]
    exact refExpandOn_any bef s m w hs hbef (by omega) (by omega)
theorem refExpand_all (s : ByteArray) (most : Int) (w : World) (hs : s.size ≤ 140737488355328) (hm : most ≤ 9223372036854775807) (hsz : most ≤ 35184372088832 ∨ s.size ≤ 137438953472) :
    Calls Try.prog 12 #[.string s, .int .i64 most] w fun e w' => e = .returned (expR ⟨#[]⟩ s most) ∧ Below w.heap.size w w' := by
  obtain ⟨t, c, p, hR⟩ := expR_shape ⟨#[]⟩ s most
  have HC := Hid.mk' (refExpandOn_all ⟨#[]⟩ s most w hs (by decide) hm hsz)
  rw [hR] at HC ⊢
  go_enter Try.func12, Try.ntmps12
  go_wp2_with (first | (go_at_call 14; refine HC.out.mono ?_; rintro e w' ⟨rfl, hb⟩; have HB := Hid.mk' hb; clear hb) | fail)
  go_ret3
  exact ⟨rfl, HB.out⟩
end Go.Proofs.Ytkndpfpdanoalaa
