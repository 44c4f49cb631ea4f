/-
  block: what stands behind the head, and the lines in it. Conditions: as each says.
-/
import Derived.Test.YtlplbnlfajdcbaaGreatDoorBkJ
import Derived.Test.YtlplbnlfajdcbaaGreatDoorRcN
import Derived.Test.YtlplbnlfajdcbaaGreatDoorMgF
import Derived.Test.YtlplbnlfajdcbaaGreatDoorRcR
namespace Go.Proofs.YtlplbnlfajdcbaaGreatDoor
open Go.RowKit
set_option linter.unusedVariables false
set_option linter.unusedSimpArgs false
set_option maxHeartbeats 2000000 in
set_option maxRecDepth 100000 in
theorem bodyOf_ok (s : ByteArray) (a b c d e f g h : Int) (i : Nat) (w : World) (hi : i ≤ 131602) (hs : s.size = 77 + i) :
    Calls Tryz.prog 42 #[.string s, hdV a b c d e f g h i] w fun r w' => r = .returned (.tuple #[.string (s.extract 73 s.size), .nilIface]) ∧ Below w.heap.size w w' := by
  have h1 : ¬ (s.size : Int) < 77 + (i : Int) := by omega
  have h2 : ¬ 77 + (i : Int) < (s.size : Int) := by omega
  have h3 : (73 : Int) ≤ (s.size : Int) := by omega
  have h4 : (s.size : Int) = 77 + (i : Int) := by omega
  have h5 : 73 ≤ s.size := by omega
  unfold hdV
  go_enter Tryz.func42, Tryz.ntmps42
  go_wp2_with fail
  go_ret2
  exact ⟨rfl, (Below.refl _ _).alloc (Nat.le_refl _) _⟩
set_option maxHeartbeats 2000000 in
set_option maxRecDepth 100000 in
theorem bodyOf_short (s : ByteArray) (a b c d e f g h : Int) (i : Nat) (w : World) (hi : i ≤ 131602) (hs : s.size < 77 + i) :
    Calls Tryz.prog 42 #[.string s, hdV a b c d e f g h i] w fun r w' => ∃ p, r = .returned (.tuple #[.string ⟨#[]⟩, .iface 61 (.pointer (some ⟨p, 0, none⟩))]) ∧ w'.heap[p]? = some (.cells #[.int .i64 (s.size : Int), .int .i64 30] 63 (0, 0)) ∧ w.heap.size ≤ p ∧ Below w.heap.size w w' := by
  have h1 : (s.size : Int) < 77 + (i : Int) := by omega
  unfold hdV
  go_enter Tryz.func42, Tryz.ntmps42
  go_wp2_with fail
  go_ret2
  refine ⟨w.heap.size + 1, rfl, ?_, Nat.le_succ _, ((Below.refl _ _).alloc (Nat.le_refl _) _).alloc (by simp) _⟩
  have h9 := heap_alloc_new (w.alloc (.cells #[.int .i64 a, .int .i64 b, .int .i64 c, .int .i64 d, .int .i64 e, .int .i64 f, .int .i64 g, .int .i64 h, .int .i64 (i : Int)] 23)) (.cells #[.int .i64 (s.size : Int), .int .i64 30] 63)
  rw [World.size_alloc] at h9
  exact h9
set_option maxHeartbeats 2000000 in
set_option maxRecDepth 100000 in
theorem unpack_ok (s : ByteArray) (lev m : Nat) (w : World) (hs : s.size ≤ 131072) (hm : s.size ≤ m) (hmm : m ≤ 131072) :
    Calls Tryz.prog 69 #[.string (pkL s lev), .int .i64 (m : Int)] w fun r w' => r = .returned (.tuple #[.string s, .nilIface]) ∧ Below w.heap.size w w' := by
  have HU := Hid.mk' (unpack_pk s lev m w hs hm hmm)
  unfold tup3 at HU
  go_enter Tryz.func69, Tryz.ntmps69
  go_wp2_with fail
  refine HU.out.mono ?_
  rintro r w' ⟨rfl, hb⟩
  go_wp2_with fail
  go_ret2
  exact ⟨rfl, hb⟩
theorem dec_pay (l : List Rec.Ln) (hl : Fine l) : (0, l, 0) = Rec.decF (payT l) := by
  have hb : Sums.bl (payT l) = Rec.payF l := bl_nums _ (Rec.pay_byt hl.all (by have := hl.len; omega))
  have h1 := (Rec.dec_cut l [] (Rec.szF l) (payT l) hl.all (by have := hl.len; omega) (by rw [payT_size]; exact hl.size) (by rw [List.append_nil, List.take_of_length_le (by rw [Rec.pay_len]; exact Nat.le_refl _)]; exact hb)).2 (Nat.le_refl _)
  rw [h1]
  simp
/-- the head of lines, with nothing in it that lines don't say -/
structure HdOf (a b c d e f g h i : Nat) (l : List Rec.Ln) : Prop where
  ok : OkW a b c d e f h i
  fine : Fine l
  g2 : g ≤ 2
  c : l.length = c
  d : Rec.mn l = (d : Int)
  e : Rec.mx l = (e : Int)
  h : (payT l).size = h
  i : (pkL (payT l) g).size = i
set_option maxHeartbeats 4000000 in
set_option maxRecDepth 100000 in
theorem linesOf_ok (a b c d e f g h i : Nat) (l : List Rec.Ln) (w : World) (o : HdOf a b c d e f g h i l) (ht : Tab w) :
    Calls Tryz.prog 43 #[.string (nums (smd (Sums.bl (pkL (payT l) g)))), hdV a b c d e f g h i] w fun r w' => ∃ v, r = .returned (.tuple #[v, .nilIface]) ∧ w'.ownsRow w.heap.size 26 2 v l.length (lnV l) ∧ Below w.heap.size w w' := by
  obtain ⟨ok, fine, g2, oc, od, oe, oh, oi⟩ := o
  have hpz := payT_size l
  have hps := fine.size
  have hqz := pkL_size (payT l) g
  have HDE := Hid.mk' (fun W => decode_any (payT l) W (by omega) _ (dec_pay l fine))
  obtain ⟨P, hP⟩ : ∃ P, payT l = P := ⟨_, rfl⟩
  rw [hP] at oh oi hpz hqz HDE ⊢
  have HUP := Hid.mk' (fun W => unpack_ok P g h W (by omega) (by omega) (by omega))
  have HPK := Hid.mk' (fun W => pack_any P g W (by omega) g2)
  obtain ⟨Q, hQ⟩ : ∃ Q, pkL P g = Q := ⟨_, rfl⟩
  rw [hQ] at oi hqz HUP HPK ⊢
  have HUN : Hid (∀ W, Tab W → Calls Tryz.prog 36 #[.string (nums (smd (Sums.bl Q)))] W fun r w' => r = .returned (.tuple #[.string Q, .nilIface]) ∧ Below W.heap.size W w') := fun W hW => by
    have := unsummed_ok (Sums.bl Q) (Sums.bl_byt Q) W (by rw [Sums.bl_length]; omega) hW
    rw [nums_bl] at this
    exact this
  obtain ⟨s, hs⟩ : ∃ s, nums (smd (Sums.bl Q)) = s := ⟨_, rfl⟩
  rw [hs] at HUN ⊢
  have HAG : Hid (∀ v W, LsAt v l W → Calls Tryz.prog 71 #[hdV a b c d e f g h i, v] W fun r w' => r = .returned .nilIface ∧ Below W.heap.size W w') := fun v W hW => agree_ok a b c d e f h i g v l W hW fine.one oc od oe ok
  have hnq := str_neq_same Q
  have hPh : (P.size : Int) = (h : Int) := by omega
  have HT := Hid.mk' ht
  obtain ⟨w0, hw0⟩ : ∃ w0, w.alloc (.cells #[.int .i64 (a : Int), .int .i64 (b : Int), .int .i64 (c : Int), .int .i64 (d : Int), .int .i64 (e : Int), .int .i64 (f : Int), .int .i64 (g : Int), .int .i64 (h : Int), .int .i64 (i : Int)] 23) = w0 := ⟨_, rfl⟩
  obtain ⟨B, hB⟩ : ∃ B, w.heap.size = B := ⟨_, rfl⟩
  have HK0 : Hid (w0.heap[B]? = some (.cells #[.int .i64 (a : Int), .int .i64 (b : Int), .int .i64 (c : Int), .int .i64 (d : Int), .int .i64 (e : Int), .int .i64 (f : Int), .int .i64 (g : Int), .int .i64 (h : Int), .int .i64 (i : Int)] 23 (0, 0)) ∧ Below B w w0 ∧ w0.heap.size = B + 1) := by
    unfold Hid
    rw [← hw0, ← hB]
    exact ⟨heap_alloc_new _ _, (Below.refl _ _).alloc (Nat.le_refl _) _, World.size_alloc ..⟩
  have HH : Hid (∀ X, Below (B + 1) w0 X → X.heap[B]? = some (.cells #[.int .i64 (a : Int), .int .i64 (b : Int), .int .i64 (c : Int), .int .i64 (d : Int), .int .i64 (e : Int), .int .i64 (f : Int), .int .i64 (g : Int), .int .i64 (h : Int), .int .i64 (i : Int)] 23 (0, 0)) ∧ Tab X ∧ Below B w X) := fun X hX => by
    obtain ⟨k1, k2, k3⟩ := HK0.out
    have hb : Below B w X := k2.trans (hX.mono (by omega))
    exact ⟨(hX.block B (by omega)).trans k1, HT.out.below (by rw [hB]; exact hb), hb⟩
  have HL : Hid (w0.heap.size = B + 1) := HK0.out.2.2
  unfold hdV at HAG ⊢
  clear hP hQ hs ok fine g2 oc od oe oh oi hpz hps hqz ht
  go_enter Tryz.func43, Tryz.ntmps43
  go_upto_region 1 with fail
  clear hw0
  go_wp2_with fail
  refine (HUN.out w0 (HH.out w0 (Below.refl _ _)).2.1).mono ?_
  rintro r w1 ⟨rfl, hb1⟩
  have HB1 : Hid (Below (B + 1) w0 w1) := by unfold Hid; rw [← HL.out]; exact hb1
  have p7 := cell_at (k := 7) (HH.out w1 HB1.out).1 rfl
  clear hb1
  go_wp2_with fail
  refine (HUP.out w1).mono ?_
  rintro r w2 ⟨rfl, hb2⟩
  have HB2 : Hid (Below (B + 1) w0 w2) := HB1.out.trans (hb2.mono (by have := HB1.out.size; have := HL.out; omega))
  clear p7 hb2 HB1
  have p7 := cell_at (k := 7) (HH.out w2 HB2.out).1 rfl
  go_wp2_with fail
  refine (HDE.out w2).mono ?_
  rintro r w3 ⟨v, rfl, hv0, _, hb3⟩
  have HV3 : Hid (w3.ownsRow B 26 2 v l.length (lnV l)) := by
    have h9 := hv0 rfl
    have h8 := HB2.out.size
    have h7 := HL.out
    exact own_mono h9 (by omega)
  have HB3 : Hid (Below (B + 1) w0 w3) := HB2.out.trans (hb3.mono (by have := HB2.out.size; have := HL.out; omega))
  clear p7 hb3 HB2 hv0
  have r0 := cell_at (k := 0) (HH.out w3 HB3.out).1 rfl
  have r1 := cell_at (k := 1) (HH.out w3 HB3.out).1 rfl
  have r2 := cell_at (k := 2) (HH.out w3 HB3.out).1 rfl
  have r3 := cell_at (k := 3) (HH.out w3 HB3.out).1 rfl
  have r4 := cell_at (k := 4) (HH.out w3 HB3.out).1 rfl
  have r5 := cell_at (k := 5) (HH.out w3 HB3.out).1 rfl
  have r6 := cell_at (k := 6) (HH.out w3 HB3.out).1 rfl
  have r7 := cell_at (k := 7) (HH.out w3 HB3.out).1 rfl
  have r8 := cell_at (k := 8) (HH.out w3 HB3.out).1 rfl
  go_wp2_with fail
  refine (HAG.out v w3 (own_ls HV3.out)).mono ?_
  rintro r w4 ⟨rfl, hb4⟩
  have HV4 : Hid (w4.ownsRow B 26 2 v l.length (lnV l)) := row_kept HV3.out fun k hk => hb4.block k (HV3.out.lt k hk).2
  have HB4 : Hid (Below (B + 1) w0 w4) := HB3.out.trans (hb4.mono (by have := HB3.out.size; have := HL.out; omega))
  clear r0 r1 r2 r3 r4 r5 r6 r7 r8 hb4 HB3 HV3
  have p6 := cell_at (k := 6) (HH.out w4 HB4.out).1 rfl
  go_wp2_with fail
  refine (HPK.out w4).mono ?_
  rintro r w5 ⟨rfl, hb5⟩
  have HV5 : Hid (w5.ownsRow B 26 2 v l.length (lnV l)) := row_kept HV4.out fun k hk => hb5.block k (HV4.out.lt k hk).2
  have HB5 : Hid (Below (B + 1) w0 w5) := HB4.out.trans (hb5.mono (by have := HB4.out.size; have := HL.out; omega))
  clear p6 hb5 HB4 HV4
  go_wp2_with fail
  go_ret2
  exact ⟨v, rfl, by rw [hB]; exact HV5.out, by rw [hB]; exact (HH.out w5 HB5.out).2.2⟩
end Go.Proofs.YtlplbnlfajdcbaaGreatDoor
