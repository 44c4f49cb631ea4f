/-
  block.Seal of lines that may be. Conditions: as it says.
-/
import Derived.Test.YtlplbnlfajdcbaaGreatDoorBkD
import Derived.Test.YtlplbnlfajdcbaaGreatDoorRcR
namespace Go.Proofs.YtlplbnlfajdcbaaGreatDoor
open Go.RowKit
set_option linter.unusedVariables false
set_option linter.unusedSimpArgs false
theorem Tab.below {w w' : World} (h : Tab w) (hb : Below w.heap.size w w') : Tab w' := fun i hi => (hb.cell (p := ⟨1, i, none⟩) (World.block_lt_of_cell? w ⟨1, i, none⟩ (h i hi))).trans (h i hi)
/-- lines that may be sealed -/
structure Fine (l : List Rec.Ln) : Prop where
  one : 0 < l.length
  all : ∀ x ∈ l, Rec.bad x = 0
  size : Rec.szF l ≤ 131072
theorem bad_st {x : Rec.Ln} (h : Rec.bad x = 0) : 0 ≤ x.1 ∧ x.1 ≤ 253402300799999 := by
  unfold Rec.bad at h
  split at h
  · cases h
  · split at h
    · cases h
    · rename_i h2
      have : Rec.MS = 253402300799999 := rfl
      omega
theorem snoc_ind {α : Type} {P : List α → Prop} (h0 : P []) (h1 : ∀ l x, P l → P (l ++ [x])) (l : List α) : P l := by
  rw [← List.reverse_reverse l]
  induction l.reverse with
  | nil => exact h0
  | cons x m ih =>
    rw [List.reverse_cons]
    exact h1 _ _ ih
theorem mn_in : ∀ l : List Rec.Ln, 0 < l.length → ∃ x ∈ l, Rec.mn l = x.1 := by
  intro l
  refine snoc_ind (P := fun l : List Rec.Ln => 0 < l.length → ∃ x ∈ l, Rec.mn l = x.1) ?_ (fun l x ih => ?_) l
  · intro h; simp at h
  · intro _
    rw [Rec.mn_snoc]
    by_cases h : l = []
    · rw [if_pos h]
      exact ⟨x, by simp, rfl⟩
    · rw [if_neg h]
      obtain ⟨y, hy, he⟩ := ih (List.length_pos_iff.2 h)
      rcases Int.le_total (Rec.mn l) x.1 with h1 | h1
      · exact ⟨y, by simp [hy], by rw [← he]; omega⟩
      · exact ⟨x, by simp, by omega⟩
theorem mx_in : ∀ l : List Rec.Ln, 0 < l.length → ∃ x ∈ l, Rec.mx l = x.1 := by
  intro l
  refine snoc_ind (P := fun l : List Rec.Ln => 0 < l.length → ∃ x ∈ l, Rec.mx l = x.1) ?_ (fun l x ih => ?_) l
  · intro h; simp at h
  · intro _
    rw [Rec.mx_snoc]
    by_cases h : l = []
    · rw [if_pos h]
      exact ⟨x, by simp, rfl⟩
    · rw [if_neg h]
      obtain ⟨y, hy, he⟩ := ih (List.length_pos_iff.2 h)
      rcases Int.le_total (Rec.mx l) x.1 with h1 | h1
      · exact ⟨x, by simp, by omega⟩
      · exact ⟨y, by simp [hy], by rw [← he]; omega⟩
theorem mn_mx : ∀ l : List Rec.Ln, 0 < l.length → Rec.mn l ≤ Rec.mx l ∧ ∀ x ∈ l, Rec.mn l ≤ x.1 ∧ x.1 ≤ Rec.mx l := by
  intro l
  refine snoc_ind (P := fun l : List Rec.Ln => 0 < l.length → Rec.mn l ≤ Rec.mx l ∧ ∀ x ∈ l, Rec.mn l ≤ x.1 ∧ x.1 ≤ Rec.mx l) ?_ (fun l x ih => ?_) l
  · intro h; simp at h
  · intro _
    rw [Rec.mn_snoc, Rec.mx_snoc]
    by_cases h : l = []
    · rw [if_pos h, if_pos h]
      subst h
      refine ⟨Int.le_refl _, fun y hy => ?_⟩
      simp at hy
      subst hy
      exact ⟨Int.le_refl _, Int.le_refl _⟩
    · rw [if_neg h, if_neg h]
      obtain ⟨h1, h2⟩ := ih (List.length_pos_iff.2 h)
      refine ⟨by omega, fun y hy => ?_⟩
      rcases List.mem_append.1 hy with h3 | h3
      · have := h2 y h3
        omega
      · simp at h3
        subst h3
        omega
theorem Fine.len {l : List Rec.Ln} (h : Fine l) : l.length ≤ 131072 := by
  have h1 := Rec.len_le l
  have h2 := h.size
  unfold Rec.szF at h2
  omega
def payT (l : List Rec.Ln) : ByteArray := nums (Rec.payF l)
theorem payT_size (l : List Rec.Ln) : (payT l).size = Rec.szF l := by unfold payT; rw [nums_size, Rec.pay_len]
/-- the numbers of the head of lines -/
def wsL (a b f g : Nat) (l : List Rec.Ln) : List Nat := [a, b, l.length, (Rec.mn l).toNat, (Rec.mx l).toNat, f, (payT l).size, (pkL (payT l) g).size]
/-- the image -/
def imgL (a b f g : Nat) (l : List Rec.Ln) : List Nat := smd (hdL (wsL a b f g l) g) ++ smd (Sums.bl (pkL (payT l) g))
set_option maxHeartbeats 4000000 in
set_option maxRecDepth 100000 in
theorem seal_ok (a b f g : Nat) (c d e h i : Int) (v : Value) (l : List Rec.Ln) (w : World) (hv : LsAt v l w) (hl : Fine l) (ha : a ≤ 1152921504606846976) (hb : b ≤ 1152921504606846976) (hf : f ≤ 1152921504606846976) (hg : g ≤ 2) (ht : Tab w) :
    Calls Tryz.prog 12 #[hdV a b c d e f g h i, v] w fun r w' => r = .returned (.tuple #[.string (nums (imgL a b f g l)), .nilIface]) ∧ Below w.heap.size w w' := by
  have hlen := hl.len
  have h1 := hl.one
  have hE := Rec.enc_all l [] hl.all (by rw [List.nil_append]; exact hl.size)
  rw [List.nil_append] at hE
  have htx : ∀ x ∈ l, x.2.size ≤ 1125899906842624 := fun x hx => by have := (Rec.bad_le (hl.all x hx)).1; omega
  obtain ⟨x, hx, hmn⟩ := mn_in l h1
  obtain ⟨y, hy, hmx⟩ := mx_in l h1
  have b1 := bad_st (hl.all x hx)
  have b2 := bad_st (hl.all y hy)
  obtain ⟨mN, hmN⟩ : ∃ mN : Nat, Rec.mn l = (mN : Int) := ⟨(Rec.mn l).toNat, by omega⟩
  obtain ⟨mX, hmX⟩ : ∃ mX : Nat, Rec.mx l = (mX : Int) := ⟨(Rec.mx l).toNat, by omega⟩
  have hmNb : mN ≤ 253402300799999 := by omega
  have hmXb : mX ≤ 253402300799999 := by omega
  have hP := payT_size l
  have hPs := hl.size
  obtain ⟨P, hPP⟩ : ∃ P, payT l = P := ⟨_, rfl⟩
  have HENC : Hid (∀ W, LsAt v l W → Calls Tryz.prog 28 #[v] W fun e w' => e = .returned (.tuple #[.string P, .int .i64 0, .int .i64 0]) ∧ Below W.heap.size W w') := fun W hW => encode_any v l W hW (by omega) htx 0 0 l hE P (by rw [if_pos rfl, ← hPP]; rfl)
  have hps := pkL_size P g
  rw [hPP] at hP
  obtain ⟨Q, hQ⟩ : ∃ Q, pkL P g = Q := ⟨_, rfl⟩
  have HPK : Hid (∀ W, Calls Tryz.prog 29 #[.string P, .int .i64 (g : Int)] W fun e w' => e = .returned (.string Q) ∧ Below W.heap.size W w') := fun W => by rw [← hQ]; exact pack_any P g W (by omega) hg
  rw [hQ] at hps
  have HIM : Hid (imgL a b f g l = smd (hdL [a, b, l.length, mN, mX, f, P.size, Q.size] g) ++ smd (Sums.bl Q)) := by
    unfold imgL wsL
    rw [hPP, hQ, hmN, hmX]
    rfl
  obtain ⟨n, hn⟩ : ∃ n, l.length = n := ⟨_, rfl⟩
  obtain ⟨ad, cp, rfl, hvv⟩ := hv
  have HLS : Hid (LsAt (.slice ad n cp) l w) := by rw [← hn]; exact ⟨ad, cp, rfl, hvv⟩
  have HCT : Hid (∀ (c d e h i : Int) W, LsAt (.slice ad n cp) l W → Calls Tryz.prog 32 #[hdV a b c d e f g h i, .slice ad n cp] W fun r w' => r = .returned (hdV a b (n : Int) (mN : Int) (mX : Int) f g h i) ∧ Below W.heap.size W w') := fun c d e h i W hW => by
    have := counted_any a b c d e f g h i (.slice ad n cp) l W hW h1 (by omega)
    rw [hn, hmN, hmX] at this
    exact this
  rw [hn] at HIM HENC ⊢
  have HGV := Hid.mk' (fun W => given_ok a b f g c d e h i W ha hb hf hg)
  have HWH := Hid.mk' (fun W => writeHead_any a b n mN mX f P.size Q.size g W (by omega) (by omega) (by omega) (by omega) (by omega) (by omega) (by omega) (by omega) (by omega))
  obtain ⟨hd, hhd⟩ : ∃ hd, hdL [a, b, n, mN, mX, f, P.size, Q.size] g = hd := ⟨_, rfl⟩
  have hdb : ∀ z ∈ hd, z < 256 := by rw [← hhd]; exact hdL_byt _ _
  have hdl : hd.length = 69 := by rw [← hhd]; exact hdL_len _ _ rfl
  rw [hhd] at HWH HIM
  have HS1 : Hid (∀ W, Tab W → Calls Tryz.prog 30 #[.string (nums hd)] W fun e w' => e = .returned (.string (nums (smd hd))) ∧ Below W.heap.size W w') := fun W hW => by
    have := summed_any (nums hd) W (by rw [nums_size]; omega) hW
    rw [bl_nums hd hdb] at this
    exact this
  have HS2 : Hid (∀ W, Tab W → Calls Tryz.prog 30 #[.string Q] W fun e w' => e = .returned (.string (nums (smd (Sums.bl Q)))) ∧ Below W.heap.size W w') := fun W hW => summed_any Q W (by omega) hW
  have HAP : Hid (nums (smd hd) ++ nums (smd (Sums.bl Q)) = nums (imgL a b f g l)) := by
    rw [HIM.out]
    exact nums_app _ _ (smd_byt _ hdb) (smd_byt _ (Sums.bl_byt Q))
  have z1 : (nums (smd hd)).size = 73 := by rw [nums_size, smd_len]; omega
  have z2 : (nums (smd (Sums.bl Q))).size = Q.size + 4 := by rw [nums_size, smd_len, Sums.bl_length]
  have hn0 : ¬ (n : Int) = 0 := by omega
  have hQb : Q.size ≤ 200000 := by omega
  have hnB : ((n : Int) == 0) = false := by simp; omega
  have HT := Hid.mk' ht
  obtain ⟨w0, hw0⟩ : ∃ w0, w0 = w.alloc (.cells #[.int .i64 (a : Int), .int .i64 (b : Int), .int .i64 c, .int .i64 d, .int .i64 e, .int .i64 (f : Int), .int .i64 (g : Int), .int .i64 h, .int .i64 i] 23) := ⟨_, rfl⟩
  have HW0 : Hid (w0 = _) := hw0
  have HK0 : Hid (w0.heap[w.heap.size]? = some (.cells #[.int .i64 (a : Int), .int .i64 (b : Int), .int .i64 c, .int .i64 d, .int .i64 e, .int .i64 (f : Int), .int .i64 (g : Int), .int .i64 h, .int .i64 i] 23 (0, 0))) := by unfold Hid; rw [hw0]; exact heap_alloc_new _ _
  have HB0 : Hid (Below w.heap.size w w0) := by unfold Hid; rw [hw0]; exact (Below.refl _ _).alloc (Nat.le_refl _) _
  unfold hdV at HGV HCT HWH ⊢
  clear hlen h1 hE htx hx hy hmn hmx b1 b2 hmN hmX hP hPs hPP hQ hvv hhd hdb hdl ht hw0 hl ha hb hf hn hps
  go_enter Tryz.func12, Tryz.ntmps12
  go_wp2_with fail
  rw [← HW0.out]
  refine (HGV.out w0).mono ?_
  rintro r w1 ⟨rfl, hb1⟩
  have HB1 : Hid (Below w.heap.size w w1) := HB0.out.trans (hb1.mono HB0.out.size)
  have HK1 : Hid (w1.heap[w.heap.size]? = some (.cells #[.int .i64 (a : Int), .int .i64 (b : Int), .int .i64 c, .int .i64 d, .int .i64 e, .int .i64 (f : Int), .int .i64 (g : Int), .int .i64 h, .int .i64 i] 23 (0, 0))) := (hb1.block _ (Array.getElem?_eq_some_iff.1 HK0.out).1).trans HK0.out
  clear hb1 HB0 HK0 HW0
  go_wp2_with fail
  refine (HENC.out w1 (HLS.out.below HB1.out)).mono ?_
  rintro r w2 ⟨rfl, hb2⟩
  have HB2 : Hid (Below w.heap.size w w2) := HB1.out.trans (hb2.mono HB1.out.size)
  have HK2 : Hid (w2.heap[w.heap.size]? = some (.cells #[.int .i64 (a : Int), .int .i64 (b : Int), .int .i64 c, .int .i64 d, .int .i64 e, .int .i64 (f : Int), .int .i64 (g : Int), .int .i64 h, .int .i64 i] 23 (0, 0))) := (hb2.block _ (Array.getElem?_eq_some_iff.1 HK1.out).1).trans HK1.out
  have p6 := cell_at (k := 6) HK2.out rfl
  clear hb2 HB1 HK1
  go_wp2_with fail
  refine (HPK.out w2).mono ?_
  rintro r w3 ⟨rfl, hb3⟩
  have HB3 : Hid (Below w.heap.size w w3) := HB2.out.trans (hb3.mono HB2.out.size)
  have HK3 : Hid (w3.heap[w.heap.size]? = some (.cells #[.int .i64 (a : Int), .int .i64 (b : Int), .int .i64 c, .int .i64 d, .int .i64 e, .int .i64 (f : Int), .int .i64 (g : Int), .int .i64 h, .int .i64 i] 23 (0, 0))) := (hb3.block _ (Array.getElem?_eq_some_iff.1 HK2.out).1).trans HK2.out
  have p7 := cell_at (k := 7) HK3.out rfl
  have p8 := cell_at (k := 8) HK3.out rfl
  have g7 := frozen_at (k := 7) HK3.out
  have g8 := frozen_at (k := 8) HK3.out
  clear hb3 HB2 HK2 p6
  go_upto_region 10 with fail
  obtain ⟨w4, hw4⟩ : ∃ w4, (w3.setCell ⟨w.heap.size, 7, none⟩ (.int .i64 (P.size : Int))).setCell ⟨w.heap.size, 8, none⟩ (.int .i64 (Q.size : Int)) = w4 := ⟨_, rfl⟩
  have HB4 : Hid (Below w.heap.size w w4) := by unfold Hid; rw [← hw4]; exact (HB3.out.setCell (p := ⟨w.heap.size, 7, none⟩) (Nat.le_refl _) _).setCell (p := ⟨w.heap.size, 8, none⟩) (Nat.le_refl _) _
  have HK4 : Hid (w4.heap[w.heap.size]? = some (.cells #[.int .i64 (a : Int), .int .i64 (b : Int), .int .i64 c, .int .i64 d, .int .i64 e, .int .i64 (f : Int), .int .i64 (g : Int), .int .i64 (P.size : Int), .int .i64 (Q.size : Int)] 23 (0, 0))) := by unfold Hid; rw [← hw4]; exact (cells_put ((cells_put HK3.out _).trans rfl) _).trans rfl
  rw [hw4]
  have q0 := cell_at (k := 0) HK4.out rfl
  have q1 := cell_at (k := 1) HK4.out rfl
  have q2 := cell_at (k := 2) HK4.out rfl
  have q3 := cell_at (k := 3) HK4.out rfl
  have q4 := cell_at (k := 4) HK4.out rfl
  have q5 := cell_at (k := 5) HK4.out rfl
  have q6 := cell_at (k := 6) HK4.out rfl
  have q7 := cell_at (k := 7) HK4.out rfl
  have q8 := cell_at (k := 8) HK4.out rfl
  clear HB3 HK3 p7 p8 g7 g8 hw4
  go_wp2_with fail
  refine (HCT.out _ _ _ _ _ w4 (HLS.out.below HB4.out)).mono ?_
  rintro r w5 ⟨rfl, hb5⟩
  have HB5 : Hid (Below w.heap.size w w5) := HB4.out.trans (hb5.mono HB4.out.size)
  clear hb5 HB4 HK4 q0 q1 q2 q3 q4 q5 q6 q7 q8
  go_wp2_with fail
  refine (HWH.out w5).mono ?_
  rintro r w6 ⟨rfl, hb6⟩
  have HB6 : Hid (Below w.heap.size w w6) := HB5.out.trans (hb6.mono HB5.out.size)
  clear hb6 HB5
  go_wp2_with fail
  refine (HS1.out w6 (HT.out.below HB6.out)).mono ?_
  rintro r w7 ⟨rfl, hb7⟩
  have HB7 : Hid (Below w.heap.size w w7) := HB6.out.trans (hb7.mono HB6.out.size)
  clear hb7 HB6
  go_wp2_with fail
  refine (HS2.out w7 (HT.out.below HB7.out)).mono ?_
  rintro r w8 ⟨rfl, hb8⟩
  have HB8 : Hid (Below w.heap.size w w8) := HB7.out.trans (hb8.mono HB7.out.size)
  clear hb8 HB7
  go_wp2_with fail
  go_ret2
  exact ⟨ret_tup2 (by rw [HAP.out]; rfl) rfl, HB8.out⟩
end Go.Proofs.YtlplbnlfajdcbaaGreatDoor
