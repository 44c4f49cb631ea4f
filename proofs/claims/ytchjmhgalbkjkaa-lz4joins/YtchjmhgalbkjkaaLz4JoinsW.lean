/-
  Lz4Joins answers true: a packed text in two halves says the same. Conditions: what is handed in is within reach.
-/
import Derived.Test.YtchjmhgalbkjkaaJnA
import Derived.Test.YtchjmhgalbkjkaaShn
namespace Go.Proofs.Ytchjmhgalbkjkaa
open Go.RowKit Go.Shelf
set_option linter.unusedVariables false
theorem str_eq (a : ByteArray) (w : World) : (binOp .eql 9 (.string a) (.string a)).run Try.prog w = .ok (.bool true) w := by simp [go_sem]
/-- two boxes, as they lie -/
structure Two (b : Nat) (w0 : World) (x1 x2 : Nat) (P1 S1 P2 S2 : ByteArray) (l1 a1 l2 a2 : Value) (W : World) : Prop where
  one : W.heap[x1]? = some (.cells #[.string P1, .string S1, l1, a1] 31 (0, 0))
  two : W.heap[x2]? = some (.cells #[.string P2, .string S2, l2, a2] 31 (0, 0))
  bel : Below b w0 W
  siz : b ≤ W.heap.size
theorem joined {w0 w3 w5 : World} {P1 S1 P2 S2 : ByteArray} {l1 a1 l2 a2 : Value} (h : Below w0.heap.size w0 w3) (hb : Below (w3.alloc (.cells #[.string P1, .string S1, l1, a1] 31)).heap.size (w3.alloc (.cells #[.string P1, .string S1, l1, a1] 31)) w5) : Two w0.heap.size w0 w3.heap.size w5.heap.size P1 S1 P2 S2 l1 a1 l2 a2 (w5.alloc (.cells #[.string P2, .string S2, l2, a2] 31)) := by
  have h1 := heap_alloc_new w3 (.cells #[.string P1, .string S1, l1, a1] 31)
  have hs := h.size
  have hs5 := hb.size
  have hlt : w3.heap.size < (w3.alloc (.cells #[.string P1, .string S1, l1, a1] 31)).heap.size := by simp
  refine ⟨?_, heap_alloc_new w5 _, ?_, ?_⟩
  · rw [Below.heap_alloc _ _ _ (by omega), hb.block _ hlt]
    exact h1
  · exact (((h.alloc hs _).trans (hb.mono (by omega)))).alloc (by omega) _
  · simp
    omega
section
variable {b x1 x2 : Nat} {w0 W W' : World} {P1 S1 P2 S2 : ByteArray} {l1 a1 l2 a2 : Value}
theorem Two.below (h : Two b w0 x1 x2 P1 S1 P2 S2 l1 a1 l2 a2 W) (hb : Below W.heap.size W W') : Two b w0 x1 x2 P1 S1 P2 S2 l1 a1 l2 a2 W' :=
  ⟨(hb.block x1 (Array.getElem?_eq_some_iff.1 h.one).1).trans h.one, (hb.block x2 (Array.getElem?_eq_some_iff.1 h.two).1).trans h.two, h.bel.trans (hb.mono h.siz), Nat.le_trans h.siz hb.size⟩
theorem Two.cells (h : Two b w0 x1 x2 P1 S1 P2 S2 l1 a1 l2 a2 W) : W.cell? ⟨x1, 0, none⟩ = some (.string P1) ∧ W.cell? ⟨x1, 1, none⟩ = some (.string S1) ∧ W.cell? ⟨x2, 0, none⟩ = some (.string P2) :=
  ⟨cell_of h.one 0 _ rfl, cell_of h.one 1 _ rfl, cell_of h.two 0 _ rfl⟩
end
set_option maxRecDepth 100000 in
set_option maxHeartbeats 4000000 in
theorem lz4Joins_any (bef : ByteArray) (p : Option Addr) (len cap : Nat) (K : Nat → ByteArray) (B M : Nat → Int) (en : ByteArray) (at_ : Int) (w : World) (hbef : bef.size ≤ 140737488351232) (hlen : len ≤ 140737488351232) (hcap : len ≤ cap)
    (hz : ∀ i, i < len → (K i).size ≤ 140737488351232 ∧ (-9223372036854775808 ≤ B i ∧ B i ≤ 9223372036854775807) ∧ (-9223372036854775808 ≤ M i ∧ M i ≤ 9223372036854775807))
    (hc : ∀ i, i < len → ∃ g off, p = some ⟨g, off, none⟩ ∧ w.cell? ⟨g, off + i * 3, none⟩ = some (.string (K i)) ∧ w.cell? ⟨g, off + i * 3 + 1, none⟩ = some (.int .i64 (B i)) ∧ w.cell? ⟨g, off + i * 3 + 2, none⟩ = some (.int .i64 (M i)))
    (hen : en.size ≤ 140737488351232) (h0 : -9223372036854775808 ≤ at_) (h1 : at_ ≤ 9223372036854775807) :
    Calls Try.prog 5 #[.string bef, .slice p len cap, .string en, .int .i64 at_] w fun e w' => e = .returned (.bool true) ∧ Below w.heap.size w w' := by
  have hst := stL_steps w p len K B M hz hc
  clear hz hc
  obtain ⟨L, hL⟩ : ∃ L, stL K B M len = L := ⟨_, rfl⟩
  have hLl : L.length = len := by rw [← hL, stL_length]
  rw [hL] at hst
  clear hL
  obtain ⟨q, hq⟩ : ∃ q, min len 60 + 1 = q := ⟨_, rfl⟩
  have hqI : min (len : Int) 60 + 1 = (q : Int) := by omega
  have HPK := Hid.mk' (fun W => pick_det at_ (q : Int) W (by omega) (by omega) h0 h1)
  obtain ⟨k, hk⟩ : ∃ k, pickN at_ (q : Int) = k := ⟨_, rfl⟩
  have hkq : k < q := by have := pickN_lt at_ (q : Int) (by omega); omega
  rw [hk] at HPK
  have hk60 : k ≤ 60 := by omega
  have hkl : k ≤ len := by omega
  have hkc : k ≤ cap := by omega
  have hkcI : (k : Int) ≤ (cap : Int) := by omega
  obtain ⟨E, hE⟩ : ∃ E, endOf en = E := ⟨_, rfl⟩
  have hEs : E.size ≤ 100000 := by rw [← hE, endOf, ByteArray.size_extract]; omega
  have hE0 : endOf ⟨#[]⟩ = ⟨#[]⟩ := rfl
  obtain ⟨A, hA⟩ : ∃ A, L.take k = A := ⟨_, rfl⟩
  obtain ⟨D, hD⟩ : ∃ D, (L.take 60).drop k = D := ⟨_, rfl⟩
  have hAD : L.take 60 = A ++ D := by
    rw [← hA, ← hD]
    conv => lhs; rw [← List.take_append_drop k (L.take 60)]
    rw [List.take_take, Nat.min_eq_left hk60]
  have hAl : A.length = k := by rw [← hA, List.length_take]; omega
  have hA60 : A.take 60 = A := List.take_of_length_le (by omega)
  have hDl : D.length ≤ 60 := by rw [← hD, List.length_drop, List.length_take]; omega
  have hADl : (A ++ D).length ≤ 60 := by rw [← hAD, List.length_take]; omega
  obtain ⟨SF, hSF⟩ : ∃ SF, saidT bef A ⟨#[]⟩ = SF := ⟨_, rfl⟩
  obtain ⟨PF, hPF⟩ : ∃ PF, packT (mkP (Sums.bl bef) A) ⟨#[]⟩ = PF := ⟨_, rfl⟩
  obtain ⟨PW, hPW⟩ : ∃ PW, packT (mkP (Sums.bl bef) (A ++ D)) E = PW := ⟨_, rfl⟩
  obtain ⟨SW, hSW⟩ : ∃ SW, saidT bef (A ++ D) E = SW := ⟨_, rfl⟩
  have t1 := mkP_tot A (Sums.bl bef)
  have t2 := mkP_tot (A ++ D) (Sums.bl bef)
  have t3 := mkP_tot D (Sums.bl (bef ++ SF))
  have sF : SF.size ≤ 300000 := by
    rw [← hSF, saidT_size]
    have : (⟨#[]⟩ : ByteArray).size = 0 := rfl
    omega
  have pF := pack_size A (Sums.bl bef) ⟨#[]⟩ (by decide)
  have pW := pack_size (A ++ D) (Sums.bl bef) E hEs
  rw [hPF] at pF
  rw [hPW] at pW
  obtain ⟨pf, hpf⟩ : ∃ pf, PF.size = pf + 1 := ⟨PF.size - 1, by omega⟩
  have hpfI : (PF.size : Int) - 1 = (pf : Int) := by omega
  have hhp := half_pack bef A D E pf (by rw [hPF]; omega)
  rw [hSF, hPW] at hhp
  have hpw : pf ≤ PW.size := by
    have := half_le bef A D E pf (by rw [hPF]; omega)
    rw [hPW] at this
    exact this
  obtain ⟨PX, hPX⟩ : ∃ PX, packT (mkP (Sums.bl (bef ++ SF)) D) E = PX := ⟨_, rfl⟩
  rw [hPX] at hhp
  obtain ⟨SX, hSX⟩ : ∃ SX, saidT (bef ++ SF) D E = SX := ⟨_, rfl⟩
  have hsum : SF ++ SX = SW := by
    have := half_said bef A D E
    rw [hSF, hSX, hSW] at this
    exact this
  have pX := pack_size D (Sums.bl (bef ++ SF)) E hEs
  rw [hPX] at pX
  have hbs : (bef ++ SF).size = bef.size + SF.size := by simp
  obtain ⟨u, hu⟩ : ∃ u, bef ++ SF = u := ⟨_, rfl⟩
  rw [hu] at hPX hSX hbs t3
  have x1 := exp_made bef A ⟨#[]⟩ (by decide) 1099511627776 (by have : (⟨#[]⟩ : ByteArray).size = 0 := rfl; omega)
  have x2 := exp_made u D E hEs 1099511627776 (by omega)
  have x3 := exp_made bef (A ++ D) E hEs 1099511627776 (by omega)
  rw [hPF, hSF] at x1
  rw [hPX, hSX] at x2
  rw [hPW, hSW] at x3
  have e40 : ((1099511627776 : Nat) : Int) = 1099511627776 := rfl
  rw [e40] at x1 x2 x3
  have HX1 := Hid.mk' (fun W => expandOn_all bef PF 1099511627776 W (by omega) (by omega) (by omega) (by omega))
  have HX2 := Hid.mk' (fun W => expandOn_all u PX 1099511627776 W (by omega) (by omega) (by omega) (by omega))
  have HX3 := Hid.mk' (fun W => expandOn_all bef PW 1099511627776 W (by omega) (by omega) (by omega) (by omega))
  rw [x1] at HX1
  rw [x2] at HX2
  rw [x3] at HX3
  have HX4 := Hid.mk' (fun W => expand_all PW 1099511627776 W (by omega) (by omega) (by omega))
  have HX5 := Hid.mk' (fun W => expandOn_all ⟨#[]⟩ PW 1099511627776 W (by omega) (by decide) (by omega) (by omega))
  obtain ⟨x6, y6, z6, hsh⟩ := expR_shape ⟨#[]⟩ PW 1099511627776
  rw [hsh] at HX4 HX5
  have HMW : Hid (∀ W, Steps W p L → Calls Try.prog 12 #[.string bef, .slice p len cap, .string en] W fun e w' => ∃ b1 c1 b2 c2 n, e = .returned (.agg #[.string PW, .string SW, .slice b1 n c1, .slice b2 n c2]) ∧ Below W.heap.size W w') := by
    intro W hW
    have hm := made_any bef en p cap L W (by omega) (by omega) (by omega) hW
    rw [hLl] at hm
    refine hm.mono ?_
    rintro e w' ⟨lv, av, ps, rfl, rfl, hr1, hr2, hb⟩
    obtain ⟨n, hn⟩ : ∃ n, (mkP (Sums.bl bef) (L.take 60)).length + 1 = n := ⟨_, rfl⟩
    rw [hn] at hr1 hr2
    obtain ⟨b1, c1, rfl⟩ := row_shape' hr1
    obtain ⟨b2, c2, rfl⟩ := row_shape' hr2
    refine ⟨b1, c1, b2, c2, n, ?_, hb⟩
    rw [hAD, hE, ← hPW, ← hSW]
    rfl
  have HMF : Hid (∀ W, Steps W p A → Calls Try.prog 12 #[.string bef, .slice p k cap, .string ⟨#[]⟩] W fun e w' => ∃ b1 c1 b2 c2 n, e = .returned (.agg #[.string PF, .string SF, .slice b1 n c1, .slice b2 n c2]) ∧ Below W.heap.size W w') := by
    intro W hW
    have hm := made_any bef ⟨#[]⟩ p cap A W (by omega) (by decide) (by omega) hW
    rw [hAl] at hm
    refine hm.mono ?_
    rintro e w' ⟨lv, av, ps, rfl, rfl, hr1, hr2, hb⟩
    obtain ⟨n, hn⟩ : ∃ n, (mkP (Sums.bl bef) (A.take 60)).length + 1 = n := ⟨_, rfl⟩
    rw [hn] at hr1 hr2
    obtain ⟨b1, c1, rfl⟩ := row_shape' hr1
    obtain ⟨b2, c2, rfl⟩ := row_shape' hr2
    refine ⟨b1, c1, b2, c2, n, ?_, hb⟩
    rw [hA60, hE0, ← hPF, ← hSF]
    rfl
  have HST := Hid.mk' hst
  have hstA : Steps w p A := by rw [← hA]; exact hst.take k
  have HSA := Hid.mk' hstA
  have hse := str_eq
  have hhp2 : PW.extract pf PW.size = PX := hhp
  have hpws : PW.size ≤ 1000000 := by omega
  have hpfs : PF.size ≤ 1000000 := by omega
  have hub : u.size ≤ 140737488651233 := by omega
  have hsfs : SF.size ≤ 300000 := sF
  have hsxs : SX.size ≤ 1000000 := by
    rw [← hSX, saidT_size]
    omega
  have hpfl : (pf : Int) ≤ (PW.size : Int) := by omega
  clear hst hstA hsh x1 x2 x3 t1 t2 t3 pF pW pX hPF hPW hSF hSW hPX hSX hA hD hAD hA60 hE0 hE hhp e40
  go_enter Try.func5, Try.ntmps5
  go_wp2_with (first | (go_at_call 9; refine (shown_any _).mono ?_; rintro e w1 ⟨rfl, hb1⟩; have HB1 := Hid.mk' hb1; have HS1 := Hid.mk' (HST.out.below hb1 (Nat.le_refl _)); clear hb1) | (go_at_call 15; refine (HPK.out _).mono ?_; rintro e w2 ⟨rfl, rfl⟩) | (go_at_call_of 12 en; refine (HMW.out _ HS1.out).mono ?_; rintro e w3 ⟨lb, lc, ab, ac, nn, rfl, hb3⟩; have HB3 := Hid.mk' (HB1.out.trans (hb3.mono HB1.out.size)); clear hb3) | (go_at_call_of 12 k; refine (HMF.out _ (HSA.out.below (HB3.out.alloc HB3.out.size _) (Nat.le_refl _))).mono ?_; rintro e w5 ⟨lb5, lc5, ab5, ac5, nn5, rfl, hb5⟩; have HT := Hid.mk' (joined (P2 := PF) (S2 := SF) (l2 := .slice lb5 nn5 lc5) (a2 := .slice ab5 nn5 ac5) HB3.out hb5); obtain ⟨c1, c2, c3⟩ := HT.out.cells; clear hb5) | (go_at_call_of 13 PF; refine (HX1.out _).mono ?_; rintro e w6 ⟨rfl, hb6⟩; have HT6 := Hid.mk' (HT.out.below hb6); obtain ⟨c1, c2, c3⟩ := HT6.out.cells; clear hb6) | (go_at_call_of 13 u; refine (HX2.out _).mono ?_; rintro e w7 ⟨rfl, hb7⟩; have HT7 := Hid.mk' (HT6.out.below hb7); obtain ⟨c1, c2, c3⟩ := HT7.out.cells; clear hb7) | (go_at_call_of 13 bef; refine (HX3.out _).mono ?_; rintro e w8 ⟨rfl, hb8⟩; have HT8 := Hid.mk' (HT7.out.below hb8); obtain ⟨c1, c2, c3⟩ := HT8.out.cells; clear hb8) | (go_at_call 16; refine (HX4.out _).mono ?_; rintro e w9 ⟨rfl, hb9⟩; have HT9 := Hid.mk' (HT8.out.below hb9); obtain ⟨c1, c2, c3⟩ := HT9.out.cells; clear hb9) | (go_at_call 13; refine (HX5.out _).mono ?_; rintro e w10 ⟨rfl, hb10⟩; have HT10 := Hid.mk' (HT9.out.below hb10); obtain ⟨c1, c2, c3⟩ := HT10.out.cells; clear hb10) | fail)
  go_ret
  exact ⟨rfl, HT10.out.bel⟩
end Go.Proofs.Ytchjmhgalbkjkaa
