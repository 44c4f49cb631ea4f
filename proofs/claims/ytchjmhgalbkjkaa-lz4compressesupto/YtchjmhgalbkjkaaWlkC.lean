/-
  lz4.walk hands the sequences over, one by one, and answers as the walk over numbers does. Conditions: as it says.
-/
import Derived.Test.YtchjmhgalbkjkaaWlkB
namespace Go.Proofs.Ytchjmhgalbkjkaa
open Go.RowKit
set_option linter.unusedVariables false
theorem eqb_lit (c k : Nat) (z : Int) (h : z = (k : Int)) : ((c : Int) == z) = (c == k) := by
  subst h
  rw [Bool.eq_iff_iff]
  simp
  omega
theorem nb_short (bs : List Nat) (token low said ahead most i n : Nat) (h : bs.length < i + n) : Lz.nextB bs token low said ahead most (0, n, i) = ⟨30, bs.length, 0, 0, 0, 0, 0⟩ := by simp [Lz.nextB, h]
theorem nb_last (bs : List Nat) (token low said ahead most i n : Nat) (h : i + n = bs.length) : Lz.nextB bs token low said ahead most (0, n, i) = ⟨0, 0, i, n, 0, 0, i + n⟩ := by simp [Lz.nextB, h]
theorem nb_one (bs : List Nat) (token low said ahead most i n : Nat) (h : i + n + 1 = bs.length) : Lz.nextB bs token low said ahead most (0, n, i) = ⟨30, bs.length, 0, 0, 0, 0, 0⟩ := by simp [Lz.nextB, h, show ¬ bs.length < i + n by omega, show ¬ i + n = bs.length by omega]
theorem nb_off (bs : List Nat) (token low said ahead most i n : Nat) (h : i + n + 1 < bs.length) (ho : Lz.offAt bs (i + n) = 0 ∨ ahead + said + n < Lz.offAt bs (i + n)) : Lz.nextB bs token low said ahead most (0, n, i) = ⟨40, i + n, 0, 0, 0, 0, 0⟩ := by
  simp [Lz.nextB, show ¬ bs.length < i + n by omega, show ¬ i + n = bs.length by omega, show ¬ i + n + 1 = bs.length by omega, ho]
theorem nb_copy (bs : List Nat) (token low said ahead most i n : Nat) (h : i + n + 1 < bs.length) (ho : ¬ (Lz.offAt bs (i + n) = 0 ∨ ahead + said + n < Lz.offAt bs (i + n))) :
    Lz.nextB bs token low said ahead most (0, n, i) = Lz.nextC bs token i n (Lz.offAt bs (i + n)) (Lz.counted bs (i + n + 2) (low + 4) (low == 15) (most - said - n)) := by
  simp only [Lz.nextB, if_neg (show ¬ bs.length < i + n by omega), if_neg (show ¬ i + n = bs.length by omega), if_neg (show ¬ i + n + 1 = bs.length by omega), if_neg ho]
  rfl
set_option maxRecDepth 100000 in
set_option maxHeartbeats 4000000 in
theorem walk_any (s : ByteArray) (ahead most : Nat) (g : FuncId) (cap : Array Value) (J Jx : List Lz.Sq → World → Prop) (w : World) (hs : s.size ≤ 140737488355328) (hm : most ≤ 9223372036854775807) (ha : ahead ≤ 140737492549632)
    (K : Tk s g cap w.heap.size (allOf s ahead most).1 J Jx) (hJ0 : ∀ w', Below w.heap.size w w' → w'.heap.size = w.heap.size + 1 → J [] w') :
    Calls Try.prog 28 #[.string s, .int .i64 (ahead : Int), .int .i64 (most : Int), .func (.func g) #[] cap] w (WR s ahead most J Jx) := by
  go_enter Try.func28, Try.ntmps28
  go_wp2
  refine wp_scope_three (J0 s ahead most g cap w.heap.size J) (fun a w' => JA s ahead most g cap w.heap.size J a w' ∨ JB s ahead most g cap w.heap.size J a w') (J2 s ahead most g cap w.heap.size J) (m0 s) (m1 s) (m2 s) rfl rfl rfl ?_ ?_ ?_ ?_
  · rintro a w1 (⟨pre, at_, said, count, low, fo, token, f, rfl, hbox, hJ, hL, h1, h2, h3, h4, hn⟩ | ⟨pre, at_, said0, many, count, low, fo, token, frm, off, f, rfl, hbox, hJ, hL, h1, h2, h3, h4, h5, h6, hn⟩)
    · obtain ⟨B, hB⟩ : ∃ B, w.heap.size = B := ⟨_, rfl⟩
      rw [hB] at hbox K ⊢
      have c0 := hbox.c0
      have c1 := hbox.c1
      have c2 := hbox.c2
      have c3 := hbox.c3
      have f0 : w1.frozen? ⟨B, 0, none⟩ = false := hbox.fz
      have f1 : w1.frozen? ⟨B, 1, none⟩ = false := hbox.fz
      have f2 : w1.frozen? ⟨B, 2, none⟩ = false := hbox.fz
      have hent := K.ent
      have hsm := hL.2.1
      have HJ := Hid.mk' hJ
      have HB := Hid.mk' hbox
      have HL := Hid.mk' hL
      have HN := Hid.mk' hn
      have HK := Hid.mk' K
      clear hJ hbox hL hn hJ0 K
      by_cases hgt : most < said + count
      · have e1 := left_err s ahead most pre token said HL.out 41 token _ HN.out (by rw [Lz.counted_most _ _ _ _ _ (by omega)]; rfl) (by rw [Lz.counted_most _ _ _ _ _ (by omega)]; rfl) (by omega)
        have E1 := Hid.mk' e1
        clear e1
        have hg1 : (most : Int) - (said : Int) < (count : Int) := by omega
        go_wp2
        go_region
        go_wp2
        simp only [jump3]
        go_ret2
        exact wr_err E1.out (HK.out.stay _ _ _ HJ.out (At.drewN 1))
      · have hg1 : ¬ (most : Int) - (said : Int) < (count : Int) := by omega
        have hr : ¬ most - said < count := by omega
        cases fo with
        | true =>
          by_cases hend : s.size ≤ at_
          · have e1 := left_err s ahead most pre token said HL.out 30 s.size _ HN.out (by rw [Lz.counted_short _ _ _ _ hr (by rw [Sums.bl_length]; exact hend)]; rfl) (by rw [Lz.counted_short _ _ _ _ hr (by rw [Sums.bl_length]; exact hend)]; exact Sums.bl_length s) (by omega)
            have E1 := Hid.mk' e1
            obtain rfl : at_ = s.size := by omega
            clear e1
            go_wp2
            simp only [jump3]
            go_ret2
            exact wr_err E1.out HJ.out
          · have hlt : at_ < s.size := by omega
            obtain ⟨c, hc⟩ : ∃ c, c = (Sums.bl s).getD at_ 0 := ⟨_, rfl⟩
            have hc256 : c < 256 := byte_lt s at_ c hc
            have hidx := idx_any s at_ c hlt hc
            have hn := HN.out
            rw [Lz.counted_step _ _ _ _ hr (by rw [Sums.bl_length]; exact hlt), ← hc] at hn
            have HN2 := Hid.mk' hn
            clear hn hc
            go_wp2
            go_step3
            rw [eqb_lit c 255 (255 : Int) rfl]
            refine ⟨.inl (JA_mk s ahead most g cap B J _ pre (at_ + 1) said (count + c) low (c == 255) token HB.out HJ.out HL.out h1 (by omega) (by omega) (by omega) HN2.out), ?_⟩
            simp [m1, intOf]
            omega
        | false =>
          have hn := HN.out
          rw [Lz.counted_done _ _ _ _ hr] at hn
          obtain ⟨p, hp⟩ : ∃ p, at_ + count = p := ⟨_, rfl⟩
          have hpI : (at_ : Int) + (count : Int) = (p : Int) := by omega
          have hlen := Sums.bl_length s
          by_cases hsh : s.size < p
          · have e1 := left_err s ahead most pre token said HL.out 30 s.size _ hn (by rw [nb_short _ _ _ _ _ _ _ _ (by rw [hlen, hp]; exact hsh)]) (by rw [nb_short _ _ _ _ _ _ _ _ (by rw [hlen, hp]; exact hsh)]; exact hlen) (by omega)
            have E1 := Hid.mk' e1
            clear e1 hn HN hlen
            have hd : (s.size : Int) - (at_ : Int) < (count : Int) := by omega
            go_wp2
            simp only [jump3]
            go_ret2
            exact wr_err E1.out HJ.out
          · have hd : ¬ (s.size : Int) - (at_ : Int) < (count : Int) := by omega
            by_cases hla : p = s.size
            · have e1 := left_last s ahead most pre token said HL.out at_ count p (by rw [hn, nb_last _ _ _ _ _ _ _ _ (by rw [hlen, hp]; exact hla), hp])
              have E1 := Hid.mk' e1
              clear e1 hn HN hlen
              have hx : s.extract at_ s.size = s.extract at_ (at_ + count) := by rw [hp, hla]
              go_wp2
              skip
              refine (HK.out.call pre ⟨token, at_, count, 0, 0⟩ _ (HK.out.stay _ _ _ HJ.out (At.set 1 _)) (by rw [E1.out]; exact List.prefix_refl _) ⟨_, _, _, _, HB.out.set1⟩).mono ?_
              rintro e w2 (⟨rfl, hJ2, hblk⟩ | ⟨rfl, hJ2⟩)
              · go_wp2
                simp only [jump3]
                go_ret2
                exact wr_err E1.out hJ2
              · go_wp2
                simp only [jump3]
                go_ret2
                exact .inr ⟨rfl, _, by rw [E1.out]; exact List.prefix_refl _, hJ2⟩
            · have hap : at_ ≤ p := by omega
              have hps : p ≤ s.size := by omega
              by_cases hone : p + 1 = s.size
              · have e1 := left_err s ahead most pre token said HL.out 30 s.size _ hn (by rw [nb_one _ _ _ _ _ _ _ _ (by rw [hlen, hp]; exact hone)]) (by rw [nb_one _ _ _ _ _ _ _ _ (by rw [hlen, hp]; exact hone)]; exact hlen) (by omega)
                have E1 := Hid.mk' e1
                clear e1 hn HN hlen
                go_wp2
                simp only [jump3]
                go_ret2
                exact wr_err E1.out (HK.out.stay _ _ _ HJ.out (At.set 1 _))
              · obtain ⟨c, hc⟩ : ∃ c, c = (Sums.bl s).getD p 0 := ⟨_, rfl⟩
                obtain ⟨d, hd2⟩ : ∃ d, d = (Sums.bl s).getD (p + 1) 0 := ⟨_, rfl⟩
                have hc256 : c < 256 := byte_lt s p c hc
                have hd256 : d < 256 := byte_lt s (p + 1) d hd2
                have hidx := idx_any s p c (by omega) hc
                have hidy := idx_any s (p + 1) d (by omega) hd2
                obtain ⟨p1, hp1⟩ : ∃ p1, p + 1 = p1 := ⟨_, rfl⟩
                have hp1I : (p : Int) + 1 = (p1 : Int) := by omega
                rw [hp1] at hidy
                have hof : Lz.offAt (Sums.bl s) p = c + 256 * d := by rw [Lz.offAt, ← hc, ← hd2]
                obtain ⟨o, ho⟩ : ∃ o, c + 256 * d = o := ⟨_, rfl⟩
                have hor := or_two c d hc256 hd256
                rw [ho] at hor hof
                have HOF := Hid.mk' hof
                have HO := Hid.mk' ho
                have HN1 := Hid.mk' hn
                have HLN := Hid.mk' hlen
                have hob : o < 65536 := by omega
                obtain ⟨q, hq⟩ : ∃ q, said + count = q := ⟨_, rfl⟩
                have hqI : (said : Int) + (count : Int) = (q : Int) := by omega
                clear hc hd2 hof ho hn HN hlen
                have hbad40 : (o = 0 ∨ ahead + q < o) → Hid (allOf s ahead most = (pre, 40, p)) := fun hbad =>
                  left_err s ahead most pre token said HL.out 40 p _ HN1.out (by rw [nb_off _ _ _ _ _ _ _ _ (by rw [HLN.out, hp]; omega) (by rw [hp, HOF.out]; omega)]) (by rw [nb_off _ _ _ _ _ _ _ _ (by rw [HLN.out, hp]; omega) (by rw [hp, HOF.out]; omega)]; exact hp) (by omega)
                by_cases ho0 : o = 0
                · have E1 := hbad40 (.inl ho0)
                  clear hbad40 HOF HO
                  subst ho0
                  go_wp2
                  go_region
                  go_wp2
                  simp only [jump3]
                  go_ret2
                  exact wr_err E1.out (HK.out.stay _ _ _ HJ.out (((At.set 1 _).trans (At.drewN 1)).trans (At.set 2 _)))
                · by_cases hfar : ahead + q < o
                  · have E1 := hbad40 (.inr hfar)
                    clear hbad40
                    have hne : ((o : Int) == 0) = false := by simp; exact ho0
                    have hfarI : (ahead : Int) + (q : Int) < (o : Int) := by omega
                    go_wp2
                    go_region
                    go_wp2
                    simp only [jump3]
                    go_ret2
                    exact wr_err E1.out (HK.out.stay _ _ _ HJ.out (((At.set 1 _).trans (At.drewN 1)).trans (At.set 2 _)))
                  · clear hbad40
                    have hn := HN1.out
                    rw [nb_copy _ _ _ _ _ _ _ _ (by rw [HLN.out, hp]; omega) (by rw [hp, HOF.out]; omega), hp, HOF.out] at hn
                    have HN2 := Hid.mk' hn
                    clear hn HN1
                    have hne : ((o : Int) == 0) = false := by simp; exact ho0
                    have hfarI : ¬ (ahead : Int) + (q : Int) < (o : Int) := by omega
                    go_wp2
                    go_region
                    go_wp2
                    go_step3
                    rw [show (4 : Int) + (low : Int) = ((low + 4 : Nat) : Int) by omega, show (p : Int) + 2 = ((p + 2 : Nat) : Int) by omega, eqb_lit low 15 (15 : Int) rfl, ← hq]
                    refine ⟨.inr (JB_mk s ahead most g cap B J _ pre (p + 2) said count (low + 4) low (low == 15) token at_ o (by rw [hp]; exact (HB.out.set1.set2).drewN 1) (HK.out.stay _ _ _ HJ.out (((At.set 1 _).trans (At.set 2 _)).trans (At.drewN 1))) HL.out (by omega) (by omega) (by omega) (by omega) (by omega) (by omega) HN2.out), ?_⟩
                    simp [m1, intOf]
                    omega
    · obtain ⟨B, hB⟩ : ∃ B, w.heap.size = B := ⟨_, rfl⟩
      rw [hB] at hbox K ⊢
      have c0 := hbox.c0
      have c2 := hbox.c2
      have f0 : w1.frozen? ⟨B, 0, none⟩ = false := hbox.fz
      have HJ := Hid.mk' hJ
      have HB := Hid.mk' hbox
      have HL := Hid.mk' hL
      have HN := Hid.mk' hn
      have HK := Hid.mk' K
      clear hJ hbox hL hn hJ0 K
      by_cases hgt : most < said0 + many + count
      · have e1 := left_err s ahead most pre token said0 HL.out 41 token _ HN.out (by rw [Lz.counted_most _ _ _ _ _ (by omega)]; rfl) (by rw [Lz.counted_most _ _ _ _ _ (by omega)]; rfl) (by omega)
        have E1 := Hid.mk' e1
        clear e1
        have hg1 : (most : Int) - (((said0 + many : Nat)) : Int) < (count : Int) := by omega
        go_wp2
        go_region
        go_wp2
        simp only [jump3]
        go_ret2
        exact wr_err E1.out (HK.out.stay _ _ _ HJ.out (At.drewN 1))
      · have hg1 : ¬ (most : Int) - (((said0 + many : Nat)) : Int) < (count : Int) := by omega
        have hr : ¬ most - said0 - many < count := by omega
        cases fo with
        | false =>
          have hn := HN.out
          rw [Lz.counted_done _ _ _ _ hr] at hn
          have HN2 := Hid.mk' hn
          clear hn
          go_wp2
          go_step3
          refine ⟨J2_mk s ahead most g cap B J _ pre at_ said0 many count low false token frm off HB.out HJ.out HL.out h2 h3 (by omega) h5 h6 HN2.out, ?_⟩
          simp [m1, m2, intOf]
        | true =>
          by_cases hend : s.size ≤ at_
          · have e1 := left_err s ahead most pre token said0 HL.out 30 s.size _ HN.out (by rw [Lz.counted_short _ _ _ _ hr (by rw [Sums.bl_length]; exact hend)]; rfl) (by rw [Lz.counted_short _ _ _ _ hr (by rw [Sums.bl_length]; exact hend)]; exact Sums.bl_length s) (by omega)
            have E1 := Hid.mk' e1
            obtain rfl : at_ = s.size := by omega
            clear e1
            go_wp2
            simp only [jump3]
            go_ret2
            exact wr_err E1.out HJ.out
          · have hlt : at_ < s.size := by omega
            obtain ⟨c, hc⟩ : ∃ c, c = (Sums.bl s).getD at_ 0 := ⟨_, rfl⟩
            have hc256 : c < 256 := byte_lt s at_ c hc
            have hidx := idx_any s at_ c hlt hc
            have hn := HN.out
            rw [Lz.counted_step _ _ _ _ hr (by rw [Sums.bl_length]; exact hlt), ← hc] at hn
            have HN2 := Hid.mk' hn
            clear hn hc
            go_wp2
            go_step3
            rw [eqb_lit c 255 (255 : Int) rfl]
            refine ⟨.inr (JB_mk s ahead most g cap B J _ pre (at_ + 1) said0 many (count + c) low (c == 255) token frm off HB.out HJ.out HL.out h1 (by omega) (by omega) h4 (by omega) (by omega) HN2.out), ?_⟩
            simp [m1, intOf]
            omega
  · rintro a w1 ⟨pre, at_, said0, many, count, low, fo, token, frm, off, f, rfl, hbox, hJ, hL, h1, h2, h3, h4, h5, hn⟩
    obtain ⟨B, hB⟩ : ∃ B, w.heap.size = B := ⟨_, rfl⟩
    rw [hB] at hbox K ⊢
    have hent := K.ent
    have c0 := hbox.c0
    have c1 := hbox.c1
    have c2 := hbox.c2
    have c3 := hbox.c3
    have f3 : w1.frozen? ⟨B, 3, none⟩ = false := hbox.fz
    obtain ⟨hpre, hL2⟩ := left_next s ahead most pre token said0 hL frm many off count at_ hn h5 h1 h2 h3 h4
    have HH := Hid.mk' (And.intro hpre hL2)
    have HK := Hid.mk' K
    have HJ := Hid.mk' hJ
    have HB := Hid.mk' hbox
    clear hpre hL2 K hJ hbox hL hn hJ0
    go_wp2
    refine (HK.out.call pre ⟨token, frm, many, off, count⟩ _ (HK.out.stay _ _ _ HJ.out (At.set 3 _)) HH.out.1 ⟨_, _, _, _, HB.out.set3⟩).mono ?_
    rintro e w2 (⟨rfl, hJ2, hblk⟩ | ⟨rfl, hJ2⟩)
    · go_wp2
      go_step3
      rw [show ((said0 : Int) + (many : Int) + (count : Int)) = ((said0 + many + count : Nat) : Int) by omega]
      refine ⟨J0_mk s ahead most g cap B J w2 _ at_ _ count low fo token off count (s.extract frm (frm + many)) (hblk.trans HB.out.set3) hJ2 HH.out.2, ?_⟩
      simp [m0, m2, intOf]
    · go_wp2
      simp only [jump3]
      go_ret2
      exact .inr ⟨rfl, _, HH.out.1, hJ2⟩
  · rintro P1 a w1 ⟨pre, at_, said, count, low, fo, t, o, c, l, f, rfl, hbox, hJ, hL⟩
    obtain ⟨B, hB⟩ : ∃ B, w.heap.size = B := ⟨_, rfl⟩
    rw [hB] at hbox K P1 ⊢
    have c0 := hbox.c0
    have c1 := hbox.c1
    have c2 := hbox.c2
    have c3 := hbox.c3
    have f0 : w1.frozen? ⟨B, 0, none⟩ = false := hbox.fz
    have f1 : w1.frozen? ⟨B, 1, none⟩ = false := hbox.fz
    have f2 : w1.frozen? ⟨B, 2, none⟩ = false := hbox.fz
    have f3 : w1.frozen? ⟨B, 3, none⟩ = false := hbox.fz
    have hsm := hL.2.1
    have h3 := hL.1
    have h4 := hL.2.2.1
    have HJ := Hid.mk' hJ
    have HB := Hid.mk' hbox
    have HL := Hid.mk' hL
    have HK := Hid.mk' K
    have HP := Hid.mk' P1
    clear hJ hbox hL hJ0 K P1
    by_cases hend : s.size ≤ at_
    · have e1 := left_err s ahead most pre at_ said HL.out 30 s.size ⟨30, s.size, 0, 0, 0, 0, 0⟩ (by rw [Lz.next, if_pos (by rw [Sums.bl_length]; exact hend), Sums.bl_length]) rfl rfl (by omega)
      have E1 := Hid.mk' e1
      obtain rfl : at_ = s.size := by omega
      clear e1
      go_wp2
      simp only [jump3]
      go_ret2
      exact wr_err E1.out HJ.out
    · have hlt : at_ < s.size := by omega
      obtain ⟨b, hb⟩ : ∃ b, b = (Sums.bl s).getD at_ 0 := ⟨_, rfl⟩
      have hb256 : b < 256 := byte_lt s at_ b hb
      have hidx := idx_any s at_ b hlt hb
      have hn : Lz.next (Sums.bl s) at_ said ahead most = Lz.nextB (Sums.bl s) at_ (b % 16) said ahead most (Lz.counted (Sums.bl s) (at_ + 1) (b / 16) (b / 16 == 15) (most - said)) := by
        rw [Lz.next, if_neg (by rw [Sums.bl_length]; omega), ← hb]
      have HN := Hid.mk' hn
      have hlow := low_half b hb256
      clear hn hb
      go_wp2
      go_region
      go_wp2
      go_step3
      rename_i hK
      refine hK _ _ ?_
      rw [show (at_ : Int) + 1 = ((at_ + 1 : Nat) : Int) by omega, show (b : Int) / 16 = ((b / 16 : Nat) : Int) by omega, show (b : Int) % 16 = ((b % 16 : Nat) : Int) by omega, eqb_lit (b / 16) 15 (15 : Int) rfl]
      have hm : ∀ x y : Nat, x < 4 * (s.size - (at_ + 1)) + 2 → y = 4 * (s.size - at_) → x < y := by intro x y; omega
      refine wp_jump3_mono ?_ ?_ ?_ (HP.out _ _ (.inl (JA_mk s ahead most g cap B J _ pre (at_ + 1) said (b / 16) (b % 16) (b / 16 == 15) at_ (((((HB.out.set0 (d := at_)).set1 (l' := ⟨#[]⟩)).set2 (d := 0)).set3 (d := 0)).drewN 1) (HK.out.stay _ _ _ HJ.out (((((At.set 0 _).trans (At.set 1 _)).trans (At.set 2 _)).trans (At.set 3 _)).trans (At.drewN 1))) HL.out (by omega) (by omega) (by omega) (by omega) HN.out)))
      · exact fun _ _ h => ⟨h.1, hm _ _ h.2 (by simp [m0, intOf])⟩
      · exact fun _ _ h => ⟨h.1, hm _ _ h.2 (by simp [m0, intOf])⟩
      · exact fun _ _ h => ⟨h.1, hm _ _ h.2 (by simp [m0, intOf])⟩
  · intro P0
    have HJ0 := Hid.mk' (hJ0 (w.alloc (.cells #[.int .i64 0, .string ⟨#[]⟩, .int .i64 0, .int .i64 0] 66)) ((Below.refl _ _).alloc (Nat.le_refl _) _) (by simp))
    have HP := Hid.mk' P0
    clear hJ0 P0
    go_wp2
    go_step3
    rename_i hK
    refine hK _ _ ?_
    exact HP.out _ _ (J0_mk s ahead most g cap w.heap.size J _ [] 0 0 0 0 false 0 0 0 ⟨#[]⟩ (by show (w.heap.push _)[w.heap.size]? = _; simp) HJ0.out ⟨Nat.zero_le _, Nat.zero_le _, by omega, s.size + 1, by omega, rfl⟩)
end Go.Proofs.Ytchjmhgalbkjkaa
