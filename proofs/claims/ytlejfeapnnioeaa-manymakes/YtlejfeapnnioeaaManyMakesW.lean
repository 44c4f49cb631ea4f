/-
  dragnetlaw7.ManyMakes, for every input. Conditions: as it says.
-/
import Derived.Test.YtlejfeapnnioeaaMk2
import Derived.Test.YtlejfeapnnioeaaPick7
import Derived.Laws.AppendOwn
namespace Go.Proofs.Ytlejfeapnnioeaa
open Go.RowKit Go.Shelf
set_option linter.unusedVariables false
theorem strL_one (L : List ByteArray) : ∀ u ∈ strL L, u.oneCell' = true := by
  intro u hu
  unfold strL at hu
  obtain ⟨y, _, rfl⟩ := List.mem_map.1 hu
  rfl
theorem strL_len (L : List ByteArray) (n : Nat) (h : L.length = n) : (strL L).length = n * 1 := by
  unfold strL
  rw [List.length_map, h, Nat.mul_one]
set_option maxRecDepth 100000 in
set_option maxHeartbeats 4000000 in
theorem manyMakes_any (p : Option Addr) (cap : Nat) (R : List ByteArray) (fold : Bool) (a : Int) (x : ByteArray) (w : World) (h : StrAt w p R) (hl : R.length ≤ 8796093022208) (hR : ∀ x ∈ R, x.size ≤ 140737488351232) (h1 : -9223372036854775808 ≤ a) (h2 : a ≤ 9223372036854775807) (hx : x.size ≤ 140737488351232) :
    Calls Try.prog 3 #[.slice p R.length cap, .bool fold, .int .i64 a, .string x] w fun e w' => e = .returned (.bool true) ∧ Below w.heap.size w w' := by
  obtain ⟨b, hb⟩ : ∃ b, w.heap.size = b := ⟨_, rfl⟩
  obtain ⟨n, hn⟩ : ∃ n, R.length = n := ⟨_, rfl⟩
  rw [hn] at hl ⊢
  rw [hb]
  have HN := Hid.mk' hn
  have HS := Hid.mk' h
  have HR := Hid.mk' hR
  have HX : Hid (∀ r, ∀ y ∈ R.set r x, y.size ≤ 140737488351232) := fun r y hy => by
    rcases List.mem_or_eq_of_mem_set hy with h | rfl
    · exact hR y h
    · exact hx
  have HSH := Hid.mk' (shown_any w)
  rw [hb] at HSH
  have HLN := Hid.mk' (fun V hB => mk_lent (V := V) cap h hb hB hn hl)
  obtain ⟨i1, hi1, hy0, hy1, hy2⟩ := info_parts infoSt
  have HI := Hid.mk' (And.intro hi1 (And.intro hy0 (And.intro hy1 hy2)))
  clear h hR hn hi1 hy0 hy1 hy2 hx
  rcases Mn.good_or fold R with hg | ⟨k, hk⟩
  · have hn0 : 0 < n := by rw [← HN.out]; exact hg.some_
    have hn1 : ¬ (n : Int) = 0 := by omega
    have hn1b : ((n : Int) == 0) = false := beq_eq_false_iff_ne.2 hn1
    have HG := Hid.mk' hg
    have HPK := Hid.mk' (fun w => pick_any a (n : Int) w (by omega) (by omega) h1 h2)
    clear hg HN h1 h2
    go_enter Try.func3, Try.ntmps3
    go_upto_region 10 with (first
      | (go_at_call 7; refine HSH.out.mono ?_; rintro e w1 ⟨rfl, hb1⟩; have HB1 := Hid.mk' hb1; clear hb1 HSH)
      | (go_at_call 8; refine (HLN.out w1 HB1.out).mono ?_; rintro e w2 ⟨b1, rfl, hm2⟩; have HM2 := Hid.mk' hm2; clear hm2 HB1 HLN)
      | (go_at_call 9; refine (mk_newG HM2.out HG.out HR.out).mono ?_; rintro e w3 ⟨sb, rfl, hm3⟩; have HM3 := Hid.mk' hm3; clear hm3 HM2)
      | (go_at_call 10; refine (mk_refG cap HM3.out HG.out HR.out).mono ?_; rintro e w4 ⟨g, rfl, hm4⟩; have HM4 := Hid.mk' hm4; clear hm4 HM3)
      | (go_at_call 11; refine (mk_still cap HM4.out hl).mono ?_; rintro e w5 ⟨rfl, hm5⟩; have HM5 := Hid.mk' hm5; clear hm5 HM4)
      | (go_at_call 12; refine (two_states HM5.out.ex.2).mono ?_; rintro e w6 ⟨rfl, rfl⟩)
      | (go_at_call 13; refine (two_ref HM5.out.ex.2 HG.out).mono ?_; rintro e w7 ⟨rfl, hw7⟩; have HM7 := Hid.mk' (HM5.out.drew hw7); clear hw7 HM5)
      | fail)
    go_upto_region 12 with (first
      | (go_at_call 14; refine (HPK.out _).mono ?_; rintro e w8 ⟨⟨r, hr, rfl⟩, rfl⟩; have hrN : r < n := (by omega); obtain ⟨c1, f1⟩ := HM7.out.toMkP.cell r hrN; have HP := Hid.mk' (HM7.out.toMkP.put r x hrN (by exact ⟨trivial, two_set HM7.out.ex.2 r _⟩)); clear HM7 HPK)
      | (at_builtin; refine wpList_append_own _ rfl _ _ 22 rfl 0 9 i1 (.string ⟨#[]⟩) 1 16 Try.underlying22 HI.out.1 HI.out.2.1 HI.out.2.2.1 HI.out.2.2.2 rfl (by decide) _ _ _ rfl (World.ownsRow_nil _ 0 9 1) ⟨b1, 0, none⟩ n (n + 8) (strL (R.set r x)) rfl (strL_len _ n HP.out.len) (by exact HP.out.news) (strL_one _) (by unfold maxLen; omega) (by omega) (Nat.zero_le _) ?_; intro v9 w9 ho9 hg9 _; simp only [Nat.zero_add, List.nil_append] at ho9; obtain ⟨q, c, rfl⟩ := mr_shape ho9; have HM9 := Hid.mk' (HP.out.copy ho9 hg9); clear HP ho9 hg9 c1 f1)
      | fail)
    rcases Mn.good_or fold (R.set r x) with hg2 | ⟨k2, hk2⟩
    · have HG2 := Hid.mk' hg2
      clear hg2
      go_wp2_with (first
      | (go_at_call 9; refine (mk_newG HM9.out HG2.out (HX.out r)).mono ?_; rintro e w10 ⟨sb2, rfl, hm10⟩; have HM10 := Hid.mk' hm10; clear hm10 HM9)
      | (go_at_call 10; refine (mk_refG c HM10.out HG2.out (HX.out r)).mono ?_; rintro e w11 ⟨g2, rfl, hm11⟩; have HM11 := Hid.mk' hm11; clear hm11 HM10)
      | (go_at_call 11; refine (mk_still c HM11.out hl).mono ?_; rintro e w12 ⟨rfl, hm12⟩; have HM12 := Hid.mk' hm12; clear hm12 HM11)
      | (go_at_call 12; refine (two_states HM12.out.ex.2).mono ?_; rintro e w13 ⟨rfl, rfl⟩)
      | (go_at_call 13; refine (two_ref HM12.out.ex.2 HG2.out).mono ?_; rintro e w14 ⟨rfl, hw14⟩; have HM14 := Hid.mk' (HM12.out.drew hw14); clear hw14 HM12)
      | (go_at_call 12; refine (two_states HM14.out.ex.1.2).mono ?_; rintro e w15 ⟨rfl, rfl⟩)
      | (go_at_call 13; refine (two_ref HM14.out.ex.1.2 HG.out).mono ?_; rintro e w16 ⟨rfl, hw16⟩; have HM16 := Hid.mk' (HM14.out.drew hw16); clear hw16 HM14)
      | fail)
      go_ret
      exact ⟨rfl, HM16.out.bel⟩
    · have HG2 := Hid.mk' hk2
      clear hk2
      go_wp2_with (first
      | (go_at_call 9; refine (mk_newB k2 HM9.out HG2.out hl (HX.out r)).mono ?_; rintro e w10 ⟨rfl, hm10⟩; have HM10 := Hid.mk' hm10; clear hm10 HM9)
      | (go_at_call 10; refine (mk_refB k2 c HM10.out HG2.out hl (HX.out r)).mono ?_; rintro e w11 ⟨rfl, hm11⟩; have HM11 := Hid.mk' hm11; clear hm11 HM10)
      | (go_at_call 11; refine (mk_still c HM11.out hl).mono ?_; rintro e w12 ⟨rfl, hm12⟩; have HM14 := Hid.mk' hm12; clear hm12 HM11)
      | (go_at_call 12; refine (two_states HM14.out.ex.2).mono ?_; rintro e w15 ⟨rfl, rfl⟩)
      | (go_at_call 13; refine (two_ref HM14.out.ex.2 HG.out).mono ?_; rintro e w16 ⟨rfl, hw16⟩; have HM16 := Hid.mk' (HM14.out.drew hw16); clear hw16 HM14)
      | fail)
      go_ret
      exact ⟨rfl, HM16.out.bel⟩
  · have HG := Hid.mk' hk
    clear hk
    rcases Nat.eq_zero_or_pos n with rfl | hn0
    · clear HN h1 h2
      go_enter Try.func3, Try.ntmps3
      go_wp2_with (first
      | (go_at_call 7; refine HSH.out.mono ?_; rintro e w1 ⟨rfl, hb1⟩; have HB1 := Hid.mk' hb1; clear hb1 HSH)
      | (go_at_call 8; refine (HLN.out w1 HB1.out).mono ?_; rintro e w2 ⟨b1, rfl, hm2⟩; have HM2 := Hid.mk' hm2; clear hm2 HB1 HLN)
      | (go_at_call 9; refine (mk_newB k HM2.out HG.out hl HR.out).mono ?_; rintro e w3 ⟨rfl, hm3⟩; have HM3 := Hid.mk' hm3; clear hm3 HM2)
      | (go_at_call 10; refine (mk_refB k cap HM3.out HG.out hl HR.out).mono ?_; rintro e w4 ⟨rfl, hm4⟩; have HM4 := Hid.mk' hm4; clear hm4 HM3)
      | (go_at_call 11; refine (mk_still cap HM4.out hl).mono ?_; rintro e w5 ⟨rfl, hm5⟩; have HM7 := Hid.mk' hm5; clear hm5 HM4)
      | fail)
      go_ret
      exact ⟨rfl, HM7.out.bel⟩
    have hn1 : ¬ (n : Int) = 0 := by omega
    have hn1b : ((n : Int) == 0) = false := beq_eq_false_iff_ne.2 hn1
    have HPK := Hid.mk' (fun w => pick_any a (n : Int) w (by omega) (by omega) h1 h2)
    clear HN h1 h2
    go_enter Try.func3, Try.ntmps3
    go_upto_region 10 with (first
      | (go_at_call 7; refine HSH.out.mono ?_; rintro e w1 ⟨rfl, hb1⟩; have HB1 := Hid.mk' hb1; clear hb1 HSH)
      | (go_at_call 8; refine (HLN.out w1 HB1.out).mono ?_; rintro e w2 ⟨b1, rfl, hm2⟩; have HM2 := Hid.mk' hm2; clear hm2 HB1 HLN)
      | (go_at_call 9; refine (mk_newB k HM2.out HG.out hl HR.out).mono ?_; rintro e w3 ⟨rfl, hm3⟩; have HM3 := Hid.mk' hm3; clear hm3 HM2)
      | (go_at_call 10; refine (mk_refB k cap HM3.out HG.out hl HR.out).mono ?_; rintro e w4 ⟨rfl, hm4⟩; have HM4 := Hid.mk' hm4; clear hm4 HM3)
      | (go_at_call 11; refine (mk_still cap HM4.out hl).mono ?_; rintro e w5 ⟨rfl, hm5⟩; have HM7 := Hid.mk' hm5; clear hm5 HM4)
      | fail)
    go_upto_region 12 with (first
      | (go_at_call 14; refine (HPK.out _).mono ?_; rintro e w8 ⟨⟨r, hr, rfl⟩, rfl⟩; have hrN : r < n := (by omega); obtain ⟨c1, f1⟩ := HM7.out.toMkP.cell r hrN; have HP := Hid.mk' (HM7.out.toMkP.put r x hrN (by exact trivial)); clear HM7 HPK)
      | (at_builtin; refine wpList_append_own _ rfl _ _ 22 rfl 0 9 i1 (.string ⟨#[]⟩) 1 16 Try.underlying22 HI.out.1 HI.out.2.1 HI.out.2.2.1 HI.out.2.2.2 rfl (by decide) _ _ _ rfl (World.ownsRow_nil _ 0 9 1) ⟨b1, 0, none⟩ n (n + 8) (strL (R.set r x)) rfl (strL_len _ n HP.out.len) (by exact HP.out.news) (strL_one _) (by unfold maxLen; omega) (by omega) (Nat.zero_le _) ?_; intro v9 w9 ho9 hg9 _; simp only [Nat.zero_add, List.nil_append] at ho9; obtain ⟨q, c, rfl⟩ := mr_shape ho9; have HM9 := Hid.mk' (HP.out.copy ho9 hg9); clear HP ho9 hg9 c1 f1)
      | fail)
    rcases Mn.good_or fold (R.set r x) with hg2 | ⟨k2, hk2⟩
    · have HG2 := Hid.mk' hg2
      clear hg2
      go_wp2_with (first
      | (go_at_call 9; refine (mk_newG HM9.out HG2.out (HX.out r)).mono ?_; rintro e w10 ⟨sb2, rfl, hm10⟩; have HM10 := Hid.mk' hm10; clear hm10 HM9)
      | (go_at_call 10; refine (mk_refG c HM10.out HG2.out (HX.out r)).mono ?_; rintro e w11 ⟨g2, rfl, hm11⟩; have HM11 := Hid.mk' hm11; clear hm11 HM10)
      | (go_at_call 11; refine (mk_still c HM11.out hl).mono ?_; rintro e w12 ⟨rfl, hm12⟩; have HM12 := Hid.mk' hm12; clear hm12 HM11)
      | (go_at_call 12; refine (two_states HM12.out.ex.2).mono ?_; rintro e w13 ⟨rfl, rfl⟩)
      | (go_at_call 13; refine (two_ref HM12.out.ex.2 HG2.out).mono ?_; rintro e w14 ⟨rfl, hw14⟩; have HM14 := Hid.mk' (HM12.out.drew hw14); clear hw14 HM12)
      | fail)
      go_ret
      exact ⟨rfl, HM14.out.bel⟩
    · have HG2 := Hid.mk' hk2
      clear hk2
      go_wp2_with (first
      | (go_at_call 9; refine (mk_newB k2 HM9.out HG2.out hl (HX.out r)).mono ?_; rintro e w10 ⟨rfl, hm10⟩; have HM10 := Hid.mk' hm10; clear hm10 HM9)
      | (go_at_call 10; refine (mk_refB k2 c HM10.out HG2.out hl (HX.out r)).mono ?_; rintro e w11 ⟨rfl, hm11⟩; have HM11 := Hid.mk' hm11; clear hm11 HM10)
      | (go_at_call 11; refine (mk_still c HM11.out hl).mono ?_; rintro e w12 ⟨rfl, hm12⟩; have HM14 := Hid.mk' hm12; clear hm12 HM11)
      | fail)
      go_ret
      exact ⟨rfl, HM14.out.bel⟩
end Go.Proofs.Ytlejfeapnnioeaa
