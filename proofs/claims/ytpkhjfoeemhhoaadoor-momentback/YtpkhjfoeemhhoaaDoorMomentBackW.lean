/-
  The law MomentBack is true. Conditions: ints; the tables lie as the programs' texts lay them.
-/
import Derived.Test.YtpkhjfoeemhhoaaDoorBk12
namespace Go.Proofs.YtpkhjfoeemhhoaaDoor
open Go.RowKit
set_option linter.unusedVariables false
/-- what the law knows from step to step: its argument's row lies -/
structure BkW (D : Nat) (yy mm dd hh mi ss ms : Int) (w W : World) : Prop where
  lw : Lw w W
  row : W.heap[D]? = some (.cells #[.int .i64 yy, .int .i64 mm, .int .i64 dd, .int .i64 hh, .int .i64 mi, .int .i64 ss, .int .i64 ms] 23 (0, 0))
theorem BkW.next {D : Nat} {yy mm dd hh mi ss ms : Int} {w W V : World} (h : BkW D yy mm dd hh mi ss ms w W) (b : Below W.heap.size W V) : BkW D yy mm dd hh mi ss ms w V :=
  ⟨h.lw.next b, (b.block D (Array.getElem?_eq_some_iff.1 h.row).1).trans h.row⟩
theorem BkW.cells {D : Nat} {yy mm dd hh mi ss ms : Int} {w W : World} (h : BkW D yy mm dd hh mi ss ms w W) : DateAt D yy mm dd hh mi ss ms W := by
  have h := h.row
  exact ⟨by simp [World.cell?, h], by simp [World.cell?, h], by simp [World.cell?, h], by simp [World.cell?, h], by simp [World.cell?, h], by simp [World.cell?, h], by simp [World.cell?, h]⟩
set_option maxRecDepth 100000 in
set_option maxHeartbeats 8000000 in
theorem momentBack_any (stamp yy mm dd hh mi ss ms span : Int) (w : World) (hs0 : -9223372036854775808 ≤ stamp) (hs1 : stamp ≤ 9223372036854775807) (hp0 : -9223372036854775808 ≤ span) (hp1 : span ≤ 9223372036854775807) (hu : UnT w) (hp : Pow w) :
    Calls Tryd.prog 5 #[.int .i64 stamp, dateV yy mm dd hh mi ss ms, .int .i64 span] w fun e w' => e = .returned (.bool true) ∧ Below w.heap.size w w' := by
  have B0 : Hid (BkW w.heap.size yy mm dd hh mi ss ms w (w.alloc (.cells #[.int .i64 yy, .int .i64 mm, .int .i64 dd, .int .i64 hh, .int .i64 mi, .int .i64 ss, .int .i64 ms] 23))) := ⟨(Lw.mk hu hp (Below.refl _ _) hp.size).next ((Below.refl _ w).alloc (Nat.le_refl _) _), heap_alloc_new w (.cells #[.int .i64 yy, .int .i64 mm, .int .i64 dd, .int .i64 hh, .int .i64 mi, .int .i64 ss, .int .i64 ms] 23)⟩
  have HK : Hid (∀ W, UnT W → Pow W → Calls Tryd.prog 8 #[] W fun e w' => e = .returned (.bool true) ∧ Below W.heap.size W w') := fun W a b => (known_any W a b).mono (fun e w' h => ⟨h.1, h.2.bel⟩)
  have P1 := Hid.mk' (fun w => pick_any stamp 253402300800000 w hs0 hs1 (by decide) (by decide))
  have P2 := Hid.mk' (fun w => pick_any span 253402300799999 w hp0 hp1 (by decide) (by decide))
  have HE := Hid.mk' (fun w => eql_date yy mm dd hh mi ss ms yy mm dd hh mi ss ms w)
  clear hu hp hs0 hs1 hp0 hp1
  have HO : Hid (∀ w, Calls Tryd.prog 9 #[dateV yy mm dd hh mi ss ms] w fun e w' => ((e = .returned (.tuple #[.int .i64 0, .int .i64 120])) ∨ ∃ c : Nat, c ≤ 253402300799999 ∧ e = .returned (.tuple #[.int .i64 (c : Int), .int .i64 0]) ∧ Hid (∀ w, Calls Tryd.prog 11 #[.int .i64 (c : Int)] w fun e w' => e = .returned (.tuple #[dateV yy mm dd hh mi ss ms, .int .i64 0]) ∧ Below w.heap.size w w')) ∧ Below w.heap.size w w') := by
    intro w
    cases q : Mo.dayOK yy mm dd && Mo.timeOK hh mi ss ms
    · exact (of_bad yy mm dd hh mi ss ms w q).mono (fun e w' h => ⟨.inl h.1, h.2⟩)
    · obtain ⟨y, m, d, h, i, s, k, rfl, rfl, rfl, rfl, rfl, rfl, rfl⟩ := ok_nats q
      have hok : Mo.ok y m d h i s k = true := q
      obtain ⟨⟨f1, f2, f3, f4, f5, f6⟩, f7, f8, f9, f10⟩ := Mo.ok_facts hok
      exact (of_any y m d h i s k w f1 f2 f3 f4 f5 f6 f7 f8 f9 f10).mono (fun e w' g => ⟨.inr ⟨_, Mo.of_le hok, g.1, fun w => dateO y m d h i s k w hok⟩, g.2⟩)
  unfold dateV at HO ⊢
  go_enter Tryd.func5, Tryd.ntmps5
  go_wp2_with fail
  generalize (w.alloc _) = w0 at *
  generalize w.heap.size = D at *
  refine (HK.out _ B0.out.lw.un B0.out.lw.pow).mono ?_
  rintro e w1 ⟨rfl, hb⟩
  have B1 := Hid.mk' (B0.out.next hb)
  clear hb HK B0
  go_wp2_with fail
  refine (P1.out _).mono ?_
  rintro e w2 ⟨⟨n, hn, rfl⟩, hw⟩
  have hw2 := hw.symm
  subst hw2
  clear hw P1
  go_wp2_with fail
  refine (date_any n _ (by omega)).mono ?_
  rintro e w2 ⟨⟨y, m, d, hday, rfl⟩, hb⟩
  have B2 := Hid.mk' (B1.out.next hb)
  have OX := Hid.mk' (fun w => ofD n y m d hday w)
  clear hb B1 hday
  unfold dateV at OX ⊢
  obtain ⟨qh, hqh⟩ : ∃ q, n % 86400000 / 3600000 = q := ⟨_, rfl⟩
  obtain ⟨qi, hqi⟩ : ∃ q, n % 86400000 % 3600000 / 60000 = q := ⟨_, rfl⟩
  obtain ⟨qs, hqs⟩ : ∃ q, n % 86400000 % 60000 / 1000 = q := ⟨_, rfl⟩
  obtain ⟨qm, hqm⟩ : ∃ q, n % 86400000 % 1000 = q := ⟨_, rfl⟩
  rw [hqh, hqi, hqs, hqm] at OX ⊢
  clear hqh hqi hqs hqm
  go_wp2_with fail
  have B3 := Hid.mk' (B2.out.next ((Below.refl _ w2).alloc (Nat.le_refl _) (.cells #[.int .i64 (y : Int), .int .i64 (m : Int), .int .i64 (d : Int), .int .i64 (qh : Int), .int .i64 (qi : Int), .int .i64 (qs : Int), .int .i64 (qm : Int)] 23)))
  clear B2
  generalize (w2.alloc _) = w3 at *
  refine (OX.out _).mono ?_
  rintro e w4 ⟨rfl, hb⟩
  have B4 := Hid.mk' (B3.out.next hb)
  clear hb B3 OX
  go_wp2_with fail
  refine (showT n _ (by omega)).mono ?_
  rintro e w5 ⟨⟨t, ht, rfl⟩, hb⟩
  have B5 := Hid.mk' (B4.out.next hb)
  have RD := Hid.mk' (fun w => readS n t w (by omega) ht)
  clear hb B4 ht
  go_wp2_with fail
  refine (RD.out _).mono ?_
  rintro e w6 ⟨rfl, hb⟩
  have B6 := Hid.mk' (B5.out.next hb)
  clear hb B5 RD
  go_wp2_with fail
  refine (P2.out _).mono ?_
  rintro e w7 ⟨⟨k, hk, rfl⟩, hw⟩
  have hw2 := hw.symm
  subst hw2
  clear hw P2
  obtain ⟨q, hq⟩ : ∃ q, 1 + k = q := ⟨_, rfl⟩
  have hqI : 1 + (k : Int) = (q : Int) := by omega
  have hq1 : 1 ≤ q := by omega
  have hq2 : q ≤ 253402300799999 := by omega
  clear hq
  have SL : Hid (∀ w, UnT w → Pow w → Calls Tryd.prog 21 #[.int .i64 (q : Int)] w fun e w' => e = .returned (.tuple #[.string (nums (spT q 5)), .int .i64 0]) ∧ Below w.heap.size w w') := fun w hu hp => spell_any q w hq1 hq2 hu hp
  have SQ : Hid (∀ w, UnT w → Calls Tryd.prog 19 #[.string (nums (spT q 5))] w fun e w' => e = .returned (.tuple #[.int .i64 (q : Int), .int .i64 0]) ∧ Below w.heap.size w w') := fun w hu => span_numsB q w hq1 hq2 hu
  generalize nums (spT q 5) = st at *
  go_wp2_with fail
  refine (SL.out _ B6.out.lw.un B6.out.lw.pow).mono ?_
  rintro e w8 ⟨rfl, hb⟩
  have B8 := Hid.mk' (B6.out.next hb)
  clear hb B6 SL
  go_wp2_with fail
  refine (SQ.out _ B8.out.lw.un).mono ?_
  rintro e w9 ⟨rfl, hb⟩
  have B9 := Hid.mk' (B8.out.next hb)
  clear hb B8 SQ
  obtain ⟨c0, c1, c2, c3, c4, c5, c6⟩ := B9.out.cells
  go_wp2_with fail
  clear c0 c1 c2 c3 c4 c5 c6
  refine (HO.out _).mono ?_
  rintro e wA ⟨hor, hb⟩
  have BA := Hid.mk' (B9.out.next hb)
  clear hb B9 HO
  rcases hor with rfl | ⟨c, hc, rfl, DC⟩
  · go_wp2_with fail
    go_ret
    exact ⟨rfl, BA.out.lw.bel⟩
  · have hc1 : (0 : Int) ≤ (c : Int) := by omega
    have hc2 : (c : Int) ≤ 253402300799999 := by omega
    go_wp2_with fail
    refine (DC.out _).mono ?_
    rintro e wB ⟨rfl, hb⟩
    have BB := Hid.mk' (BA.out.next hb)
    clear hb BA DC
    have heq := HE.out
    simp only [BEq.rfl, Bool.and_self] at heq
    have BC := Hid.mk' (BB.out.next ((Below.refl _ wB).alloc (Nat.le_refl _) (.cells #[.int .i64 yy, .int .i64 mm, .int .i64 dd, .int .i64 hh, .int .i64 mi, .int .i64 ss, .int .i64 ms] 23)))
    obtain ⟨c0, c1, c2, c3, c4, c5, c6⟩ := BC.out.cells
    go_wp2_with fail
    go_ret
    exact ⟨rfl, BC.out.lw.bel⟩
end Go.Proofs.YtpkhjfoeemhhoaaDoor
