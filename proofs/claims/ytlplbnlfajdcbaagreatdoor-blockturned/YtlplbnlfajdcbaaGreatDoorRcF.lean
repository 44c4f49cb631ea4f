/-
  record: a Builder's Add, where there is room. Conditions: as it says.
-/
import Derived.Test.YtlplbnlfajdcbaaGreatDoorRcE
import Derived.Deep.RegionLaw
namespace Go.Proofs.YtlplbnlfajdcbaaGreatDoor
open Go.RowKit
set_option linter.unusedVariables false
set_option maxHeartbeats 1000000 in
set_option maxRecDepth 100000 in
theorem add_good {B g : Nat} {S E : List Int} {T : List Nat} {sv ev tv : Value} {nu : Nat} {mi ma : Int} {w : World} (h : Bw B g S E T sv ev tv nu mi ma w) (x : Int) (t : ByteArray) (hx : Rec.bad (x, t) = 0) (h1 : S.length ≤ 1048576) (h2 : nu ≤ 1048576) (h3 : T.length ≤ 1048576) (h4 : E.length ≤ 1048576) (h5 : 0 ≤ S.getLastD 0) (h6 : S.getLastD 0 ≤ 253402300799999) (N Z : Nat) (hN : N = nu + (Code.uint (Code.zig (x - S.getLastD 0))).length + (Code.uint t.size).length) (hZ : Z = (Code.uint (S.length + 1)).length + N + (T.length + t.size)) (hbig : ¬ (131072 : Int) < (Z : Int)) (mi' ma' : Int) (M : Nat) (hmi0 : mi' = if S.length = 0 then x else min mi x) (hma0 : ma' = if S.length = 0 then x else max ma x) (hM0 : M = T.length + t.size) :
    Calls Tryz.prog 50 #[.pointer (some ⟨g, 0, none⟩), .agg #[.int .i64 x, .string t]] w fun e w' => e = .returned (.int .i64 0) ∧ (∃ sv' ev' tv', Bw B g (S ++ [x]) (E ++ [(M : Int)]) (T ++ Sums.bl t) sv' ev' tv' (N : Int) mi' ma' w') ∧ Below B w w' := by
  have hmi := Hid.mk' hmi0
  have hma := Hid.mk' hma0
  have HM := Hid.mk' hM0
  clear hmi0 hma0 hM0
  obtain ⟨a0, cp0, rfl⟩ := row_shape h.hs
  obtain ⟨a1, cp1, rfl⟩ := row_shape h.he
  obtain ⟨a2, cp2, rfl⟩ := row_shape h.ht
  obtain ⟨sv, hsv⟩ : ∃ sv, sv = Value.slice a0 S.length cp0 := ⟨_, rfl⟩
  obtain ⟨ev, hev⟩ : ∃ ev, ev = Value.slice a1 E.length cp1 := ⟨_, rfl⟩
  obtain ⟨tv, htv⟩ : ∃ tv, tv = Value.slice a2 T.length cp2 := ⟨_, rfl⟩
  rw [← hsv, ← hev, ← htv] at h
  have HSV := Hid.mk' hsv
  have HEV := Hid.mk' hev
  have HTV := Hid.mk' htv
  clear hsv hev htv
  obtain ⟨q1, q2, q3, q4⟩ := Rec.bad_le hx
  have ht0 : t.size ≤ 8192 := q1
  have hx0 : 0 ≤ x := q3
  have hx1 : x ≤ 253402300799999 := q4
  obtain ⟨y, hy⟩ : ∃ y, y = S.getLastD 0 := ⟨_, rfl⟩
  rw [← hy] at h5 h6 hN
  have l1 := Code.uint_len (Code.zig (x - y)) (Code.zig_lt _ (by omega) (by omega))
  have l2 := Code.uint_len t.size (by omega)
  have n1 := nums_size (Code.uint (Code.zig (x - y)))
  have n2 := nums_size (Code.uint t.size)
  have hNle : N ≤ 2097152 := by omega
  have HN0 := Hid.mk' hN
  clear hN
  have hN := HN0
  clear HN0
  have HZ := Hid.mk' hZ
  clear hZ
  have HB0 := Hid.mk' h
  have HX0 : Hid (Adx B g w.heap.size x t w (w.alloc (.cells #[.int .i64 x, .string t] 26))) := ⟨heap_alloc_new w _, (Below.refl _ _).alloc (Nat.le_trans h.hB (Nat.le_of_lt h.lt)) _, by have := h.hB; have := h.lt; simp; omega, by have := h.lt; omega⟩
  obtain ⟨bx, hbx⟩ : ∃ bx, bx = w.heap.size := ⟨_, rfl⟩
  have hBg := h.hB
  have hlt := h.lt
  clear h
  go_enter Tryz.func50, Tryz.ntmps50
  go_upto_region 4 with (go_at_call 79; refine (refuses_any x t _ (by omega)).mono ?_; rintro e w1 ⟨rfl, hb⟩; rw [hx])
  have HB1 : Hid (Bw B g S E T sv ev tv nu mi ma w1) := (HB0.out.below ((Below.refl _ _).alloc (Nat.le_refl _) _)).below hb
  have HX1 := Hid.mk' (HX0.out.thru hb)
  rw [← hbx] at HX1 ⊢
  have HQ : Hid (∀ W : World, Bw B g S E T sv ev tv nu mi ma W → Adx B g bx x t w W → W.cell? ⟨g, 3, none⟩ = some (.int .i64 (nu : Int)) ∧ W.cell? ⟨bx, 0, none⟩ = some (.int .i64 x) ∧ W.cell? ⟨bx, 1, none⟩ = some (.string t)) := fun W a b => ⟨by rw [a.cell]; rfl, b.c0, b.c1⟩
  have d3 := (HQ.out _ HB1.out HX1.out).1
  have b0 := (HQ.out _ HB1.out HX1.out).2.1
  have b1 := (HQ.out _ HB1.out HX1.out).2.2
  have hxy : IntKind.i64.wrap (x - y) = x - y := by rw [IntKind.wrap_i64]; omega
  have hts : IntKind.u64.wrap (t.size : Int) = (t.size : Int) := by rw [IntKind.wrap_u64]; omega
  have HXX := Hid.mk' hx
  have HHY := Hid.mk' hy
  have HSL := Hid.mk' h1
  clear hb HB0 HX0 hbx hx q1 q2 q3 q4 hlt hy
  go_cut [6] (fun s6 wx => s6 = .int .i64 (N : Int) ∧ Hid (Bw B g S E T sv ev tv nu mi ma wx) ∧ Hid (Adx B g bx x t w wx))
  case first =>
    go_region_held3 (fun w' => w'.cell? ⟨g, 3, none⟩ = some (.int .i64 (nu : Int)) ∧ w'.cell? ⟨bx, 0, none⟩ = some (.int .i64 x) ∧ w'.cell? ⟨bx, 1, none⟩ = some (.string t)) (first | go_keep | exact HQ.out _ (HK.out.of rfl) (HY.out.of rfl rfl rfl rfl) | exact HQ.out _ HK.out HY.out)
      ((first | (go_at_call 81; refine (Bw.last_any (by first | exact HK.out.of rfl | exact HB1.out.of rfl) (by have := HSL.out; omega)).mono ?_; rintro e w' ⟨rfl, kk, hw'⟩; have HK : Hid (Bw B g S E T sv ev tv nu mi ma w') := (by first | exact (HK.out.of (by rw [hw']; rfl)) | exact (HB1.out.of (by rw [hw']; rfl))); have HY : Hid (Adx B g bx x t w w') := (by first | exact (HY.out.of (by rw [hw']; rfl) (by rw [hw']; rfl) (by rw [hw']; rfl) (by rw [hw']; rfl)) | exact (HX1.out.of (by rw [hw']; rfl) (by rw [hw']; rfl) (by rw [hw']; rfl) (by rw [hw']; rfl))); rw [← HHY.out]; clear hw') | (go_at_call 80; (try rw [hxy]); refine (int_any (x - y) _ (by omega) (by omega)).mono ?_; rintro e w' ⟨rfl, hb⟩; have HK : Hid (Bw B g S E T sv ev tv nu mi ma w') := (by first | exact (HK.out.of rfl).below hb | exact (HB1.out.of rfl).below hb); have HY : Hid (Adx B g bx x t w w') := (by first | exact (HY.out.of rfl rfl rfl rfl).thru hb | exact (HX1.out.of rfl rfl rfl rfl).thru hb); clear hb) | (go_at_call 82; (try rw [hts]); refine (uint_any t.size _ (by omega)).mono ?_; rintro e w' ⟨rfl, hb⟩; have HK : Hid (Bw B g S E T sv ev tv nu mi ma w') := (by first | exact (HK.out.of rfl).below hb | exact (HB1.out.of rfl).below hb); have HY : Hid (Adx B g bx x t w w') := (by first | exact (HY.out.of rfl rfl rfl rfl).thru hb | exact (HX1.out.of rfl rfl rfl rfl).thru hb); clear hb)))
    all_goals (go_wp2_with fail; go_meet)
    exact ⟨val_int (sum_w nu _ _ N hN.out hNle), HK, HY⟩
  case rest =>
    obtain ⟨rfl, HB2, HX2⟩ := hcut
    rename World => w2
    clear HB1 HX1 d3 b0 b1
    have HQ2 : Hid (∀ W : World, Bw B g S E T sv ev tv nu mi ma W → Adx B g bx x t w W → W.cell? ⟨g, 2, none⟩ = some (.slice a2 T.length cp2) ∧ W.cell? ⟨bx, 1, none⟩ = some (.string t)) := fun W a b => ⟨by rw [a.cell, ← HTV.out]; rfl, b.c1⟩
    have d2 := (HQ2.out _ HB2.out HX2.out).1
    have b1 := (HQ2.out _ HB2.out HX2.out).2
    have hw1 : IntKind.i64.wrap ((S.length : Int) + 1) = ((S.length + 1 : Nat) : Int) := by rw [IntKind.wrap_i64]; omega
    have hw2 : IntKind.i64.wrap ((T.length : Int) + (t.size : Int)) = ((T.length + t.size : Nat) : Int) := by rw [IntKind.wrap_i64]; omega
    go_upto_region 5 with fail
    go_cut [45] (fun s45 wx => s45 = .bool false ∧ Hid (Bw B g S E T sv ev tv nu mi ma wx) ∧ Hid (Adx B g bx x t w wx))
    case first =>
      go_region_held3 (fun w' => w'.cell? ⟨g, 2, none⟩ = some (.slice a2 T.length cp2) ∧ w'.cell? ⟨bx, 1, none⟩ = some (.string t)) (first | go_keep | exact HQ2.out _ (HK.out.of rfl) (HY.out.of rfl rfl rfl rfl) | exact HQ2.out _ HK.out HY.out)
        ((first | (go_at_call 84; refine (Bw.len_any (by first | exact HK.out.of rfl | exact HB2.out.of rfl)).mono ?_; rintro e w' ⟨rfl, hw'⟩; have HK : Hid (Bw B g S E T sv ev tv nu mi ma w') := (by first | exact (HK.out.of (by rw [hw']; rfl)) | exact (HB2.out.of (by rw [hw']; rfl))); have HY : Hid (Adx B g bx x t w w') := (by first | exact (HY.out.of (by rw [hw']; rfl) (by rw [hw']; rfl) (by rw [hw']; rfl) (by rw [hw']; rfl)) | exact (HX2.out.of (by rw [hw']; rfl) (by rw [hw']; rfl) (by rw [hw']; rfl) (by rw [hw']; rfl))); clear hw') | (go_at_call 83; refine (size_int (S.length + 1) N (T.length + t.size) _ _ _ _ ?hca ?hcb ?hcc ?hcd).mono ?_; (case hca => (first | omega | (rw [IntKind.wrap_i64]; omega))); (case hcb => rfl); (case hcc => (first | omega | (rw [IntKind.wrap_i64]; omega))); (case hcd => omega); rintro e w' ⟨rfl, hb⟩; rw [← HZ.out]; have HK : Hid (Bw B g S E T sv ev tv nu mi ma w') := (by first | exact (HK.out.of rfl).below hb | exact (HB2.out.of rfl).below hb); have HY : Hid (Adx B g bx x t w w') := (by first | exact (HY.out.of rfl rfl rfl rfl).thru hb | exact (HX2.out.of rfl rfl rfl rfl).thru hb); clear hb)))
      all_goals (go_wp2_with fail; go_meet)
      exact ⟨congrArg Value.bool (decide_eq_false (by omega)), HK, HY⟩
    case rest =>
      obtain ⟨rfl, HB3, HX3⟩ := hcut
      rename World => w3
      clear HB2 HX2 d2 b1
      obtain ⟨i0, hi, hz0, hz1, hz2⟩ := info_parts infoI
      have hne : ¬ bx = g := HX3.out.ne
      have hne2 : ¬ g = bx := fun e => hne e.symm
      have d3 : w3.cell? ⟨g, 3, none⟩ = some (.int .i64 (nu : Int)) := by rw [HB3.out.cell]; rfl
      have f3 := HB3.out.fz 3
      go_upto_region 8 with fail
      obtain ⟨w4, hw4⟩ : ∃ w4, w4 = w3.setCell ⟨g, 3, none⟩ (.int .i64 (N : Int)) := ⟨_, rfl⟩
      have HB4 : Hid (Bw B g S E T sv ev tv (N : Int) mi ma w4) := by rw [hw4]; exact HB3.out.set3 _
      have HX4 : Hid (Adx B g bx x t w w4) := by rw [hw4]; exact HX3.out.set hBg 3 _
      rw [← hw4]
      have b0 := HX4.out.c0
      clear hw4 HB3 HX3 d3 f3
      go_upto_region 9 with (go_at_call 85; refine (widen_any HB4.out x).mono ?_; rintro e w5 ⟨rfl, hb5, hbel5, hoth5, hsz5⟩; rw [← hmi.out, ← hma.out] at hb5)
      have HB5 := Hid.mk' hb5
      have HX5 := Hid.mk' (HX4.out.other (hbel5 _ HX4.out.bel) hoth5 hsz5)
      clear hb5 hbel5 hoth5 hsz5 HB4 HX4 b0
      have b0 := HX5.out.c0
      have d0 : w5.cell? ⟨g, 0, none⟩ = some sv := by rw [HB5.out.cell]; rfl
      have f0 := HB5.out.fz 0
      have HAL : Hid (∀ o, Bw B g S E T sv ev tv (N : Int) mi' ma' (w5.alloc o) ∧ Adx B g bx x t w (w5.alloc o)) := fun o => ⟨HB5.out.below ((Below.refl _ _).alloc (Nat.le_refl _) _), HX5.out.thru ((Below.refl _ _).alloc (Nat.le_refl _) _)⟩
      have hgl : g < w5.heap.size := HB5.out.lt
      have hbl : bx < w5.heap.size := HX5.out.lt
      have hBl := HX5.out.siz
      go_cut [54] (fun s54 wx => ∃ sv', Hid (Bw B g (S ++ [x]) E T sv' ev tv (N : Int) mi' ma' wx) ∧ Hid (Adx B g bx x t w wx))
      case first =>
        go_region_law ((refine step_append_lies _ (by rfl) _ _ _ (by rfl) B 3 i0 _ 1 8 Tryz.underlying88 hi hz0 hz1 hz2 rfl (by omega) sv S.length (itv S) (by rfl) (by exact ((HAL.out _).1.of rfl).hs) ⟨w5.heap.size, 0, none⟩ 1 1 [.int .i64 x] (by rfl) (by rfl) (World.news_of_block (cs := #[.int .i64 x]) (t := 3) (fr := (0, 0)) (by exact heap_alloc_new w5 _)) (itv_one [x]) (by omega) (by unfold maxLen; omega) (by omega) (by simp; omega) (w5.heap.size + 1) (by simp) ?_; intro q cap w6 hown6 hgrow6 hat6 hlt6; have HS6 := Hid.mk' (Bw.stamp (by exact (HAL.out _).1.of rfl) hgrow6 (by simpa using hat6) hown6); have HX6 := Hid.mk' (Adx.grown (by exact (HAL.out _).2.of rfl rfl rfl rfl) (by exact ((HAL.out _).1.of rfl).hs) (by decide) hgrow6); have b0 := HX6.out.c0; have d0 : w6.cell? ⟨g, 0, none⟩ = some sv := (by simp [World.cell?, HS6.out.2]); have f0 : w6.frozen? ⟨g, 0, none⟩ = false := (by simp [World.frozen?, HS6.out.2]); clear hown6 hgrow6 hat6 hlt6))
        all_goals (go_wp2_with fail; go_meet)
        all_goals exact ⟨_, HS6.out.1, HX6.out.set hBg 0 _⟩
      case rest =>
        obtain ⟨sv', HB6, HX6⟩ := hcut
        rename World => w6
        clear HB5 HX5 b0 d0 f0 HAL hgl hbl hBl
        have b1 := HX6.out.c1
        have d2 : w6.cell? ⟨g, 2, none⟩ = some tv := by rw [HB6.out.cell]; rfl
        have f2 := HB6.out.fz 2
        have hBl := HX6.out.siz
        have HLM : Hid ((T ++ Sums.bl t).length = M) := by rw [HM.out]; show (T ++ Sums.bl t).length = _; rw [List.length_append, Sums.bl_length]
        go_upto_region 10 with fail
        go_cut [65] (fun s65 wx => ∃ a3 cp3, Hid (Bw B g (S ++ [x]) E (T ++ Sums.bl t) sv' ev (.slice a3 M cp3) (N : Int) mi' ma' wx) ∧ Hid (Adx B g bx x t w wx))
        case first =>
          go_region_law ((refine step_append_str rfl _ _ (by rfl) B tv T.length (byv T) (by rfl) (by exact (HB6.out.of rfl).ht) t (by rfl) (by unfold maxLen; omega) (by omega) (by exact hBl) ?_; intro tv' w7 hown7 hgrow7; obtain ⟨a3, cp3, rfl⟩ := row_shape hown7; have HS7 := Hid.mk' (Bw.text (t := Sums.bl t) (by exact HB6.out.of rfl) hgrow7 (by rw [Sums.bl_length]; exact hown7)); have HX7 := Hid.mk' (Adx.grown (by exact HX6.out.of rfl rfl rfl rfl) (by exact (HB6.out.of rfl).ht) (by decide) hgrow7); have d2 : w7.cell? ⟨g, 2, none⟩ = some tv := (by simp [World.cell?, HS7.out.2]); have f2 : w7.frozen? ⟨g, 2, none⟩ = false := (by simp [World.frozen?, HS7.out.2]); clear hown7 hgrow7))
          all_goals (go_wp2_with fail; go_meet)
          all_goals exact ⟨_, _, by rw [HM.out]; exact HS7.out.1, HX7.out.set hBg 2 _⟩
        case rest =>
          obtain ⟨a3, cp3, HB7, HX7⟩ := hcut
          rename World => w7
          clear HB6 HX6 b1 d2 f2 hBl
          have d1 : w7.cell? ⟨g, 1, none⟩ = some ev := by rw [HB7.out.cell]; rfl
          have d2 : w7.cell? ⟨g, 2, none⟩ = some (.slice a3 M cp3) := by rw [HB7.out.cell]; rfl
          have f1 := HB7.out.fz 1
          have hBl := HX7.out.siz
          have hgl : g < w7.heap.size := HB7.out.lt
          have HAL : Hid (∀ o, Bw B g (S ++ [x]) E (T ++ Sums.bl t) sv' ev (.slice a3 M cp3) (N : Int) mi' ma' (w7.alloc o) ∧ Adx B g bx x t w (w7.alloc o)) := fun o => ⟨HB7.out.below ((Below.refl _ _).alloc (Nat.le_refl _) _), HX7.out.thru ((Below.refl _ _).alloc (Nat.le_refl _) _)⟩
          go_upto_region 11 with fail
          go_cut [75] (fun s75 wx => ∃ ev', Hid (Bw B g (S ++ [x]) (E ++ [(M : Int)]) (T ++ Sums.bl t) sv' ev' (.slice a3 M cp3) (N : Int) mi' ma' wx) ∧ Hid (Adx B g bx x t w wx))
          case first =>
            go_region_law ((refine step_append_lies _ (by rfl) _ _ _ (by rfl) B 3 i0 _ 1 8 Tryz.underlying88 hi hz0 hz1 hz2 rfl (by omega) ev E.length (itv E) (by rfl) (by exact ((HAL.out _).1.of rfl).he) ⟨w7.heap.size, 0, none⟩ 1 1 [.int .i64 (M : Int)] (by rfl) (by rfl) (World.news_of_block (cs := #[.int .i64 (M : Int)]) (t := 3) (fr := (0, 0)) (by exact heap_alloc_new w7 _)) (itv_one [(M : Int)]) (by omega) (by unfold maxLen; omega) (by omega) (by simp; omega) (w7.heap.size + 1) (by simp) ?_; intro q cap w8 hown8 hgrow8 hat8 hlt8; have HS8 := Hid.mk' (Bw.end_ (by exact (HAL.out _).1.of rfl) hgrow8 (by simpa using hat8) hown8); have HX8 := Hid.mk' (Adx.grown (by exact (HAL.out _).2.of rfl rfl rfl rfl) (by exact ((HAL.out _).1.of rfl).he) (by decide) hgrow8); have d1 : w8.cell? ⟨g, 1, none⟩ = some ev := (by simp [World.cell?, HS8.out.2]); have d2 : w8.cell? ⟨g, 2, none⟩ = some (.slice a3 M cp3) := (by simp [World.cell?, HS8.out.2]); have f1 : w8.frozen? ⟨g, 1, none⟩ = false := (by simp [World.frozen?, HS8.out.2]); clear hown8 hgrow8 hat8 hlt8))
            all_goals (go_wp2_with fail; go_meet)
            all_goals exact ⟨_, HS8.out.1, HX8.out.set hBg 1 _⟩
          case rest =>
            obtain ⟨ev', HB8, HX8⟩ := hcut
            rename World => w8
            clear HB7 HX7 d1 d2 f1 hBl hgl HAL
            go_wp2_with fail
            go_ret
            exact ⟨rfl, ⟨sv', ev', .slice a3 M cp3, HB8.out⟩, HX8.out.bel⟩
end Go.Proofs.YtlplbnlfajdcbaaGreatDoor
