/-
  dragnetlaw7.ManyTurned, for every input. Conditions: as it says.
-/
import Derived.Test.YtlejfeapnnioeaaTu3
import Derived.Deep.RegionHeld3
namespace Go.Proofs.Ytlejfeapnnioeaa
open Go.RowKit Go.Shelf
set_option linter.unusedVariables false
set_option maxRecDepth 100000 in
set_option maxHeartbeats 12000000 in
theorem manyTurned_any (p : Option Addr) (cap : Nat) (R : List ByteArray) (s : ByteArray) (pt : Option Addr) (ct : Nat) (U : List Int) (by_ : Int) (w : World) (h : StrAt w p R) (hl : R.length ≤ 140737488351232) (hR : ∀ x ∈ R, x.size ≤ 140737488351232) (hs : s.size ≤ 1048576) (hU : ∀ z ∈ U, -9223372036854775808 ≤ z ∧ z ≤ 9223372036854775807) (hcU : ∀ i, i < U.length → ∃ g off, pt = some ⟨g, off, none⟩ ∧ w.cell? ⟨g, off + i, none⟩ = some (.int .i64 (U.getD i 0))) (hul : U.length ≤ 140737488351232) (hy1 : -9223372036854775808 ≤ by_) (hy2 : by_ ≤ 9223372036854775807) :
    Calls Try.prog 6 #[.slice p R.length cap, .string s, .slice pt U.length ct, .int .i64 by_] w fun e w' => e = .returned (.bool true) ∧ Below w.heap.size w w' := by
  obtain ⟨b, hb⟩ : ∃ b, w.heap.size = b := ⟨_, rfl⟩
  obtain ⟨n, hn⟩ : ∃ n, R.length = n := ⟨_, rfl⟩
  obtain ⟨tl, htl⟩ : ∃ tl, U.length = tl := ⟨_, rfl⟩
  obtain ⟨L, hL⟩ : ∃ L, Mn.fitL true R = L := ⟨_, rfl⟩
  have HFL := Hid.mk' (Mn.fitL_fit true R)
  rw [hL] at HFL
  obtain ⟨m, hm⟩ : ∃ m, L.length = m := ⟨_, rfl⟩
  have hm0 : 0 < m := by rw [← hm]; exact HFL.out.2
  have hm30 : m ≤ 30 := by rw [← hm]; exact HFL.out.1.len
  have HM := Hid.mk' hm
  have H0 : Hid (AlW (fun V => StrAt V p R) b w w) := ⟨Below.refl _ _, by omega, kept_str _ _, h⟩
  have HSH := Hid.mk' (shown_any w)
  have HFI := Hid.mk' (fun V (K : World → Prop) (hV : AlW K b w V) (hst : StrAt V p R) => al_fits (fold := true) p cap n R hn hV hst (by omega) (fun x hx => by have := hR x hx; omega) hL hm hm0)
  have hmk := fun w => make_ints m (by omega) w
  have HCU : Hid (∀ i, i < tl → ∃ g off, pt = some ⟨g, off, none⟩ ∧ g < b ∧ w.cell? ⟨g, off + i, none⟩ = some (.int .i64 (U.getD i 0)) ∧ -9223372036854775808 ≤ U.getD i 0 ∧ U.getD i 0 ≤ 9223372036854775807) := fun i hi => by
    obtain ⟨g, off, h1, h2⟩ := hcU i (by omega)
    have h3 := World.block_lt_of_cell? w _ h2
    simp only [hb] at h3
    have h4 := hU (U.getD i 0) (by rw [List.getD_eq_getElem?_getD, List.getElem?_eq_getElem (by omega)]; exact List.getElem_mem _)
    exact ⟨g, off, h1, h3, h2, h4.1, h4.2⟩
  have HPK := Hid.mk' (fun (z : Int) (V : World) h1 h2 => pick_any z (m : Int) V (by omega) (by omega) h1 h2)
  rw [htl] at hul
  have HY := Hid.mk' (And.intro hy1 hy2)
  have HO0 : Hid (Mn.Ord m []) := Hid.mk' ⟨by simp, by simp⟩
  rw [hn, hb, htl]
  clear h hl hR hn hL hm hU hcU htl hy1 hy2
  go_enter Try.func6, Try.ntmps6
  go_wp2_with (first
    | (go_at_call 7; refine HSH.out.mono ?_; rintro e w1 ⟨rfl, hb1⟩; have HW1 := Hid.mk' (H0.out.keep hb1); clear hb1 HSH H0)
    | (go_at_call 17; refine (HFI.out _ _ HW1.out HW1.out.ex).mono ?_; rintro e w2 ⟨gw, c, rfl, hmc, hcm, hw2⟩; have HW2 := Hid.mk' hw2; clear hw2 HW1 HFI)
    | fail)
  obtain ⟨pb, hpb⟩ : ∃ pb, w2.heap.size = pb := ⟨_, rfl⟩
  have HT0 : Hid (TuW b pb w w2 L m [] none 0 0 (w2.alloc (.cells (rowV (fun _ => .int .i64 0) m).toArray 3))) := Hid.mk' (by rw [← hpb]; exact TuW.start b w w2 L m HW2.out.bel HW2.out.siz)
  have HWD : Hid (StrAt w2 (some ⟨gw, 0, none⟩) L ∧ gw < pb) := Hid.mk' (by
    refine ⟨HW2.out.ex.2, ?_⟩
    obtain ⟨g, off, h1, h2⟩ := HW2.out.ex.2 0 HFL.out.2
    cases h1
    have h3 := World.block_lt_of_cell? w2 _ h2
    simp only [hpb] at h3
    exact h3)
  have HTU : Hid (∀ (i : Nat) (V : World), i < tl → (∀ k, k < pb → V.heap[k]? = w2.heap[k]?) → ∃ g off, pt = some ⟨g, off, none⟩ ∧ V.cell? ⟨g, off + i, none⟩ = some (.int .i64 (U.getD i 0)) ∧ -9223372036854775808 ≤ U.getD i 0 ∧ U.getD i 0 ≤ 9223372036854775807) := fun i V hi hV => by
    obtain ⟨g, off, h1, h2, h3, h4, h5⟩ := HCU.out i hi
    have hlo : b ≤ pb := by rw [← hpb]; exact HW2.out.siz
    exact ⟨g, off, h1, (World.cell?_of_block (a := ⟨g, off + i, none⟩) ((hV g (by omega)).trans (HW2.out.bel.block g h2))).trans h3, h4, h5⟩
  rw [hpb]
  clear hmk hpb HCU
  go_loopw [11, 13, 14, 15, 16, 17, 18, 19] (fun ov av kv uv iv ev fv jv wr => ∃ (is : List Nat) (q : Option Addr) (n1 c1 at_ : Nat), ov = .slice q n1 c1 ∧ av = .int .i64 (at_ : Int) ∧ n1 ≤ m ∧ at_ ≤ tl ∧ Hid (Mn.Ord m is) ∧ Hid (TuW b pb w w2 L m is q n1 c1 wr)) (fun ov av kv uv iv ev fv jv _ => (m - slen ov) + (tl - (intOf av).toNat))
  case atStart => exact ⟨[], none, 0, 0, 0, rfl, rfl, Nat.zero_le _, Nat.zero_le _, HO0, HT0⟩
  case round =>
    obtain ⟨is, q, n1, c1, at_, rfl, rfl, hn1, hat, HO, HT⟩ := hrel
    rename World => wr
    by_cases hnm : n1 < m
    · have hnmI : (n1 : Int) < (m : Int) := by omega
      by_cases hat2 : at_ < tl
      · have hatI : (at_ : Int) < (tl : Int) := by omega
        have hatN : ¬ (tl : Int) ≤ (at_ : Int) := by omega
        obtain ⟨gt, ot, htp, hct, hz1, hz2⟩ := HTU.out at_ wr hat2 HT.out.kp
        obtain ⟨zt, hzt⟩ : ∃ zt, U.getD at_ 0 = zt := ⟨_, rfl⟩
        rw [hzt] at hct hz1 hz2
        subst htp
        have hwa : IntKind.i64.wrap ((at_ : Int) + 1) = (at_ : Int) + 1 := by rw [IntKind.wrap_i64]; omega
        obtain ⟨at2, hat3⟩ : ∃ at2, at_ + 1 = at2 := ⟨_, rfl⟩
        have hatE : (at_ : Int) + 1 = (at2 : Int) := by omega
        clear hzt
        go_wp2_with (first
          | (go_at_call 14; refine (HPK.out zt _ hz1 hz2).mono ?_; rintro e w4 ⟨⟨k, hk, rfl⟩, hw4⟩; have hw4' := hw4.symm; subst hw4')
          | fail)
        have hkm : k < m := by omega
        have HUS := Hid.mk' (Mn.usedK_iff HFL.out.1.nod (is := is) (by rw [HM.out]; exact HO.out) (k := k) (by rw [HM.out]; exact hkm))
        rw [HT.out.len] at HUS
        go_loopw [15, 16] (fun uv jv wx => ∃ j : Nat, uv = .bool (Mn.usedK L is k j) ∧ jv = .int .i64 (j : Int) ∧ j ≤ n1 ∧ Hid (∃ e, wx = wr.drewN e)) (fun uv jv _ => n1 - (intOf jv).toNat)
        case atStart => exact ⟨0, rfl, rfl, Nat.zero_le _, 0, rfl⟩
        case round =>
          obtain ⟨j, rfl, rfl, hj, hdr⟩ := hrel
          rename World => wx
          have HTX := Hid.mk' (HT.out.drewN hdr.out)
          by_cases hjn : j < n1
          · have hjI : (j : Int) < (n1 : Int) := by omega
            have hkI : (k : Int) < (m : Int) := by omega
            have hun := Mn.usedK_next L is k j (by rw [HT.out.len]; exact hjn)
            obtain ⟨x, hx⟩ : ∃ x, L.getD k ByteArray.empty = x := ⟨_, rfl⟩
            obtain ⟨y, hy⟩ : ∃ y, L.getD (is.getD j 0) ByteArray.empty = y := ⟨_, rfl⟩
            obtain ⟨gq, hgq, cy⟩ := HTX.out.at hjn
            have cx := HTX.out.word HWD.out.1 HWD.out.2 (k := k) (by rw [HM.out]; exact hkm)
            rw [hx] at cx hun
            rw [hy] at cy hun
            obtain ⟨bg, hbg⟩ : ∃ bg, Mn.usedK L is k j = bg := ⟨_, rfl⟩
            rw [hbg] at hun ⊢
            have HUN := Hid.mk' hun
            clear hun hbg hx hy
            subst hgq
            cases bg
            · by_cases he : y = x
              · subst he
                go_wp2_with fail
                go_quiet (fail)
                go_wp2
                go_roundw
                case rel => exact ⟨j + 1, by rw [HUN.out]; simp, by simp, by omega, by obtain ⟨e, rfl⟩ := hdr.out; exact ⟨e + nq, by rw [World.drewN_drewN]⟩⟩
                case measure =>
                  simp [intOf]
                  omega
              · have hneL := toL_ne he
                have hneB : (y.toList == x.toList) = false := by simp [hneL]
                go_wp2_with fail
                go_quiet (fail)
                go_wp2
                go_roundw
                case rel => exact ⟨j + 1, by rw [HUN.out]; simp [he], by simp, by omega, by obtain ⟨e, rfl⟩ := hdr.out; exact ⟨e + nq, by rw [World.drewN_drewN]⟩⟩
                case measure =>
                  simp [intOf]
                  omega
            · go_wp2_with fail
              go_quiet (fail)
              go_wp2
              go_roundw
              case rel => exact ⟨j + 1, by rw [HUN.out]; simp, by simp, by omega, by obtain ⟨e, rfl⟩ := hdr.out; exact ⟨e + nq, by rw [World.drewN_drewN]⟩⟩
              case measure =>
                simp [intOf]
                omega
          · have e9 : n1 = j := by omega
            subst e9
            have hjI : ¬ (n1 : Int) < (n1 : Int) := by omega
            rw [HUS.out]
            by_cases hin : k ∈ is
            · rw [decide_eq_true hin]
              by_cases hfl : at2 < tl
              · have hflI : ¬ (tl : Int) ≤ (at2 : Int) := by omega
                go_wp2_with fail
                go_roundw
                case rel => exact ⟨is, q, n1, c1, at2, rfl, rfl, by omega, by omega, HO, HTX⟩
                case measure =>
                  simp [intOf, slen]
                  omega
              · have hflI : (tl : Int) ≤ (at2 : Int) := by omega
                go_wp2_with fail
                go_loopw [14, 17, 18, 19] (fun kv iv fv jv wy => ∃ (i K1 : Nat), kv = .int .i64 (K1 : Int) ∧ iv = .int .i64 (i : Int) ∧ i ≤ m ∧ Hid (∃ e, wy = wx.drewN e) ∧ Hid ((∃ i2, i2 < i ∧ i2 ∉ is) → K1 < m ∧ K1 ∉ is)) (fun kv iv fv jv _ => m - (intOf iv).toNat)
                case atStart => exact ⟨0, k, rfl, rfl, Nat.zero_le _, ⟨0, rfl⟩, fun ⟨i2, h2, _⟩ => by omega⟩
                case round =>
                  obtain ⟨i, K1, rfl, rfl, him, hdy, hK1⟩ := hrel
                  rename World => wy
                  have HTY := Hid.mk' (HTX.out.drewN hdy.out)
                  by_cases hi : i < m
                  · have hiI : (i : Int) < (m : Int) := by omega
                    have HUS2 := Hid.mk' (Mn.usedK_iff HFL.out.1.nod (is := is) (by rw [HM.out]; exact HO.out) (k := i) (by rw [HM.out]; exact hi))
                    rw [HT.out.len] at HUS2
                    go_wp2_with fail
                    go_loopw [18, 19] (fun fv jv wz => ∃ (j2 : Nat) (fb : Bool), fv = .bool fb ∧ jv = .int .i64 (j2 : Int) ∧ j2 ≤ n1 ∧ Hid (fb = !Mn.usedK L is i j2) ∧ Hid (∃ e, wz = wy.drewN e)) (fun fv jv _ => n1 - (intOf jv).toNat)
                    case atStart => exact ⟨0, true, rfl, rfl, Nat.zero_le _, rfl, 0, rfl⟩
                    case round =>
                      obtain ⟨j2, fb, rfl, rfl, hj2, hfb, hdz⟩ := hrel
                      rename World => wz
                      have HTZ := Hid.mk' (HTY.out.drewN hdz.out)
                      by_cases hjn2 : j2 < n1
                      · have hjI2 : (j2 : Int) < (n1 : Int) := by omega
                        have hun := Mn.usedK_next L is i j2 (by rw [HT.out.len]; exact hjn2)
                        obtain ⟨x, hx⟩ : ∃ x, L.getD i ByteArray.empty = x := ⟨_, rfl⟩
                        obtain ⟨y, hy⟩ : ∃ y, L.getD (is.getD j2 0) ByteArray.empty = y := ⟨_, rfl⟩
                        obtain ⟨gq, hgq, cy⟩ := HTZ.out.at hjn2
                        have cx := HTZ.out.word HWD.out.1 HWD.out.2 (k := i) (by rw [HM.out]; exact hi)
                        rw [hx] at cx hun
                        rw [hy] at cy hun
                        have HUN := Hid.mk' hun
                        have HDN : Hid (∀ e, ∃ e2, wz.drewN e = wy.drewN e2) := fun e => by obtain ⟨e3, rfl⟩ := hdz.out; exact ⟨e3 + e, by rw [World.drewN_drewN]⟩
                        clear hun hx hy
                        subst hgq
                        cases fb
                        · have HU1 : Hid (Mn.usedK L is i j2 = true) := Hid.mk' (by simpa using hfb.out.symm)
                          clear hfb
                          go_wp2_with fail
                          go_quiet (fail)
                          go_wp2
                          go_roundw
                          case rel => exact ⟨j2 + 1, false, rfl, by simp, by omega, Hid.mk' (by rw [HUN.out, HU1.out]; rfl), HDN.out nq⟩
                          case measure =>
                            simp [intOf]
                            omega
                        · have HU1 : Hid (Mn.usedK L is i j2 = false) := Hid.mk' (by simpa using hfb.out.symm)
                          clear hfb
                          by_cases he : y = x
                          · subst he
                            go_wp2_with fail
                            go_quiet (fail)
                            go_wp2
                            go_roundw
                            case rel => exact ⟨j2 + 1, false, rfl, by simp, by omega, Hid.mk' (by rw [HUN.out, HU1.out]; simp), HDN.out nq⟩
                            case measure =>
                              simp [intOf]
                              omega
                          · have hneL := toL_ne he
                            have hneB : (y.toList == x.toList) = false := by simp [hneL]
                            go_wp2_with fail
                            go_quiet (fail)
                            go_wp2
                            go_roundw
                            case rel => exact ⟨j2 + 1, true, rfl, by simp, by omega, Hid.mk' (by rw [HUN.out, HU1.out]; simp [he]), HDN.out nq⟩
                            case measure =>
                              simp [intOf]
                              omega
                      · have e9 : n1 = j2 := by omega
                        subst e9
                        have hjI2 : ¬ (n1 : Int) < (n1 : Int) := by omega
                        have HDX : Hid (∃ e, wz = wx.drewN e) := Hid.mk' (by obtain ⟨e, rfl⟩ := hdy.out; obtain ⟨e2, rfl⟩ := hdz.out; exact ⟨e + e2, by rw [World.drewN_drewN]⟩)
                        have hfb2 := hfb.out
                        rw [HUS2.out] at hfb2
                        by_cases hin2 : i ∈ is
                        · rw [decide_eq_true hin2] at hfb2
                          have e8 : fb = false := by rw [hfb2]; rfl
                          subst e8
                          have HK2 : Hid ((∃ i2, i2 < i + 1 ∧ i2 ∉ is) → K1 < m ∧ K1 ∉ is) := fun ⟨i2, h2, h3⟩ => hK1.out ⟨i2, by
                            rcases Nat.lt_or_ge i2 i with h4 | h4
                            · exact h4
                            · have : i2 = i := by omega
                              subst this
                              exact absurd hin2 h3, h3⟩
                          clear hfb hfb2
                          go_wp2_with fail
                          go_roundw
                          case rel => exact ⟨i + 1, K1, rfl, by simp, by omega, HDX, HK2⟩
                          case measure =>
                            simp [intOf]
                            omega
                        · rw [decide_eq_false hin2] at hfb2
                          have e8 : fb = true := by rw [hfb2]; rfl
                          subst e8
                          have HK2 : Hid ((∃ i2, i2 < i + 1 ∧ i2 ∉ is) → i < m ∧ i ∉ is) := fun _ => ⟨hi, hin2⟩
                          clear hfb hfb2
                          go_wp2_with fail
                          go_roundw
                          case rel => exact ⟨i + 1, i, rfl, by simp, by omega, HDX, HK2⟩
                          case measure =>
                            simp [intOf]
                            omega
                  · have e9 : m = i := by omega
                    subst e9
                    have hiI : ¬ (m : Int) < (m : Int) := by omega
                    obtain ⟨hKm, hKn⟩ := hK1.out (HO.out.free (by have := HT.out.len; omega))
                    obtain ⟨x9, hx9⟩ : ∃ x9, L.getD K1 ByteArray.empty = x9 := ⟨_, rfl⟩
                    have cx9 := HTY.out.word HWD.out.1 HWD.out.2 (k := K1) (by rw [HM.out]; exact hKm)
                    rw [hx9] at cx9
                    have cx8 : (wy.setCell ⟨pb, K1, none⟩ (.int .i64 (n1 : Int))).cell? ⟨gw, K1, none⟩ = some (.string x9) := (World.cell?_of_block (a := ⟨gw, K1, none⟩) (set_heap wy pb gw K1 _ (by have := HWD.out.2; omega))).trans cx9
                    obtain ⟨cp9, fp9⟩ := HTY.out.cell (k := K1) hKm
                    have HPU := Hid.mk' (HTY.out.put K1)
                    have HON := Hid.mk' (HO.out.snoc hKm hKn)
                    have hKmI : (K1 : Int) < (m : Int) := by omega
                    obtain ⟨i1, j1, j2, j3, j4⟩ := info_parts infoSt
                    have HJ := Hid.mk' (And.intro j1 (And.intro j2 (And.intro j3 j4)))
                    clear j1 j2 j3 j4
                    go_wp2_with (first
                      | (at_builtin; refine wpList_append_own _ rfl _ _ 22 rfl (pb + 1) 9 i1 (.string ⟨#[]⟩) 1 16 Try.underlying22 HJ.out.1 HJ.out.2.1 HJ.out.2.2.1 HJ.out.2.2.2 rfl (by decide) _ _ _ rfl (HPU.out.1.alloc _) ⟨_, 0, none⟩ 1 1 [.string x9] rfl rfl (str_news _ _ (by simp [World.setCell])) (str_one _) (by unfold maxLen; omega) (by omega) (by have := HPU.out.2; simp only [World.size_alloc]; omega) ?_; intro v6 w6 ho6 hg6 _; obtain ⟨p6, c6, rfl⟩ := mr_shape ho6; have HT6 := Hid.mk' (HTY.out.next hKm hKn hx9 ho6 hg6); clear ho6 hg6)
                      | fail)
                    go_roundw
                    case rel => exact ⟨is ++ [K1], p6, n1 + 1, c6, at2, rfl, rfl, by omega, by omega, HON, HT6⟩
                    case measure =>
                      simp [intOf, slen]
                      omega
            · rw [decide_eq_false hin]
              have hKn := hin
              obtain ⟨x9, hx9⟩ : ∃ x9, L.getD k ByteArray.empty = x9 := ⟨_, rfl⟩
              have cx9 := HTX.out.word HWD.out.1 HWD.out.2 (k := k) (by rw [HM.out]; exact hkm)
              rw [hx9] at cx9
              have cx8 : (wx.setCell ⟨pb, k, none⟩ (.int .i64 (n1 : Int))).cell? ⟨gw, k, none⟩ = some (.string x9) := (World.cell?_of_block (a := ⟨gw, k, none⟩) (set_heap wx pb gw k _ (by have := HWD.out.2; omega))).trans cx9
              obtain ⟨cp9, fp9⟩ := HTX.out.cell (k := k) hkm
              have HPU := Hid.mk' (HTX.out.put k)
              have HON := Hid.mk' (HO.out.snoc hkm hKn)
              have hKmI : (k : Int) < (m : Int) := by omega
              obtain ⟨i1, j1, j2, j3, j4⟩ := info_parts infoSt
              have HJ := Hid.mk' (And.intro j1 (And.intro j2 (And.intro j3 j4)))
              clear j1 j2 j3 j4
              go_wp2_with (first
                | (at_builtin; refine wpList_append_own _ rfl _ _ 22 rfl (pb + 1) 9 i1 (.string ⟨#[]⟩) 1 16 Try.underlying22 HJ.out.1 HJ.out.2.1 HJ.out.2.2.1 HJ.out.2.2.2 rfl (by decide) _ _ _ rfl (HPU.out.1.alloc _) ⟨_, 0, none⟩ 1 1 [.string x9] rfl rfl (str_news _ _ (by simp [World.setCell])) (str_one _) (by unfold maxLen; omega) (by omega) (by have := HPU.out.2; simp only [World.size_alloc]; omega) ?_; intro v6 w6 ho6 hg6 _; obtain ⟨p6, c6, rfl⟩ := mr_shape ho6; have HT6 := Hid.mk' (HTX.out.next hkm hKn hx9 ho6 hg6); clear ho6 hg6)
                | fail)
              go_roundw
              case rel => exact ⟨is ++ [k], p6, n1 + 1, c6, at2, rfl, rfl, by omega, by omega, HON, HT6⟩
              case measure =>
                simp [intOf, slen]
                omega
      · obtain rfl : at_ = tl := by omega
        have hatI : ¬ (at_ : Int) < (at_ : Int) := by omega
        go_wp2_with fail
        have hkm : n1 < m := by omega
        have HUS := Hid.mk' (Mn.usedK_iff HFL.out.1.nod (is := is) (by rw [HM.out]; exact HO.out) (k := n1) (by rw [HM.out]; exact hkm))
        rw [HT.out.len] at HUS
        go_loopw [15, 16] (fun uv jv wx => ∃ j : Nat, uv = .bool (Mn.usedK L is n1 j) ∧ jv = .int .i64 (j : Int) ∧ j ≤ n1 ∧ Hid (∃ e, wx = wr.drewN e)) (fun uv jv _ => n1 - (intOf jv).toNat)
        case atStart => exact ⟨0, rfl, rfl, Nat.zero_le _, 0, rfl⟩
        case round =>
          obtain ⟨j, rfl, rfl, hj, hdr⟩ := hrel
          rename World => wx
          have HTX := Hid.mk' (HT.out.drewN hdr.out)
          by_cases hjn : j < n1
          · have hjI : (j : Int) < (n1 : Int) := by omega
            have hkI : (n1 : Int) < (m : Int) := by omega
            have hun := Mn.usedK_next L is n1 j (by rw [HT.out.len]; exact hjn)
            obtain ⟨x, hx⟩ : ∃ x, L.getD n1 ByteArray.empty = x := ⟨_, rfl⟩
            obtain ⟨y, hy⟩ : ∃ y, L.getD (is.getD j 0) ByteArray.empty = y := ⟨_, rfl⟩
            obtain ⟨gq, hgq, cy⟩ := HTX.out.at hjn
            have cx := HTX.out.word HWD.out.1 HWD.out.2 (k := n1) (by rw [HM.out]; exact hkm)
            rw [hx] at cx hun
            rw [hy] at cy hun
            obtain ⟨bg, hbg⟩ : ∃ bg, Mn.usedK L is n1 j = bg := ⟨_, rfl⟩
            rw [hbg] at hun ⊢
            have HUN := Hid.mk' hun
            clear hun hbg hx hy
            subst hgq
            cases bg
            · by_cases he : y = x
              · subst he
                go_wp2_with fail
                go_quiet (fail)
                go_wp2
                go_roundw
                case rel => exact ⟨j + 1, by rw [HUN.out]; simp, by simp, by omega, by obtain ⟨e, rfl⟩ := hdr.out; exact ⟨e + nq, by rw [World.drewN_drewN]⟩⟩
                case measure =>
                  simp [intOf]
                  omega
              · have hneL := toL_ne he
                have hneB : (y.toList == x.toList) = false := by simp [hneL]
                go_wp2_with fail
                go_quiet (fail)
                go_wp2
                go_roundw
                case rel => exact ⟨j + 1, by rw [HUN.out]; simp [he], by simp, by omega, by obtain ⟨e, rfl⟩ := hdr.out; exact ⟨e + nq, by rw [World.drewN_drewN]⟩⟩
                case measure =>
                  simp [intOf]
                  omega
            · go_wp2_with fail
              go_quiet (fail)
              go_wp2
              go_roundw
              case rel => exact ⟨j + 1, by rw [HUN.out]; simp, by simp, by omega, by obtain ⟨e, rfl⟩ := hdr.out; exact ⟨e + nq, by rw [World.drewN_drewN]⟩⟩
              case measure =>
                simp [intOf]
                omega
          · have e9 : n1 = j := by omega
            subst e9
            have hjI : ¬ (n1 : Int) < (n1 : Int) := by omega
            rw [HUS.out]
            by_cases hin : n1 ∈ is
            · rw [decide_eq_true hin]
              go_wp2_with fail
              go_loopw [14, 17, 18, 19] (fun kv iv fv jv wy => ∃ (i K1 : Nat), kv = .int .i64 (K1 : Int) ∧ iv = .int .i64 (i : Int) ∧ i ≤ m ∧ Hid (∃ e, wy = wx.drewN e) ∧ Hid ((∃ i2, i2 < i ∧ i2 ∉ is) → K1 < m ∧ K1 ∉ is)) (fun kv iv fv jv _ => m - (intOf iv).toNat)
              case atStart => exact ⟨0, n1, rfl, rfl, Nat.zero_le _, ⟨0, rfl⟩, fun ⟨i2, h2, _⟩ => by omega⟩
              case round =>
                obtain ⟨i, K1, rfl, rfl, him, hdy, hK1⟩ := hrel
                rename World => wy
                have HTY := Hid.mk' (HTX.out.drewN hdy.out)
                by_cases hi : i < m
                · have hiI : (i : Int) < (m : Int) := by omega
                  have HUS2 := Hid.mk' (Mn.usedK_iff HFL.out.1.nod (is := is) (by rw [HM.out]; exact HO.out) (k := i) (by rw [HM.out]; exact hi))
                  rw [HT.out.len] at HUS2
                  go_wp2_with fail
                  go_loopw [18, 19] (fun fv jv wz => ∃ (j2 : Nat) (fb : Bool), fv = .bool fb ∧ jv = .int .i64 (j2 : Int) ∧ j2 ≤ n1 ∧ Hid (fb = !Mn.usedK L is i j2) ∧ Hid (∃ e, wz = wy.drewN e)) (fun fv jv _ => n1 - (intOf jv).toNat)
                  case atStart => exact ⟨0, true, rfl, rfl, Nat.zero_le _, rfl, 0, rfl⟩
                  case round =>
                    obtain ⟨j2, fb, rfl, rfl, hj2, hfb, hdz⟩ := hrel
                    rename World => wz
                    have HTZ := Hid.mk' (HTY.out.drewN hdz.out)
                    by_cases hjn2 : j2 < n1
                    · have hjI2 : (j2 : Int) < (n1 : Int) := by omega
                      have hun := Mn.usedK_next L is i j2 (by rw [HT.out.len]; exact hjn2)
                      obtain ⟨x, hx⟩ : ∃ x, L.getD i ByteArray.empty = x := ⟨_, rfl⟩
                      obtain ⟨y, hy⟩ : ∃ y, L.getD (is.getD j2 0) ByteArray.empty = y := ⟨_, rfl⟩
                      obtain ⟨gq, hgq, cy⟩ := HTZ.out.at hjn2
                      have cx := HTZ.out.word HWD.out.1 HWD.out.2 (k := i) (by rw [HM.out]; exact hi)
                      rw [hx] at cx hun
                      rw [hy] at cy hun
                      have HUN := Hid.mk' hun
                      have HDN : Hid (∀ e, ∃ e2, wz.drewN e = wy.drewN e2) := fun e => by obtain ⟨e3, rfl⟩ := hdz.out; exact ⟨e3 + e, by rw [World.drewN_drewN]⟩
                      clear hun hx hy
                      subst hgq
                      cases fb
                      · have HU1 : Hid (Mn.usedK L is i j2 = true) := Hid.mk' (by simpa using hfb.out.symm)
                        clear hfb
                        go_wp2_with fail
                        go_quiet (fail)
                        go_wp2
                        go_roundw
                        case rel => exact ⟨j2 + 1, false, rfl, by simp, by omega, Hid.mk' (by rw [HUN.out, HU1.out]; rfl), HDN.out nq⟩
                        case measure =>
                          simp [intOf]
                          omega
                      · have HU1 : Hid (Mn.usedK L is i j2 = false) := Hid.mk' (by simpa using hfb.out.symm)
                        clear hfb
                        by_cases he : y = x
                        · subst he
                          go_wp2_with fail
                          go_quiet (fail)
                          go_wp2
                          go_roundw
                          case rel => exact ⟨j2 + 1, false, rfl, by simp, by omega, Hid.mk' (by rw [HUN.out, HU1.out]; simp), HDN.out nq⟩
                          case measure =>
                            simp [intOf]
                            omega
                        · have hneL := toL_ne he
                          have hneB : (y.toList == x.toList) = false := by simp [hneL]
                          go_wp2_with fail
                          go_quiet (fail)
                          go_wp2
                          go_roundw
                          case rel => exact ⟨j2 + 1, true, rfl, by simp, by omega, Hid.mk' (by rw [HUN.out, HU1.out]; simp [he]), HDN.out nq⟩
                          case measure =>
                            simp [intOf]
                            omega
                    · have e9 : n1 = j2 := by omega
                      subst e9
                      have hjI2 : ¬ (n1 : Int) < (n1 : Int) := by omega
                      have HDX : Hid (∃ e, wz = wx.drewN e) := Hid.mk' (by obtain ⟨e, rfl⟩ := hdy.out; obtain ⟨e2, rfl⟩ := hdz.out; exact ⟨e + e2, by rw [World.drewN_drewN]⟩)
                      have hfb2 := hfb.out
                      rw [HUS2.out] at hfb2
                      by_cases hin2 : i ∈ is
                      · rw [decide_eq_true hin2] at hfb2
                        have e8 : fb = false := by rw [hfb2]; rfl
                        subst e8
                        have HK2 : Hid ((∃ i2, i2 < i + 1 ∧ i2 ∉ is) → K1 < m ∧ K1 ∉ is) := fun ⟨i2, h2, h3⟩ => hK1.out ⟨i2, by
                          rcases Nat.lt_or_ge i2 i with h4 | h4
                          · exact h4
                          · have : i2 = i := by omega
                            subst this
                            exact absurd hin2 h3, h3⟩
                        clear hfb hfb2
                        go_wp2_with fail
                        go_roundw
                        case rel => exact ⟨i + 1, K1, rfl, by simp, by omega, HDX, HK2⟩
                        case measure =>
                          simp [intOf]
                          omega
                      · rw [decide_eq_false hin2] at hfb2
                        have e8 : fb = true := by rw [hfb2]; rfl
                        subst e8
                        have HK2 : Hid ((∃ i2, i2 < i + 1 ∧ i2 ∉ is) → i < m ∧ i ∉ is) := fun _ => ⟨hi, hin2⟩
                        clear hfb hfb2
                        go_wp2_with fail
                        go_roundw
                        case rel => exact ⟨i + 1, i, rfl, by simp, by omega, HDX, HK2⟩
                        case measure =>
                          simp [intOf]
                          omega
                · have e9 : m = i := by omega
                  subst e9
                  have hiI : ¬ (m : Int) < (m : Int) := by omega
                  obtain ⟨hKm, hKn⟩ := hK1.out (HO.out.free (by have := HT.out.len; omega))
                  obtain ⟨x9, hx9⟩ : ∃ x9, L.getD K1 ByteArray.empty = x9 := ⟨_, rfl⟩
                  have cx9 := HTY.out.word HWD.out.1 HWD.out.2 (k := K1) (by rw [HM.out]; exact hKm)
                  rw [hx9] at cx9
                  have cx8 : (wy.setCell ⟨pb, K1, none⟩ (.int .i64 (n1 : Int))).cell? ⟨gw, K1, none⟩ = some (.string x9) := (World.cell?_of_block (a := ⟨gw, K1, none⟩) (set_heap wy pb gw K1 _ (by have := HWD.out.2; omega))).trans cx9
                  obtain ⟨cp9, fp9⟩ := HTY.out.cell (k := K1) hKm
                  have HPU := Hid.mk' (HTY.out.put K1)
                  have HON := Hid.mk' (HO.out.snoc hKm hKn)
                  have hKmI : (K1 : Int) < (m : Int) := by omega
                  obtain ⟨i1, j1, j2, j3, j4⟩ := info_parts infoSt
                  have HJ := Hid.mk' (And.intro j1 (And.intro j2 (And.intro j3 j4)))
                  clear j1 j2 j3 j4
                  go_wp2_with (first
                    | (at_builtin; refine wpList_append_own _ rfl _ _ 22 rfl (pb + 1) 9 i1 (.string ⟨#[]⟩) 1 16 Try.underlying22 HJ.out.1 HJ.out.2.1 HJ.out.2.2.1 HJ.out.2.2.2 rfl (by decide) _ _ _ rfl (HPU.out.1.alloc _) ⟨_, 0, none⟩ 1 1 [.string x9] rfl rfl (str_news _ _ (by simp [World.setCell])) (str_one _) (by unfold maxLen; omega) (by omega) (by have := HPU.out.2; simp only [World.size_alloc]; omega) ?_; intro v6 w6 ho6 hg6 _; obtain ⟨p6, c6, rfl⟩ := mr_shape ho6; have HT6 := Hid.mk' (HTY.out.next hKm hKn hx9 ho6 hg6); clear ho6 hg6)
                    | fail)
                  go_roundw
                  case rel => exact ⟨is ++ [K1], p6, n1 + 1, c6, at_, rfl, rfl, by omega, by omega, HON, HT6⟩
                  case measure =>
                    simp [intOf, slen]
                    omega
            · rw [decide_eq_false hin]
              have hKn := hin
              obtain ⟨x9, hx9⟩ : ∃ x9, L.getD n1 ByteArray.empty = x9 := ⟨_, rfl⟩
              have cx9 := HTX.out.word HWD.out.1 HWD.out.2 (k := n1) (by rw [HM.out]; exact hkm)
              rw [hx9] at cx9
              have cx8 : (wx.setCell ⟨pb, n1, none⟩ (.int .i64 (n1 : Int))).cell? ⟨gw, n1, none⟩ = some (.string x9) := (World.cell?_of_block (a := ⟨gw, n1, none⟩) (set_heap wx pb gw n1 _ (by have := HWD.out.2; omega))).trans cx9
              obtain ⟨cp9, fp9⟩ := HTX.out.cell (k := n1) hkm
              have HPU := Hid.mk' (HTX.out.put n1)
              have HON := Hid.mk' (HO.out.snoc hkm hKn)
              have hKmI : (n1 : Int) < (m : Int) := by omega
              obtain ⟨i1, j1, j2, j3, j4⟩ := info_parts infoSt
              have HJ := Hid.mk' (And.intro j1 (And.intro j2 (And.intro j3 j4)))
              clear j1 j2 j3 j4
              go_wp2_with (first
                | (at_builtin; refine wpList_append_own _ rfl _ _ 22 rfl (pb + 1) 9 i1 (.string ⟨#[]⟩) 1 16 Try.underlying22 HJ.out.1 HJ.out.2.1 HJ.out.2.2.1 HJ.out.2.2.2 rfl (by decide) _ _ _ rfl (HPU.out.1.alloc _) ⟨_, 0, none⟩ 1 1 [.string x9] rfl rfl (str_news _ _ (by simp [World.setCell])) (str_one _) (by unfold maxLen; omega) (by omega) (by have := HPU.out.2; simp only [World.size_alloc]; omega) ?_; intro v6 w6 ho6 hg6 _; obtain ⟨p6, c6, rfl⟩ := mr_shape ho6; have HT6 := Hid.mk' (HTX.out.next hkm hKn hx9 ho6 hg6); clear ho6 hg6)
                | fail)
              go_roundw
              case rel => exact ⟨is ++ [n1], p6, n1 + 1, c6, at_, rfl, rfl, by omega, by omega, HON, HT6⟩
              case measure =>
                simp [intOf, slen]
                omega
    · have e9 : m = n1 := by omega
      subst e9
      have hnmI : ¬ (m : Int) < (m : Int) := by omega
      have HOL : Hid (is.length = L.length) := Hid.mk' (by rw [HT.out.len, HM.out])
      have HOO : Hid (Mn.Ord L.length is) := Hid.mk' (by rw [HM.out]; exact HO.out)
      obtain ⟨O, hO⟩ : ∃ O, Mn.ord L is = O := ⟨_, rfl⟩
      have HOF := Hid.mk' (HFL.out.1.ord HOO.out)
      rw [hO] at HOF
      have HOM : Hid (O.length = m) := Hid.mk' (by rw [← hO, Mn.ord_len]; exact HT.out.len)
      have HG := Hid.mk' (HFL.out.1.good HFL.out.2)
      have HGO := Hid.mk' (HOF.out.good (by rw [HOM.out]; exact hm0))
      have HNS := Hid.mk' (Mn.ns_ord (fold := true) HOO.out HOL.out)
      rw [hO] at HNS
      have HRO := Hid.mk' HT.out.row
      rw [hO] at HRO
      obtain ⟨gq, hgq, hqc, hqm⟩ : ∃ gq, q = some ⟨gq, 0, none⟩ ∧ m ≤ c1 ∧ c1 ≤ 9223372036854775807 := by
        rcases HRO.out.2 with ⟨_, h1⟩ | ⟨g', cap', cur, h1, h2, h3, h4, h5, _⟩
        · omega
        · simp only [Value.slice.injEq] at h1
          obtain ⟨h6, _, rfl⟩ := h1
          unfold maxLen at h5
          exact ⟨g', h6, h4, h5⟩
      subst hgq
      have HST : Hid (StrAt wr (some ⟨gq, 0, none⟩) O) := Hid.mk' (str_at HRO.out HOM.out.symm)
      have HPE : Hid (∀ T i, i < m → Mn.plc (Mn.allF (Mn.wds true O) T) (Mn.plF is i) = Mn.plc (Mn.allF (Mn.wds true L) T) i) := fun T i hi => by
        have := Mn.plc_ord HFL.out.1 HOO.out HOL.out HFL.out.2 T (i := i) (by rw [HM.out]; exact hi)
        rw [hO] at this
        exact this
      have HPT : Hid (∀ i, i < m → Mn.plF is i < m) := fun i hi => (Mn.plF_at HO.out (by rw [HT.out.len]) hi).1
      obtain ⟨PF, hPF⟩ : ∃ PF, Mn.plF is = PF := ⟨_, rfl⟩
      have HWA : Hid (AlW (fun V => (StrAt V (some ⟨gw, 0, none⟩) L ∧ StrAt V (some ⟨gq, 0, none⟩) O) ∧ V.heap[pb]? = some (.cells (rowV (fun i => .int .i64 (Mn.plF is i : Int)) m).toArray 3 (0, 0))) b w wr) := Hid.mk' (by
        refine ⟨HT.out.bel, by have := HT.out.siz; have := HT.out.lo; omega, fun V V' hb hx => ⟨⟨hx.1.1.keep hb, hx.1.2.keep hb⟩, (hb.block pb (Array.getElem?_eq_some_iff.1 hx.2).1).trans hx.2⟩, ⟨fun i hi => ?_, HST.out⟩, HT.out.pl⟩
        refine ⟨gw, 0, rfl, ?_⟩
        rw [Nat.zero_add]
        exact HT.out.word HWD.out.1 HWD.out.2 hi)
      rw [hPF] at HWA HPE HPT
      have HNW := Hid.mk' (fun V (K : World → Prop) q c (hV : AlW K b w V) (hst : StrAt V q L) h1 h2 => al_new (fold := true) q c HM.out hV hst HG.out (fun x hx => by have := (HFL.out.1.siz x hx).2; omega) h1 h2)
      have HNW2 := Hid.mk' (fun V (K : World → Prop) q c (hV : AlW K b w V) (hst : StrAt V q O) h1 h2 => al_new (fold := true) q c HOM.out hV hst HGO.out (fun x hx => by have := (HOF.out.siz x hx).2; omega) h1 h2)
      obtain ⟨ns, hns⟩ : ∃ ns, (Mn.nsOf (Mn.wds true L)).length = ns := ⟨_, rfl⟩
      have HS1 : Hid (∀ V sb, (∃ B, ManyM B sb (Mn.wds true L) true V) → Calls Try.prog 12 #[.pointer (some ⟨sb, 0, none⟩)] V fun e w' => e = .returned (.int .i64 (ns : Int)) ∧ w' = V) := fun V sb ⟨B, h⟩ => by
        have := states_many B sb _ true V h
        rw [hns] at this
        exact this
      have HS2 : Hid (∀ V sb, (∃ B, ManyM B sb (Mn.wds true O) true V) → Calls Try.prog 12 #[.pointer (some ⟨sb, 0, none⟩)] V fun e w' => e = .returned (.int .i64 (ns : Int)) ∧ w' = V) := fun V sb ⟨B, h⟩ => by
        have := states_many B sb _ true V h
        rw [HNS.out, hns] at this
        exact this
      clear hO hPF hns HT HO HOO HOL HRO HST HNS HTU HPK
      go_wp2_with (first
        | (go_at_call 9; refine (HNW.out _ _ _ _ HWA.out HWA.out.ex.1.1 hmc hcm).mono ?_; rintro e wn ⟨sb, rfl, hwn⟩; have HWN := Hid.mk' hwn; clear hwn HWA HNW)
        | (go_at_call 9; refine (HNW2.out _ _ _ _ HWN.out HWN.out.ex.1.1.2 hqc hqm).mono ?_; rintro e wo ⟨sb2, rfl, hwo⟩; have HWO := Hid.mk' hwo; clear hwo HWN HNW2)
        | (go_at_call 12; refine (HS1.out _ _ HWO.out.ex.1.2).mono ?_; rintro e w8 ⟨rfl, hw8⟩; have hw8' := hw8.symm; subst hw8'; clear HS1)
        | (go_at_call 12; refine (HS2.out _ _ HWO.out.ex.2).mono ?_; rintro e w9 ⟨rfl, hw9⟩; have hw9' := hw9.symm; subst hw9'; clear HS2)
        | fail)
      obtain ⟨K, hKs, hKo, hKp, hKm, hKm2, HW⟩ : ∃ K : World → Prop, Hid (∀ V, K V → StrAt V (some ⟨gw, 0, none⟩) L) ∧ Hid (∀ V, K V → StrAt V (some ⟨gq, 0, none⟩) O) ∧ Hid (∀ V, K V → V.heap[pb]? = some (.cells (rowV (fun i => .int .i64 (PF i : Int)) m).toArray 3 (0, 0))) ∧ Hid (∀ V, K V → ∃ B, ManyM B sb (Mn.wds true L) true V) ∧ Hid (∀ V, K V → ∃ B, ManyM B sb2 (Mn.wds true O) true V) ∧ Hid (AlW K b w wo) := ⟨_, fun V h => h.1.1.1.1, fun V h => h.1.1.1.2, fun V h => h.1.1.2, fun V h => h.1.2, fun V h => h.2, HWO.out⟩
      clear HWO
      obtain ⟨Bc, hBc⟩ : ∃ Bc, wo.heap.size = Bc := ⟨_, rfl⟩
      have HY1 := HY.out.1
      have HY2 := HY.out.2
      go_loopw [26, 27, 28] (fun ov iv cv wx => ∃ (i : Nat) (q2 : Option Addr) (c2 : Nat) (l : List Nat), ov = .slice q2 i c2 ∧ iv = .int .i64 (i : Int) ∧ i ≤ s.size ∧ Hid (l.length = i ∧ (∀ z ∈ l, z < 256) ∧ l.map (Mn.lf true) = ((Sums.bl s).take i).map (Mn.lf true)) ∧ Hid (wx.ownsRow Bc 5 1 (.slice q2 i c2) i (byv l)) ∧ Hid (Below Bc wo wx)) (fun ov iv cv _ => s.size - (intOf iv).toNat)
      case atStart => exact ⟨0, none, 0, [], rfl, rfl, Nat.zero_le _, Hid.mk' ⟨rfl, by simp, by simp⟩, World.ownsRow_nil _ _ _ _, Below.refl _ _⟩
      case round =>
        obtain ⟨i, q2, c2, l, rfl, rfl, his, hl, hrow, hbc⟩ := hrel
        rename World => wx
        by_cases hi : i < s.size
        · have hiI : (i : Int) < (s.size : Int) := by omega
          obtain ⟨cb, hcb⟩ : ∃ cb, (Sums.bl s).getD i 0 = cb := ⟨_, rfl⟩
          have hcb256 : cb < 256 := by
            rw [← hcb, List.getD_eq_getElem?_getD, List.getElem?_eq_getElem (by rw [Sums.bl_length]; exact hi)]
            exact Sums.bl_byt s _ (List.getElem_mem _)
          have hix := fun W => idx_m s i cb hi hcb.symm W
          obtain ⟨i0, j1, j2, j3, j4⟩ := info_parts infoB
          have HJ := Hid.mk' (And.intro j1 (And.intro j2 (And.intro j3 j4)))
          obtain ⟨zt, hzt⟩ : ∃ zt, by_ / 2 ^ (i % 60) = zt := ⟨_, rfl⟩
          have hzb := shr_in by_ (i % 60) HY1 HY2
          rw [hzt] at hzb
          obtain ⟨r, hr, hp2⟩ := pick_two zt hzb.1 hzb.2
          have HP2 := Hid.mk' hp2
          have HXO := Hid.mk' (xor_case cb hcb256)
          clear j1 j2 j3 j4 hp2 hzb
          rcases (show (65 ≤ cb ∧ cb ≤ 90) ∨ (97 ≤ cb ∧ cb ≤ 122) ∨ cb < 65 ∨ (90 < cb ∧ cb < 97) ∨ 122 < cb by omega) with h1 | h1 | h1 | h1 | h1
          · have a1 : (65 : Int) ≤ (cb : Int) := by omega
            have a2 : (cb : Int) ≤ 90 := by omega
            rcases (show r = 0 ∨ r = 1 by omega) with rfl | rfl
            · obtain ⟨cx, hcx⟩ : ∃ cx, cx = cb := ⟨_, rfl⟩
              have hcx256 : cx < 256 := by omega
              have HL : Hid ((l ++ [cx]).length = i + 1 ∧ (∀ z ∈ l ++ [cx], z < 256) ∧ (l ++ [cx]).map (Mn.lf true) = ((Sums.bl s).take (i + 1)).map (Mn.lf true)) := Hid.mk' (by
                refine ⟨by rw [List.length_append, hl.out.1]; rfl, fun z hz => ?_, ?_⟩
                · rcases List.mem_append.1 hz with hz | hz
                  · exact hl.out.2.1 z hz
                  · simp at hz
                    omega
                · rw [List.map_append, hl.out.2.2, List.take_add_one, List.getElem?_eq_getElem (by rw [Sums.bl_length]; exact hi), List.map_append]
                  congr 1
                  have h9 : (Sums.bl s)[i]'(by rw [Sums.bl_length]; exact hi) = cb := by rw [← hcb, List.getD_eq_getElem?_getD, List.getElem?_eq_getElem (by rw [Sums.bl_length]; exact hi)]; rfl
                  simp only [List.map_cons, List.map_nil, Option.toList_some, h9]
                  rw [hcx])
              clear hcb
              subst hcx
              go_wp2_with (first | (at_builtin; refine wpList_append_own _ rfl _ _ 54 rfl Bc 5 i0 (.int .u8 0) 1 1 Try.underlying54 HJ.out.1 HJ.out.2.1 HJ.out.2.2.1 HJ.out.2.2.2 rfl (by decide) _ _ _ rfl (hrow.out.alloc _) ⟨wx.heap.size, 0, none⟩ 1 1 [.int .u8 (cx : Int)] rfl rfl (int_news _ _ _ rfl) (u8_one _) (by unfold maxLen; omega) (by omega) (by simp only [World.size_alloc]; have := hbc.out.size; omega) ?_; intro v6 w6 ho6 hg6 _; obtain ⟨p6, c6, rfl⟩ := mr_shape ho6; have HB6 : Hid (Below Bc wo w6) := Hid.mk' (own_rel (by have := hbc.out.size; omega) hrow.out hbc.out hg6); have HR6 : Hid (w6.ownsRow Bc 5 1 (.slice p6 (i + 1) c6) (i + 1) (byv (l ++ [cx]))) := Hid.mk' (by rw [byv_append]; exact ho6); clear ho6 hg6) | (go_at_call 14; refine (HP2.out _).mono ?_; rintro e w5 ⟨rfl, hw5⟩; have hw5' := hw5.symm; subst hw5') | fail)
              go_roundw
              case rel => exact ⟨i + 1, p6, c6, l ++ [cx], rfl, by simp, by omega, HL, HR6, HB6⟩
              case measure =>
                simp [intOf]
                omega
            · obtain ⟨cx, hcx⟩ : ∃ cx, cx = cb + 32 := ⟨_, rfl⟩
              have hcx256 : cx < 256 := by omega
              have HL : Hid ((l ++ [cx]).length = i + 1 ∧ (∀ z ∈ l ++ [cx], z < 256) ∧ (l ++ [cx]).map (Mn.lf true) = ((Sums.bl s).take (i + 1)).map (Mn.lf true)) := Hid.mk' (by
                refine ⟨by rw [List.length_append, hl.out.1]; rfl, fun z hz => ?_, ?_⟩
                · rcases List.mem_append.1 hz with hz | hz
                  · exact hl.out.2.1 z hz
                  · simp at hz
                    omega
                · rw [List.map_append, hl.out.2.2, List.take_add_one, List.getElem?_eq_getElem (by rw [Sums.bl_length]; exact hi), List.map_append]
                  congr 1
                  have h9 : (Sums.bl s)[i]'(by rw [Sums.bl_length]; exact hi) = cb := by rw [← hcb, List.getD_eq_getElem?_getD, List.getElem?_eq_getElem (by rw [Sums.bl_length]; exact hi)]; rfl
                  simp only [List.map_cons, List.map_nil, Option.toList_some, h9]
                  rw [hcx, Mn.lf_up cb h1.1 h1.2])
              have hxo : bits .xor .u8 (cb : Int) 32 = (cx : Int) := by rw [hcx]; exact HXO.out.1 h1
              clear hcb hcx
              go_wp2_with (first | (at_builtin; refine wpList_append_own _ rfl _ _ 54 rfl Bc 5 i0 (.int .u8 0) 1 1 Try.underlying54 HJ.out.1 HJ.out.2.1 HJ.out.2.2.1 HJ.out.2.2.2 rfl (by decide) _ _ _ rfl (hrow.out.alloc _) ⟨wx.heap.size, 0, none⟩ 1 1 [.int .u8 (cx : Int)] rfl rfl (int_news _ _ _ rfl) (u8_one _) (by unfold maxLen; omega) (by omega) (by simp only [World.size_alloc]; have := hbc.out.size; omega) ?_; intro v6 w6 ho6 hg6 _; obtain ⟨p6, c6, rfl⟩ := mr_shape ho6; have HB6 : Hid (Below Bc wo w6) := Hid.mk' (own_rel (by have := hbc.out.size; omega) hrow.out hbc.out hg6); have HR6 : Hid (w6.ownsRow Bc 5 1 (.slice p6 (i + 1) c6) (i + 1) (byv (l ++ [cx]))) := Hid.mk' (by rw [byv_append]; exact ho6); clear ho6 hg6) | (go_at_call 14; refine (HP2.out _).mono ?_; rintro e w5 ⟨rfl, hw5⟩; have hw5' := hw5.symm; subst hw5') | fail)
              go_roundw
              case rel => exact ⟨i + 1, p6, c6, l ++ [cx], rfl, by simp, by omega, HL, HR6, HB6⟩
              case measure =>
                simp [intOf]
                omega
          · have a1 : (65 : Int) ≤ (cb : Int) := by omega
            have a2 : ¬ (cb : Int) ≤ 90 := by omega
            have a3 : (97 : Int) ≤ (cb : Int) := by omega
            have a4 : (cb : Int) ≤ 122 := by omega
            rcases (show r = 0 ∨ r = 1 by omega) with rfl | rfl
            · obtain ⟨cx, hcx⟩ : ∃ cx, cx = cb := ⟨_, rfl⟩
              have hcx256 : cx < 256 := by omega
              have HL : Hid ((l ++ [cx]).length = i + 1 ∧ (∀ z ∈ l ++ [cx], z < 256) ∧ (l ++ [cx]).map (Mn.lf true) = ((Sums.bl s).take (i + 1)).map (Mn.lf true)) := Hid.mk' (by
                refine ⟨by rw [List.length_append, hl.out.1]; rfl, fun z hz => ?_, ?_⟩
                · rcases List.mem_append.1 hz with hz | hz
                  · exact hl.out.2.1 z hz
                  · simp at hz
                    omega
                · rw [List.map_append, hl.out.2.2, List.take_add_one, List.getElem?_eq_getElem (by rw [Sums.bl_length]; exact hi), List.map_append]
                  congr 1
                  have h9 : (Sums.bl s)[i]'(by rw [Sums.bl_length]; exact hi) = cb := by rw [← hcb, List.getD_eq_getElem?_getD, List.getElem?_eq_getElem (by rw [Sums.bl_length]; exact hi)]; rfl
                  simp only [List.map_cons, List.map_nil, Option.toList_some, h9]
                  rw [hcx])
              clear hcb
              subst hcx
              go_wp2_with (first | (at_builtin; refine wpList_append_own _ rfl _ _ 54 rfl Bc 5 i0 (.int .u8 0) 1 1 Try.underlying54 HJ.out.1 HJ.out.2.1 HJ.out.2.2.1 HJ.out.2.2.2 rfl (by decide) _ _ _ rfl (hrow.out.alloc _) ⟨wx.heap.size, 0, none⟩ 1 1 [.int .u8 (cx : Int)] rfl rfl (int_news _ _ _ rfl) (u8_one _) (by unfold maxLen; omega) (by omega) (by simp only [World.size_alloc]; have := hbc.out.size; omega) ?_; intro v6 w6 ho6 hg6 _; obtain ⟨p6, c6, rfl⟩ := mr_shape ho6; have HB6 : Hid (Below Bc wo w6) := Hid.mk' (own_rel (by have := hbc.out.size; omega) hrow.out hbc.out hg6); have HR6 : Hid (w6.ownsRow Bc 5 1 (.slice p6 (i + 1) c6) (i + 1) (byv (l ++ [cx]))) := Hid.mk' (by rw [byv_append]; exact ho6); clear ho6 hg6) | (go_at_call 14; refine (HP2.out _).mono ?_; rintro e w5 ⟨rfl, hw5⟩; have hw5' := hw5.symm; subst hw5') | fail)
              go_roundw
              case rel => exact ⟨i + 1, p6, c6, l ++ [cx], rfl, by simp, by omega, HL, HR6, HB6⟩
              case measure =>
                simp [intOf]
                omega
            · obtain ⟨cx, hcx⟩ : ∃ cx, cx = cb - 32 := ⟨_, rfl⟩
              have hcx256 : cx < 256 := by omega
              have HL : Hid ((l ++ [cx]).length = i + 1 ∧ (∀ z ∈ l ++ [cx], z < 256) ∧ (l ++ [cx]).map (Mn.lf true) = ((Sums.bl s).take (i + 1)).map (Mn.lf true)) := Hid.mk' (by
                refine ⟨by rw [List.length_append, hl.out.1]; rfl, fun z hz => ?_, ?_⟩
                · rcases List.mem_append.1 hz with hz | hz
                  · exact hl.out.2.1 z hz
                  · simp at hz
                    omega
                · rw [List.map_append, hl.out.2.2, List.take_add_one, List.getElem?_eq_getElem (by rw [Sums.bl_length]; exact hi), List.map_append]
                  congr 1
                  have h9 : (Sums.bl s)[i]'(by rw [Sums.bl_length]; exact hi) = cb := by rw [← hcb, List.getD_eq_getElem?_getD, List.getElem?_eq_getElem (by rw [Sums.bl_length]; exact hi)]; rfl
                  simp only [List.map_cons, List.map_nil, Option.toList_some, h9]
                  rw [hcx, Mn.lf_down cb h1.1 h1.2])
              have hxo : bits .xor .u8 (cb : Int) 32 = (cx : Int) := by rw [hcx]; exact HXO.out.2 h1
              clear hcb hcx
              go_wp2_with (first | (at_builtin; refine wpList_append_own _ rfl _ _ 54 rfl Bc 5 i0 (.int .u8 0) 1 1 Try.underlying54 HJ.out.1 HJ.out.2.1 HJ.out.2.2.1 HJ.out.2.2.2 rfl (by decide) _ _ _ rfl (hrow.out.alloc _) ⟨wx.heap.size, 0, none⟩ 1 1 [.int .u8 (cx : Int)] rfl rfl (int_news _ _ _ rfl) (u8_one _) (by unfold maxLen; omega) (by omega) (by simp only [World.size_alloc]; have := hbc.out.size; omega) ?_; intro v6 w6 ho6 hg6 _; obtain ⟨p6, c6, rfl⟩ := mr_shape ho6; have HB6 : Hid (Below Bc wo w6) := Hid.mk' (own_rel (by have := hbc.out.size; omega) hrow.out hbc.out hg6); have HR6 : Hid (w6.ownsRow Bc 5 1 (.slice p6 (i + 1) c6) (i + 1) (byv (l ++ [cx]))) := Hid.mk' (by rw [byv_append]; exact ho6); clear ho6 hg6) | (go_at_call 14; refine (HP2.out _).mono ?_; rintro e w5 ⟨rfl, hw5⟩; have hw5' := hw5.symm; subst hw5') | fail)
              go_roundw
              case rel => exact ⟨i + 1, p6, c6, l ++ [cx], rfl, by simp, by omega, HL, HR6, HB6⟩
              case measure =>
                simp [intOf]
                omega
          · have a1 : ¬ (65 : Int) ≤ (cb : Int) := by omega
            have a3 : ¬ (97 : Int) ≤ (cb : Int) := by omega
            obtain ⟨cx, hcx⟩ : ∃ cx, cx = cb := ⟨_, rfl⟩
            have hcx256 : cx < 256 := by omega
            have HL : Hid ((l ++ [cx]).length = i + 1 ∧ (∀ z ∈ l ++ [cx], z < 256) ∧ (l ++ [cx]).map (Mn.lf true) = ((Sums.bl s).take (i + 1)).map (Mn.lf true)) := Hid.mk' (by
              refine ⟨by rw [List.length_append, hl.out.1]; rfl, fun z hz => ?_, ?_⟩
              · rcases List.mem_append.1 hz with hz | hz
                · exact hl.out.2.1 z hz
                · simp at hz
                  omega
              · rw [List.map_append, hl.out.2.2, List.take_add_one, List.getElem?_eq_getElem (by rw [Sums.bl_length]; exact hi), List.map_append]
                congr 1
                have h9 : (Sums.bl s)[i]'(by rw [Sums.bl_length]; exact hi) = cb := by rw [← hcb, List.getD_eq_getElem?_getD, List.getElem?_eq_getElem (by rw [Sums.bl_length]; exact hi)]; rfl
                simp only [List.map_cons, List.map_nil, Option.toList_some, h9]
                rw [hcx])
            clear hcb
            subst hcx
            go_wp2_with (first | (at_builtin; refine wpList_append_own _ rfl _ _ 54 rfl Bc 5 i0 (.int .u8 0) 1 1 Try.underlying54 HJ.out.1 HJ.out.2.1 HJ.out.2.2.1 HJ.out.2.2.2 rfl (by decide) _ _ _ rfl (hrow.out.alloc _) ⟨wx.heap.size, 0, none⟩ 1 1 [.int .u8 (cx : Int)] rfl rfl (int_news _ _ _ rfl) (u8_one _) (by unfold maxLen; omega) (by omega) (by simp only [World.size_alloc]; have := hbc.out.size; omega) ?_; intro v6 w6 ho6 hg6 _; obtain ⟨p6, c6, rfl⟩ := mr_shape ho6; have HB6 : Hid (Below Bc wo w6) := Hid.mk' (own_rel (by have := hbc.out.size; omega) hrow.out hbc.out hg6); have HR6 : Hid (w6.ownsRow Bc 5 1 (.slice p6 (i + 1) c6) (i + 1) (byv (l ++ [cx]))) := Hid.mk' (by rw [byv_append]; exact ho6); clear ho6 hg6) | (go_at_call 14; refine (HP2.out _).mono ?_; rintro e w5 ⟨rfl, hw5⟩; have hw5' := hw5.symm; subst hw5') | fail)
            go_roundw
            case rel => exact ⟨i + 1, p6, c6, l ++ [cx], rfl, by simp, by omega, HL, HR6, HB6⟩
            case measure =>
              simp [intOf]
              omega
          · have a1 : (65 : Int) ≤ (cb : Int) := by omega
            have a2 : ¬ (cb : Int) ≤ 90 := by omega
            have a3 : ¬ (97 : Int) ≤ (cb : Int) := by omega
            obtain ⟨cx, hcx⟩ : ∃ cx, cx = cb := ⟨_, rfl⟩
            have hcx256 : cx < 256 := by omega
            have HL : Hid ((l ++ [cx]).length = i + 1 ∧ (∀ z ∈ l ++ [cx], z < 256) ∧ (l ++ [cx]).map (Mn.lf true) = ((Sums.bl s).take (i + 1)).map (Mn.lf true)) := Hid.mk' (by
              refine ⟨by rw [List.length_append, hl.out.1]; rfl, fun z hz => ?_, ?_⟩
              · rcases List.mem_append.1 hz with hz | hz
                · exact hl.out.2.1 z hz
                · simp at hz
                  omega
              · rw [List.map_append, hl.out.2.2, List.take_add_one, List.getElem?_eq_getElem (by rw [Sums.bl_length]; exact hi), List.map_append]
                congr 1
                have h9 : (Sums.bl s)[i]'(by rw [Sums.bl_length]; exact hi) = cb := by rw [← hcb, List.getD_eq_getElem?_getD, List.getElem?_eq_getElem (by rw [Sums.bl_length]; exact hi)]; rfl
                simp only [List.map_cons, List.map_nil, Option.toList_some, h9]
                rw [hcx])
            clear hcb
            subst hcx
            go_wp2_with (first | (at_builtin; refine wpList_append_own _ rfl _ _ 54 rfl Bc 5 i0 (.int .u8 0) 1 1 Try.underlying54 HJ.out.1 HJ.out.2.1 HJ.out.2.2.1 HJ.out.2.2.2 rfl (by decide) _ _ _ rfl (hrow.out.alloc _) ⟨wx.heap.size, 0, none⟩ 1 1 [.int .u8 (cx : Int)] rfl rfl (int_news _ _ _ rfl) (u8_one _) (by unfold maxLen; omega) (by omega) (by simp only [World.size_alloc]; have := hbc.out.size; omega) ?_; intro v6 w6 ho6 hg6 _; obtain ⟨p6, c6, rfl⟩ := mr_shape ho6; have HB6 : Hid (Below Bc wo w6) := Hid.mk' (own_rel (by have := hbc.out.size; omega) hrow.out hbc.out hg6); have HR6 : Hid (w6.ownsRow Bc 5 1 (.slice p6 (i + 1) c6) (i + 1) (byv (l ++ [cx]))) := Hid.mk' (by rw [byv_append]; exact ho6); clear ho6 hg6) | (go_at_call 14; refine (HP2.out _).mono ?_; rintro e w5 ⟨rfl, hw5⟩; have hw5' := hw5.symm; subst hw5') | fail)
            go_roundw
            case rel => exact ⟨i + 1, p6, c6, l ++ [cx], rfl, by simp, by omega, HL, HR6, HB6⟩
            case measure =>
              simp [intOf]
              omega
          · have a1 : (65 : Int) ≤ (cb : Int) := by omega
            have a2 : ¬ (cb : Int) ≤ 90 := by omega
            have a3 : (97 : Int) ≤ (cb : Int) := by omega
            have a4 : ¬ (cb : Int) ≤ 122 := by omega
            obtain ⟨cx, hcx⟩ : ∃ cx, cx = cb := ⟨_, rfl⟩
            have hcx256 : cx < 256 := by omega
            have HL : Hid ((l ++ [cx]).length = i + 1 ∧ (∀ z ∈ l ++ [cx], z < 256) ∧ (l ++ [cx]).map (Mn.lf true) = ((Sums.bl s).take (i + 1)).map (Mn.lf true)) := Hid.mk' (by
              refine ⟨by rw [List.length_append, hl.out.1]; rfl, fun z hz => ?_, ?_⟩
              · rcases List.mem_append.1 hz with hz | hz
                · exact hl.out.2.1 z hz
                · simp at hz
                  omega
              · rw [List.map_append, hl.out.2.2, List.take_add_one, List.getElem?_eq_getElem (by rw [Sums.bl_length]; exact hi), List.map_append]
                congr 1
                have h9 : (Sums.bl s)[i]'(by rw [Sums.bl_length]; exact hi) = cb := by rw [← hcb, List.getD_eq_getElem?_getD, List.getElem?_eq_getElem (by rw [Sums.bl_length]; exact hi)]; rfl
                simp only [List.map_cons, List.map_nil, Option.toList_some, h9]
                rw [hcx])
            clear hcb
            subst hcx
            go_wp2_with (first | (at_builtin; refine wpList_append_own _ rfl _ _ 54 rfl Bc 5 i0 (.int .u8 0) 1 1 Try.underlying54 HJ.out.1 HJ.out.2.1 HJ.out.2.2.1 HJ.out.2.2.2 rfl (by decide) _ _ _ rfl (hrow.out.alloc _) ⟨wx.heap.size, 0, none⟩ 1 1 [.int .u8 (cx : Int)] rfl rfl (int_news _ _ _ rfl) (u8_one _) (by unfold maxLen; omega) (by omega) (by simp only [World.size_alloc]; have := hbc.out.size; omega) ?_; intro v6 w6 ho6 hg6 _; obtain ⟨p6, c6, rfl⟩ := mr_shape ho6; have HB6 : Hid (Below Bc wo w6) := Hid.mk' (own_rel (by have := hbc.out.size; omega) hrow.out hbc.out hg6); have HR6 : Hid (w6.ownsRow Bc 5 1 (.slice p6 (i + 1) c6) (i + 1) (byv (l ++ [cx]))) := Hid.mk' (by rw [byv_append]; exact ho6); clear ho6 hg6) | (go_at_call 14; refine (HP2.out _).mono ?_; rintro e w5 ⟨rfl, hw5⟩; have hw5' := hw5.symm; subst hw5') | fail)
            go_roundw
            case rel => exact ⟨i + 1, p6, c6, l ++ [cx], rfl, by simp, by omega, HL, HR6, HB6⟩
            case measure =>
              simp [intOf]
              omega
        · have e9 : s.size = i := by omega
          have hiI : ¬ (i : Int) < (s.size : Int) := by omega
          obtain ⟨t2, ht2⟩ : ∃ t2, nums l = t2 := ⟨_, rfl⟩
          have hts : t2.size ≤ 1048576 := by rw [← ht2, nums_size, hl.out.1]; omega
          obtain ⟨T, hT⟩ : ∃ T, tx true s = T := ⟨_, rfl⟩
          have hT2 : tx true t2 = T := by
            rw [← hT, ← ht2]
            unfold tx
            rw [bl_nums l hl.out.2.1, hl.out.2.2, List.take_of_length_le (by rw [Sums.bl_length]; omega)]
          have HCV : Hid (∀ V : World, V.ownsRow Bc 5 1 (.slice q2 i c2) i (byv l) → (convert 54 9 (.slice q2 i c2)).run Try.prog V = .ok (.string t2) V) := fun V hV => by
            rw [← ht2]
            exact conv_own Bc i l V _ hl.out.1 hV
          have HWX : Hid (AlW (fun V => K V ∧ V.ownsRow Bc 5 1 (.slice q2 i c2) i (byv l)) b w wx) := Hid.mk' ((HW.out.keep (by rw [hBc]; exact hbc.out)).more (kept_row _ _ _ _ _) hrow.out)
          have HFO := Hid.mk' (fun V (K : World → Prop) sb q c (hV : AlW K b w V) hM (hst : StrAt V q L) => al_found (fold := true) sb q c s HM.out hV hM hst HG.out (by omega))
          have HFO2 := Hid.mk' (fun V (K : World → Prop) sb q c (hV : AlW K b w V) hM (hst : StrAt V q O) => al_found (fold := true) sb q c t2 HOM.out hV hM hst HGO.out (by omega))
          rw [hT] at HFO
          rw [hT2] at HFO2
          have HPQ := Hid.mk' (HPE.out T)
          obtain ⟨A, hA⟩ : ∃ A, Mn.allF (Mn.wds true L) T = A := ⟨_, rfl⟩
          obtain ⟨A2, hA2⟩ : ∃ A2, Mn.allF (Mn.wds true O) T = A2 := ⟨_, rfl⟩
          have HAL : Hid (∀ i, (Mn.plc A i).length ≤ 100000000) := fun i => by
            have h1 := Mn.plc_len A i
            have h2 := Mn.allF_len (Wok.of HG.out).nod T
            rw [hA, Mn.wds_len, HM.out] at h2
            have h3 : T.length ≤ 1048576 := by rw [← hT, tx_len]; exact hs
            have h4 : T.length * m ≤ 1048576 * 30 := Nat.mul_le_mul h3 hm30
            omega
          rw [hA] at HFO HPQ
          rw [hA2] at HFO2 HPQ
          clear hT hT2 hA hA2 ht2 hrow hbc hl HW HPE hts
          go_wp2_with (first
            | (go_at_call 21; refine (HFO.out _ _ sb _ _ HWX.out (hKm.out _ HWX.out.ex.1) (hKs.out _ HWX.out.ex.1)).mono ?_; rintro e wa ⟨o, base, rv, rfl, hwa⟩; have HWa := Hid.mk' hwa; have hcv := HCV.out wa hwa.ex.1.2; clear hwa HFO HWX HCV)
            | (go_at_call 21; refine (HFO2.out _ _ sb2 _ _ HWa.out (hKm2.out _ HWa.out.ex.1.1) (hKo.out _ HWa.out.ex.1.1)).mono ?_; rintro e wb ⟨o2, base2, rv2, rfl, hwb⟩; have HWb := Hid.mk' hwb; clear hwb HWa HFO2 hcv)
            | fail)
          obtain ⟨K3, hP3, hR3, hR23, HW3⟩ : ∃ K3 : World → Prop, Hid (∀ V, K3 V → V.heap[pb]? = some (.cells (rowV (fun i => .int .i64 (PF i : Int)) m).toArray 3 (0, 0))) ∧ Hid (∀ V, K3 V → RowsM base o m (Mn.plc A) rv V) ∧ Hid (∀ V, K3 V → RowsM base2 o2 m (Mn.plc A2) rv2 V) ∧ Hid (AlW K3 b w wb) := ⟨_, fun V h => hKp.out V h.1.1.1, fun V h => h.1.2, fun V h => h.2, HWb.out⟩
          clear HWb hKs hKo hKp hKm hKm2
          go_loopw [33, 34] (fun iv sv wy => ∃ j : Nat, iv = .int .i64 (j : Int) ∧ j ≤ m ∧ Hid (AlW K3 b w wy)) (fun iv sv _ => m - (intOf iv).toNat)
          case atStart => exact ⟨0, rfl, Nat.zero_le _, HW3⟩
          case round =>
            obtain ⟨j, rfl, hjm, HWS⟩ := hrel
            rename World => ws
            by_cases hj : j < m
            · have hjI : (j : Int) < (m : Int) := by omega
              have hjN : ¬ (m : Int) ≤ (j : Int) := by omega
              obtain ⟨l9, hl9⟩ : ∃ l9, Mn.plc A j = l9 := ⟨_, rfl⟩
              obtain ⟨pj, hpj⟩ : ∃ pj, PF j = pj := ⟨_, rfl⟩
              have hpm : pj < m := by rw [← hpj]; exact HPT.out j hj
              have hpI : (pj : Int) < (m : Int) := by omega
              have hpN : ¬ (m : Int) ≤ (pj : Int) := by omega
              have hl2 : Mn.plc A2 pj = l9 := by rw [← hpj, HPQ.out j hj, hl9]
              obtain ⟨nl, hnl9⟩ : ∃ nl, l9.length = nl := ⟨_, rfl⟩
              have hlen : l9.length ≤ 100000000 := by rw [← hl9]; exact HAL.out j
              obtain ⟨pv, cv, hrv⟩ : ∃ pv cv, rv j = .slice pv nl cv := by
                have := (hR3.out _ HWS.out.ex).row j hj
                rw [hl9, hnl9] at this
                exact mr_shape this
              obtain ⟨pv2, cv2, hrv2⟩ : ∃ pv cv, rv2 pj = .slice pv nl cv := by
                have := (hR23.out _ HWS.out.ex).row pj hpm
                rw [hl2, hnl9] at this
                exact mr_shape this
              have HRC : Hid (∀ V, K3 V → V.cell? ⟨o, j, none⟩ = some (.slice pv nl cv) ∧ V.cell? ⟨o2, pj, none⟩ = some (.slice pv2 nl cv2) ∧ V.cell? ⟨pb, j, none⟩ = some (.int .i64 (pj : Int)) ∧ V.ownsRow base 3 1 (.slice pv nl cv) l9.length (intL l9) ∧ V.ownsRow base2 3 1 (.slice pv2 nl cv2) l9.length (intL l9)) := fun V hV => by
                have h1 := ((hR3.out V hV).cell j hj).1
                have h2 := (hR3.out V hV).row j hj
                have h3 := ((hR23.out V hV).cell pj hpm).1
                have h4 := (hR23.out V hV).row pj hpm
                rw [hrv] at h1 h2
                rw [hrv2] at h3 h4
                rw [hl9] at h2
                rw [hl2] at h4
                refine ⟨h1, h3, ?_, h2, h4⟩
                simp only [World.cell?, hP3.out V hV]
                rw [List.getElem?_toArray, rowV_get _ _ _ hj, hpj]
                rfl
              have HSI := Hid.mk' (fun V (hV : K3 V) => sameInts_any base base2 _ _ l9 V (by omega) (HRC.out V hV).2.2.2.1 (HRC.out V hV).2.2.2.2)
              obtain ⟨k1, k2, k3, _, _⟩ := HRC.out _ HWS.out.ex
              clear hl9 hl2 hrv hrv2 hnl9 hlen hpj
              go_upto_region 50 with fail
              go_region_held3 (fun w' => w'.cell? ⟨o, j, none⟩ = some (.slice pv nl cv) ∧ w'.cell? ⟨o2, pj, none⟩ = some (.slice pv2 nl cv2) ∧ w'.cell? ⟨pb, j, none⟩ = some (.int .i64 (pj : Int))) (first | go_keep | exact ⟨k1, k2, k3⟩ | exact ⟨z1, z2, z3⟩)
                ((first | (go_at_call 22; refine (HSI.out _ (HWS.out.drew ⟨1, rfl⟩).ex).mono ?_; rintro e wz ⟨rfl, hwz⟩; have HWZ := Hid.mk' ((HWS.out.drew ⟨1, rfl⟩).drew hwz); have z1 := (HRC.out _ (HWZ.out).ex).1; have z2 := (HRC.out _ (HWZ.out).ex).2.1; have z3 := (HRC.out _ (HWZ.out).ex).2.2.1; clear hwz)))
              all_goals
                go_wp2_with fail
                go_roundw
                case rel => exact ⟨j + 1, by simp, by omega, HWZ⟩
                case measure =>
                  simp [intOf]
                  omega
            · have e8 : m = j := by omega
              subst e8
              have hjI : ¬ (m : Int) < (m : Int) := by omega
              go_wp2
              go_ret
              exact ⟨rfl, HWS.out.bel⟩
end Go.Proofs.Ytlejfeapnnioeaa
