/-
  The laws' fits is walked. Conditions: as it says.
-/
import Derived.Test.YtlejfeapnnioeaaMnP
namespace Go.Proofs.Ytlejfeapnnioeaa
open Go.RowKit Go.Shelf
set_option linter.unusedVariables false
theorem fresh_next (out : List ByteArray) (x y : ByteArray) (k : Nat) (hk : k < out.length) (hy : out.getD k ByteArray.empty = y) : Mn.fresh out x (k + 1) = (Mn.fresh out x k && decide (y ≠ x)) := by
  unfold Mn.fresh
  rw [List.take_add_one, List.getElem?_eq_getElem hk, Option.toList_some, List.all_append, List.all_cons, List.all_nil, Bool.and_true, ← Bool.and_assoc]
  congr 1
  rw [List.getD_eq_getElem?_getD, List.getElem?_eq_getElem hk] at hy
  rw [← hy]
  rfl
theorem toL_nil : ∀ {x : ByteArray}, x = ByteArray.empty → x.toList = [] := by
  rintro x rfl
  rw [ByteArray.toList_eq]
  rfl
set_option maxRecDepth 100000 in
set_option maxHeartbeats 2000000 in
theorem fits_any (p : Option Addr) (cap : Nat) (R : List ByteArray) (fold : Bool) (w : World) (h : StrAt w p R) (hl : R.length ≤ 1125899906842624) (hs : ∀ x ∈ R, x.size ≤ 1125899906842624) :
    Calls Try.prog 17 #[.slice p R.length cap, .bool fold] w fun e w' => ∃ q c, e = .returned (.slice q (Mn.fitL fold R).length c) ∧ w'.ownsRow w.heap.size 9 1 (.slice q (Mn.fitL fold R).length c) (Mn.fitL fold R).length (strL (Mn.fitL fold R)) ∧ Below w.heap.size w w' := by
  obtain ⟨b, hb⟩ : ∃ b, w.heap.size = b := ⟨_, rfl⟩
  obtain ⟨n, hn⟩ : ∃ n, R.length = n := ⟨_, rfl⟩
  rw [hn] at hl ⊢
  rw [hb]
  have HN := Hid.mk' hn
  have HS := Hid.mk' h
  have HZ := Hid.mk' hs
  clear hn h hs
  go_enter Try.func17, Try.ntmps17
  go_wp2
  go_loopw [5, 6] (fun ov iv wr => ∃ (i : Nat) (q : Option Addr) (m c : Nat), ov = .slice q m c ∧ iv = .int .i64 (i : Int) ∧ i ≤ n ∧ m ≤ 30 ∧ Hid (m = (Mn.fitK fold R i).length) ∧ Hid (wr.ownsRow b 9 1 (.slice q m c) m (strL (Mn.fitK fold R i))) ∧ Hid (Below b w wr)) (fun _ iv _ => n - (intOf iv).toNat)
  case atStart => exact ⟨0, none, 0, 0, rfl, rfl, Nat.zero_le _, by omega, rfl, World.ownsRow_nil w b 9 1, Below.refl b w⟩
  case round =>
    obtain ⟨i, q, m, c, rfl, rfl, hi, hm, hmo, hrow, hbel⟩ := hrel
    by_cases hin : i < n
    · have hinI : (i : Int) < (n : Int) := by omega
      by_cases hm30 : m < 30
      · have hmI : (m : Int) < 30 := by omega
        obtain ⟨x, hx⟩ : ∃ x, R.getD i ByteArray.empty = x := ⟨_, rfl⟩
        have hxs : x.size ≤ 1125899906842624 := HZ.out x (by
          rw [← hx, List.getD_eq_getElem?_getD, List.getElem?_eq_getElem (by have := HN.out; omega)]
          exact List.getElem_mem _)
        have HST := Hid.mk' (HS.out.keep (by rw [hb]; exact hbel.out))
        obtain ⟨g, off, rfl, hc⟩ := HST.out i (by have := HN.out; omega)
        rw [hx] at hc
        have hNX := Mn.fitK_next fold R i (by have := HN.out; omega)
        rw [hx] at hNX
        obtain ⟨o, ho⟩ : ∃ o, Mn.fitK fold R i = o := ⟨_, rfl⟩
        rw [ho] at hmo hrow hNX
        have HNX := Hid.mk' hNX
        clear hx hNX ho
        go_upto_if 27 with fail
        go_cut [7] (fun xv wc => xv = .string (Mn.cut40 x) ∧ wc = wr)
        case first =>
          by_cases h40 : 40 < x.size
          · have h40I : (40 : Int) < (x.size : Int) := by omega
            have h40n : (40 : Int) ≤ (x.size : Int) := by omega
            go_wp2
            go_meet
            refine ⟨?_, rfl⟩
            unfold Mn.cut40
            rw [if_pos h40]
          · have h40I : ¬ (40 : Int) < (x.size : Int) := by omega
            go_wp2
            go_meet
            refine ⟨?_, rfl⟩
            unfold Mn.cut40
            rw [if_neg h40]
        case rest =>
          obtain ⟨rfl, rfl⟩ := hcut
          rename World => wr
          have h40 := Mn.cut40_size x
          obtain ⟨z, hz⟩ : ∃ z, Mn.cut40 x = z := ⟨_, rfl⟩
          rw [hz] at h40
          obtain ⟨y, hy⟩ : ∃ y, Mn.fw fold x = y := ⟨_, rfl⟩
          have hyz : Mn.fd fold z = y := by rw [← hy, ← hz]; rfl
          rw [hz]
          have HFO := Hid.mk' (fun w => fold_any z w (by omega))
          have hNX := HNX.out
          unfold Mn.fitS at hNX
          rw [hy, if_pos (by have := hmo.out; omega)] at hNX
          have HNY := Hid.mk' hNX
          have hyl : y.size ≤ 40 := by rw [← hyz, Mn.fd_size]; exact h40
          clear hNX HNX hy hz hc
          go_upto_if 30 with fail
          go_cut [7] (fun xv wc => xv = .string y ∧ Hid (Below wr.heap.size wr wc))
          case first =>
            cases fold
            · go_wp2
              go_meet
              exact ⟨by rw [← hyz]; rfl, Below.refl _ _⟩
            · go_wp2_with (first | (go_at_call 34; refine (HFO.out _).mono ?_; rintro e w4 ⟨rfl, hb4⟩; have HB4 := Hid.mk' hb4; clear hb4) | fail)
              go_meet
              exact ⟨by rw [← hyz]; rfl, HB4⟩
          case rest =>
            obtain ⟨rfl, hbc⟩ := hcut
            rename World => wc
            have hrow2 : Hid (wc.ownsRow b 9 1 (.slice q m c) m (strL o)) := mr_kept hrow.out (fun k hk => hbc.out.block k (hrow.out.lt k hk).2)
            have hbel2 : Hid (Below b w wc) := hbel.out.trans ⟨hbc.out.os, hbc.out.tape, hbc.out.output, hbc.out.size, fun k hk => hbc.out.block k (by have := hbel.out.size; omega)⟩
            have HAT := Hid.mk' (str_at hrow2.out hmo.out)
            clear hrow hbel hbc HFO hyz h40 HST
            go_upto_region 10 with fail
            go_cut [8] (fun fv wx => fv = .bool (Mn.fresh o y 0) ∧ wx = wc)
            case first =>
              have e0 : Mn.fresh o y 0 = decide (y ≠ ByteArray.empty) := by
                unfold Mn.fresh
                rw [List.take_zero, List.all_nil, Bool.and_true]
              by_cases hy0 : y = ByteArray.empty
              · have HE : Hid (Mn.fresh o y 0 = false) := by
                  rw [e0]
                  exact decide_eq_false (fun h => h hy0)
                clear e0
                subst hy0
                go_wp2
                go_meet
                exact ⟨by rw [HE.out], rfl⟩
              · have HE : Hid (Mn.fresh o y 0 = true) := by
                  rw [e0]
                  exact decide_eq_true hy0
                have hne : y.toList.isEmpty = false := by
                  cases e : y.toList with
                  | nil => exact absurd (e.trans (toL_nil rfl).symm) (toL_ne hy0)
                  | cons _ _ => rfl
                clear e0
                go_wp2
                go_meet
                exact ⟨by rw [HE.out], rfl⟩
            case rest =>
              obtain ⟨rfl, rfl⟩ := hcut
              rename World => wc
              go_wp2
              go_loopw [8, 9] (fun fv kv wi => ∃ k : Nat, kv = .int .i64 (k : Int) ∧ k ≤ m ∧ wi = wc ∧ Hid (fv = .bool (Mn.fresh o y k))) (fun _ kv _ => m - (intOf kv).toNat)
              case atStart => exact ⟨0, rfl, Nat.zero_le _, rfl, rfl⟩
              case round =>
                obtain ⟨k, rfl, hk, rfl, hfv⟩ := hrel
                rename World => wc
                by_cases hkm : k < m
                · have hkI : (k : Int) < (m : Int) := by omega
                  obtain ⟨t, ht⟩ : ∃ t, o.getD k ByteArray.empty = t := ⟨_, rfl⟩
                  obtain ⟨g3, o3, hg3, hc3⟩ := HAT.out k (by have := hmo.out; omega)
                  subst hg3
                  rw [ht] at hc3
                  have HF := Hid.mk' (fresh_next o y t k (by have := hmo.out; omega) ht)
                  obtain ⟨f, hf⟩ : ∃ f, Mn.fresh o y k = f := ⟨_, rfl⟩
                  rw [hf] at hfv HF
                  have hfv2 := hfv.out
                  subst hfv2
                  clear hf ht hfv
                  cases f
                  · go_wp2
                    go_roundw
                    case rel => exact ⟨k + 1, by simp, by omega, by trivial, by rw [HF.out]; exact rfl⟩
                    case measure =>
                      simp [intOf]
                      omega
                  · by_cases hty : t = y
                    · subst hty
                      go_wp2
                      go_roundw
                      case rel => exact ⟨k + 1, by simp, by omega, by trivial, by rw [HF.out]; simp [Hid]⟩
                      case measure =>
                        simp [intOf]
                        omega
                    · have hne := toL_ne hty
                      have hneB : (t.toList == y.toList) = false := by simp [hne]
                      go_wp2
                      go_roundw
                      case rel => exact ⟨k + 1, by simp, by omega, by trivial, by rw [HF.out]; simp [Hid, hty]⟩
                      case measure =>
                        simp [intOf]
                        omega
                · obtain rfl : k = m := by omega
                  have hkI : ¬ (k : Int) < (k : Int) := by omega
                  have hfv2 := hfv.out
                  have hfr : Mn.fresh o y k = Mn.fresh o y o.length := by rw [← hmo.out]
                  rw [hfr] at hfv2
                  obtain ⟨f, hf⟩ : ∃ f, Mn.fresh o y o.length = f := ⟨_, rfl⟩
                  rw [hf] at hfv2
                  have hNY := HNY.out
                  rw [hf] at hNY
                  have HNZ := Hid.mk' hNY
                  subst hfv2
                  clear hNY hf hfr HNY hfv
                  cases f
                  · go_wp2
                    go_roundw
                    case rel =>
                      have h1 := HNZ.out
                      simp only [Bool.false_eq_true, if_false] at h1
                      exact ⟨i + 1, q, k, c, rfl, by simp, by omega, by omega, by rw [h1]; exact hmo, by rw [h1]; exact hrow2, hbel2⟩
                    case measure =>
                      simp [intOf]
                      omega
                  · have hszw : b ≤ wc.heap.size := by have := hbel2.out.size; omega
                    obtain ⟨i1, hi1, hy0, hy1, hy2⟩ := info_parts infoSt
                    go_wp2_with (first | (refine wpList_append_own _ rfl _ _ 22 rfl b 9 i1 (.string ⟨#[]⟩) 1 16 Try.underlying22 hi1 hy0 hy1 hy2 rfl (by decide) _ _ _ rfl (hrow2.out.alloc _) ⟨wc.heap.size, 0, none⟩ 1 1 [.string y] rfl rfl (str_news _ _ rfl) (str_one _) (by unfold maxLen; omega) (by omega) (by simp only [World.size_alloc]; omega) ?_; intro v6 w6 ho6 hg6 _; obtain ⟨p6, c6, rfl⟩ := mr_shape ho6; have HO6 := Hid.mk' ho6; have HB6 := Hid.mk' (own_relS hszw hrow2.out hbel2.out hg6); clear ho6 hg6) | fail)
                    go_roundw
                    case rel =>
                      have h1 := HNZ.out
                      simp only [if_true] at h1
                      refine ⟨i + 1, p6, k + 1, c6, rfl, by simp, by omega, by omega, ?_, ?_, HB6⟩
                      · rw [h1, List.length_append, ← hmo.out]
                        exact rfl
                      · rw [h1, strL, List.map_append]
                        exact HO6
                    case measure =>
                      simp [intOf]
                      omega
      · obtain rfl : m = 30 := by omega
        have HE : Hid (Mn.fitK fold R R.length = Mn.fitK fold R i) := by
          have := Mn.fitK_full fold R i (by have := hmo.out; omega) (R.length - i) (by have := HN.out; omega)
          rw [show i + (R.length - i) = R.length by have := HN.out; omega] at this
          exact this
        have HL : Hid (Mn.fitL fold R = Mn.fitK fold R i) := by
          unfold Mn.fitL
          rw [HE.out, if_neg (by rw [← hmo.out]; decide)]
          exact rfl
        have hinI : (i : Int) < (n : Int) := by omega
        have hmI : ¬ ((30 : Nat) : Int) < 30 := by omega
        go_wp2
        go_ret
        rw [HL.out, ← hmo.out]
        exact ⟨q, c, rfl, hrow.out, hbel.out⟩
    · have hin' : i = n := by omega
      have HE : Hid (Mn.fitK fold R R.length = Mn.fitK fold R i) := by rw [HN.out, hin']; exact rfl
      have hinI : ¬ (i : Int) < (n : Int) := by omega
      clear hin'
      by_cases hm0 : m = 0
      · subst hm0
        have HL : Hid (Mn.fitL fold R = [⟨#[119]⟩]) := by
          unfold Mn.fitL
          rw [HE.out, if_pos hmo.out.symm]
          exact rfl
        have hszw : b ≤ wr.heap.size := by have := hbel.out.size; omega
        have hnil : Mn.fitK fold R i = [] := List.eq_nil_of_length_eq_zero hmo.out.symm
        rw [hnil] at hrow
        clear hnil
        obtain ⟨i1, hi1, hy0, hy1, hy2⟩ := info_parts infoSt
        go_wp2_with (first | (refine wpList_append_own _ rfl _ _ 22 rfl b 9 i1 (.string ⟨#[]⟩) 1 16 Try.underlying22 hi1 hy0 hy1 hy2 rfl (by decide) _ _ _ rfl (hrow.out.alloc _) ⟨wr.heap.size, 0, none⟩ 1 1 [.string ⟨#[119]⟩] rfl rfl (str_news _ _ rfl) (str_one _) (by unfold maxLen; omega) (by omega) (by simp only [World.size_alloc]; omega) ?_; intro v6 w6 ho6 hg6 _; obtain ⟨p6, c6, rfl⟩ := mr_shape ho6; have HO6 := Hid.mk' ho6; have HB6 := Hid.mk' (own_relS hszw hrow.out hbel.out hg6); clear ho6 hg6) | fail)
        go_ret
        rw [HL.out]
        exact ⟨p6, c6, rfl, HO6.out, HB6.out⟩
      · have hm0B : ((m : Int) == 0) = false := by simp; omega
        have HL : Hid (Mn.fitL fold R = Mn.fitK fold R i) := by
          unfold Mn.fitL
          rw [HE.out, if_neg (by rw [← hmo.out]; exact hm0)]
          exact rfl
        go_wp2
        go_ret
        rw [HL.out, ← hmo.out]
        exact ⟨q, c, rfl, hrow.out, hbel.out⟩
end Go.Proofs.Ytlejfeapnnioeaa
