/-
  The document's New. Conditions: as each says.
-/
import Derived.Test.YtlejfeapnnioeaaMnV
namespace Mn
/-- is it wrong, as far as the first k of them tell? -/
def wrg (fold : Bool) (L : List ByteArray) (s : ByteArray) (k : Nat) : Bool := !word s || among fold (L.take k) s
theorem wrg_next (fold : Bool) (L : List ByteArray) (s : ByteArray) (k : Nat) (hk : k < L.length) : wrg fold L s (k + 1) = (wrg fold L s k || decide (fd fold (L.getD k ByteArray.empty) = fd fold s)) := by
  unfold wrg among
  rw [List.take_add_one, List.getElem?_eq_getElem hk, Option.toList_some, List.any_append, List.any_cons, List.any_nil, Bool.or_false, ← Bool.or_assoc, List.getD_eq_getElem?_getD, List.getElem?_eq_getElem hk]
  rfl
end Mn
namespace Go.Proofs.Ytlejfeapnnioeaa
open Go.RowKit Go.Shelf
set_option linter.unusedVariables false
/-- the document's set in memory -/
structure RefM (b g n : Nat) (fold : Bool) (L : List ByteArray) (q : Option Addr) (c : Nat) (w V : World) : Prop where
  st : V.heap[g]? = some (.cells #[.slice q n c, .bool fold] 64 (0, 0))
  row : V.ownsRow b 9 1 (.slice q n c) n (strL (L.map (Mn.fd fold)))
  bel : Below b w V
  len : n = L.length
  lo : b ≤ g
theorem RefM.keep {b g n : Nat} {fold : Bool} {L : List ByteArray} {q : Option Addr} {c : Nat} {w V V' : World} (h : RefM b g n fold L q c w V) (hw : b ≤ w.heap.size) (hb : Below V.heap.size V V') : RefM b g n fold L q c w V' :=
  ⟨(hb.block g (Array.getElem?_eq_some_iff.1 h.st).1).trans h.st, mr_kept h.row (fun k hk => hb.block k (h.row.lt k hk).2), h.bel.trans ⟨hb.os, hb.tape, hb.output, hb.size, fun k hk => hb.block k (by have := h.bel.size; omega)⟩, h.len, h.lo⟩
theorem refNew_few (p : Option Addr) (n cap : Nat) (fold : Bool) (w : World) (h : n = 0 ∨ 64 < n) (hn : n ≤ 1125899906842624) :
    Calls Try.prog 10 #[.slice p n cap, .bool fold] w fun e w' => e = .returned (.tuple #[.pointer none, .int .i64 70, .int .i64 0]) ∧ w' = w := by
  by_cases h0 : n = 0
  · subst h0
    go_enter Try.func10, Try.ntmps10
    go_wp2
    go_ret3
    exact ⟨rfl, rfl⟩
  · have h0B : ((n : Int) == 0) = false := by simp; omega
    have h1 : (64 : Int) < (n : Int) := by omega
    go_enter Try.func10, Try.ntmps10
    go_wp2
    go_ret3
    exact ⟨rfl, rfl⟩
set_option maxRecDepth 100000 in
set_option maxHeartbeats 2000000 in
theorem refNew_any (p : Option Addr) (cap : Nat) (L : List ByteArray) (fold : Bool) (w : World) (h : StrAt w p L) (h0 : 0 < L.length) (h64 : L.length ≤ 64) (hsz : ∀ x ∈ L, x.size ≤ 140737488351232) :
    Calls Try.prog 10 #[.slice p L.length cap, .bool fold] w fun e w' => Below w.heap.size w w' ∧ ((∃ k, k < L.length ∧ Mn.bad fold L k = true ∧ (∀ j, j < k → Mn.bad fold L j = false) ∧ e = .returned (.tuple #[.pointer none, .int .i64 70, .int .i64 (k : Int)])) ∨ (Mn.Good fold L ∧ ∃ g q c, e = .returned (.tuple #[.pointer (some ⟨g, 0, none⟩), .int .i64 0, .int .i64 0]) ∧ RefM w.heap.size g L.length fold L q c w w')) := by
  obtain ⟨b, hb⟩ : ∃ b, w.heap.size = b := ⟨_, rfl⟩
  obtain ⟨n, hn⟩ : ∃ n, L.length = n := ⟨_, rfl⟩
  rw [hn] at h0 h64 ⊢
  rw [hb]
  have HX := Hid.mk' (And.intro hn h)
  have HZ := Hid.mk' hsz
  have h0B : ((n : Int) == 0) = false := by simp; omega
  have h1 : ¬ (64 : Int) < (n : Int) := by omega
  have HM0 : Hid (RefM b b 0 fold (L.take 0) none 0 w (w.alloc (.cells #[.slice none 0 0, .bool fold] 64))) := by
    have hnw := heap_alloc_new w (.cells #[.slice none 0 0, .bool fold] 64)
    rw [hb] at hnw
    exact ⟨hnw, World.ownsRow_nil _ b 9 1, by rw [← hb]; exact (Below.refl _ w).alloc (Nat.le_refl _) _, rfl, Nat.le_refl _⟩
  clear hn h hsz
  go_enter Try.func10, Try.ntmps10
  go_wp2
  go_loopw [8] (fun iv wr => ∃ (i : Nat) (q : Option Addr) (c : Nat), iv = .int .i64 (i : Int) ∧ i ≤ n ∧ Hid (RefM b b i fold (L.take i) q c w wr) ∧ Hid (∀ j, j < i → Mn.bad fold L j = false)) (fun iv _ => n - (intOf iv).toNat)
  case atStart => exact ⟨0, none, 0, rfl, Nat.zero_le _, HM0, fun j hj => by omega⟩
  case round =>
    obtain ⟨i, q, c, rfl, hi, hm, hgood⟩ := hrel
    rename World => wr
    by_cases hin : i < n
    · have hinI : (i : Int) < (n : Int) := by omega
      obtain ⟨x, hx⟩ : ∃ x, L.getD i ByteArray.empty = x := ⟨_, rfl⟩
      have HST := Hid.mk' (HX.out.2.keep (by rw [hb]; exact hm.out.bel))
      obtain ⟨g, off, rfl, hc⟩ := HST.out i (by have := HX.out.1; omega)
      rw [hx] at hc
      have hxs : x.size ≤ 140737488351232 := HZ.out x (by
        rw [← hx, List.getD_eq_getElem?_getD, List.getElem?_eq_getElem (by have := HX.out.1; omega)]
        exact List.getElem_mem _)
      have HFO := Hid.mk' (fun w => folded_any x fold w hxs)
      obtain ⟨y, hy⟩ : ∃ y, Mn.fd fold x = y := ⟨_, rfl⟩
      have HYZ : Hid (y.size = x.size) := by rw [← hy, Mn.fd_size]; exact rfl
      rw [hy] at HFO
      have HY := Hid.mk' hy
      have HXX := Hid.mk' hx
      clear hy hx
      go_upto_region 8 with (first | (go_at_call 28; refine (HFO.out _).mono ?_; rintro e w1 ⟨rfl, hb1⟩; have HM1 := Hid.mk' (hm.out.keep (by omega) hb1); clear hb1) | fail)
      clear hm hc
      go_cut [10] (fun bv wx => bv = .bool (Mn.wrg fold L x 0) ∧ wx = w1)
      case first =>
        have e0 : Mn.wrg fold L x 0 = !Mn.word x := by
          unfold Mn.wrg Mn.among
          rw [List.take_zero, List.any_nil, Bool.or_false]
        by_cases hy0 : y = ByteArray.empty
        · have HE : Hid (Mn.wrg fold L x 0 = true) := by
            rw [e0]
            unfold Mn.word
            rw [decide_eq_false (by rw [← HYZ.out, hy0]; simp)]
            exact rfl
          subst hy0
          clear e0
          go_wp2
          go_meet
          exact ⟨by rw [HE.out], rfl⟩
        · have hne : y.toList.isEmpty = false := by
            cases e : y.toList with
            | nil =>
              have hnil : (ByteArray.empty).toList = [] := by rw [ByteArray.toList_eq]; rfl
              exact absurd (e.trans hnil.symm) (toL_ne hy0)
            | cons _ _ => rfl
          have hyp : 1 ≤ y.size := Nat.pos_of_ne_zero fun e => hy0 (by
            apply ByteArray.ext
            exact Array.eq_empty_of_size_eq_zero e)
          by_cases h256 : 256 < y.size
          · have h256I : (256 : Int) < (y.size : Int) := by omega
            have HE : Hid (Mn.wrg fold L x 0 = true) := by
              rw [e0]
              unfold Mn.word
              rw [decide_eq_false (by have := HYZ.out; omega)]
              exact rfl
            clear e0
            go_wp2
            go_meet
            exact ⟨by rw [HE.out], rfl⟩
          · have h256I : ¬ (256 : Int) < (y.size : Int) := by omega
            have HE : Hid (Mn.wrg fold L x 0 = false) := by
              rw [e0]
              unfold Mn.word
              rw [decide_eq_true (by have := HYZ.out; omega)]
              exact rfl
            clear e0
            go_wp2
            go_meet
            exact ⟨by rw [HE.out], rfl⟩
      case rest =>
        obtain ⟨rfl, rfl⟩ := hcut
        rename World => w1
        have hs1 := HM1.out.st
        have c0 : w1.cell? ⟨b, 0, none⟩ = some (.slice q i c) := by simp [World.cell?, hs1]
        have f0 : w1.frozen? ⟨b, 0, none⟩ = false := by simp [World.frozen?, hs1]
        have HAT := Hid.mk' (str_at HM1.out.row (by rw [List.length_map]; exact HM1.out.len))
        clear hs1 HST
        go_wp2
        go_loopw [10, 11] (fun bv kv wi => ∃ k : Nat, kv = .int .i64 (k : Int) ∧ k ≤ i ∧ wi = w1 ∧ Hid (bv = .bool (Mn.wrg fold L x k))) (fun _ kv _ => i - (intOf kv).toNat)
        case atStart => exact ⟨0, rfl, Nat.zero_le _, rfl, rfl⟩
        case round =>
          obtain ⟨k, rfl, hk, rfl, hbv⟩ := hrel
          rename World => w1
          by_cases hki : k < i
          · have hkI : (k : Int) < (i : Int) := by omega
            obtain ⟨t, ht⟩ : ∃ t, Mn.fd fold (L.getD k ByteArray.empty) = t := ⟨_, rfl⟩
            obtain ⟨g3, o3, hg3, hc3⟩ := HAT.out k (by rw [List.length_map]; have := HM1.out.len; omega)
            subst hg3
            have hgt : ((L.take i).map (Mn.fd fold)).getD k ByteArray.empty = t := by
              rw [← ht, List.getD_eq_getElem?_getD, List.getElem?_map, List.getElem?_take, if_pos hki, List.getElem?_eq_getElem (by have := HX.out.1; omega), List.getD_eq_getElem?_getD, List.getElem?_eq_getElem (by have := HX.out.1; omega)]
              rfl
            rw [hgt] at hc3
            have hnx := Mn.wrg_next fold L x k (by have := HX.out.1; omega)
            rw [ht, HY.out] at hnx
            have HNX := Hid.mk' hnx
            obtain ⟨f, hf⟩ : ∃ f, Mn.wrg fold L x k = f := ⟨_, rfl⟩
            rw [hf] at hbv HNX
            have hbv2 := hbv.out
            subst hbv2
            clear hf ht hgt hnx hbv
            cases f
            · by_cases hty : t = y
              · subst hty
                go_wp2
                go_roundw
                case rel => exact ⟨k + 1, by simp, by omega, by trivial, by rw [HNX.out]; simp [Hid]⟩
                case measure =>
                  simp [intOf]
                  omega
              · have hne := toL_ne hty
                have hneB : (t.toList == y.toList) = false := by simp [hne]
                go_wp2
                go_roundw
                case rel => exact ⟨k + 1, by simp, by omega, by trivial, by rw [HNX.out]; simp [Hid, hty]⟩
                case measure =>
                  simp [intOf]
                  omega
            · go_wp2
              go_roundw
              case rel => exact ⟨k + 1, by simp, by omega, by trivial, by rw [HNX.out]; exact rfl⟩
              case measure =>
                simp [intOf]
                omega
          · obtain rfl : k = i := by omega
            have hkI : ¬ (k : Int) < (k : Int) := by omega
            have hbad : Hid (Mn.bad fold L k = Mn.wrg fold L x k) := by
              unfold Mn.bad Mn.wrg
              rw [HXX.out]
              exact rfl
            obtain ⟨f, hf⟩ : ∃ f, Mn.wrg fold L x k = f := ⟨_, rfl⟩
            rw [hf] at hbv hbad
            have hbv2 := hbv.out
            subst hbv2
            clear hf hbv
            cases f
            · have hszw : b ≤ w1.heap.size := by have := HM1.out.bel.size; omega
              obtain ⟨i1, hi1, hy0, hy1, hy2⟩ := info_parts infoSt
              have HMG : Hid (∀ (w6 : World) (p6 : Option Addr) (c6 : Nat), w6.ownsRow b 9 1 (.slice p6 (k + 1) c6) (k + 1) (strL ((L.take k).map (Mn.fd fold)) ++ [.string y]) → (w1.alloc (.cells #[.string y] 9)).grownBy w6 (Value.slice q k c).ownBlock → w6.cell? ⟨b, 0, none⟩ = some (.slice q k c) ∧ w6.frozen? ⟨b, 0, none⟩ = false ∧ RefM b b (k + 1) fold (L.take (k + 1)) p6 c6 w (w6.setCell ⟨b, 0, none⟩ (.slice p6 (k + 1) c6))) := by
                intro w6 p6 c6 ho hg
                have hst := mr_cells_apart HM1.out.st HM1.out.row (by decide) hg
                have hlt : (L.take (k + 1)).map (Mn.fd fold) = (L.take k).map (Mn.fd fold) ++ [y] := by
                  rw [List.take_add_one, List.map_append, List.getElem?_eq_getElem (by have := HX.out.1; omega)]
                  congr 1
                  have h9 := HXX.out
                  rw [List.getD_eq_getElem?_getD, List.getElem?_eq_getElem (by have := HX.out.1; omega)] at h9
                  rw [← HY.out, ← h9]
                  rfl
                have ho2 : w6.ownsRow b 9 1 (.slice p6 (k + 1) c6) (k + 1) (strL ((L.take (k + 1)).map (Mn.fd fold))) := by
                  rw [hlt, strL, List.map_append]
                  exact ho
                refine ⟨by simp [World.cell?, hst], by simp [World.frozen?, hst], ?_, mr_set ho2 (mr_other ho2 hst (by decide)) _ _, mb_set (own_relS hszw HM1.out.row HM1.out.bel hg) (Nat.le_refl _) _ _, by rw [List.length_take]; have := HX.out.1; omega, Nat.le_refl _⟩
                simp [World.setCell, Array.getElem?_modify] at hst ⊢
                simp [hst]
              go_wp2_with (first | (refine wpList_append_own _ rfl _ _ 22 rfl b 9 i1 (.string ⟨#[]⟩) 1 16 Try.underlying22 hi1 hy0 hy1 hy2 rfl (by decide) _ _ _ rfl (HM1.out.row.alloc _) ⟨w1.heap.size, 0, none⟩ 1 1 [.string y] rfl rfl (str_news _ _ rfl) (str_one _) (by unfold maxLen; omega) (by omega) (by simp only [World.size_alloc]; omega) ?_; intro v6 w6 ho6 hg6 _; obtain ⟨p6, c6, rfl⟩ := mr_shape ho6; obtain ⟨d0, d1, d2⟩ := HMG.out w6 p6 c6 ho6 hg6; have HM6 := Hid.mk' d2; clear ho6 hg6 d2) | fail)
              go_roundw
              case rel => exact ⟨k + 1, p6, c6, by simp, by omega, HM6, fun j hj => by
                by_cases e : j = k
                · rw [e]; exact hbad.out
                · exact hgood.out j (by omega)⟩
              case measure =>
                simp [intOf]
                omega
            · go_wp2
              go_ret3
              exact ⟨HM1.out.bel, .inl ⟨k, hin, hbad.out, hgood.out, rfl⟩⟩
    · obtain rfl : i = n := by omega
      have hinI : ¬ (i : Int) < (i : Int) := by omega
      go_wp2
      go_ret3
      have hLt : L.take i = L := List.take_of_length_le (by have := HX.out.1; omega)
      have hmm := hm.out
      rw [hLt] at hmm
      exact ⟨hmm.bel, .inr ⟨⟨by have := HX.out.1; omega, by have := HX.out.1; omega, by rw [HX.out.1]; exact hgood.out⟩, b, rfl, q, c, hmm⟩⟩
end Go.Proofs.Ytlejfeapnnioeaa
