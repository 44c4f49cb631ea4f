/-
  Parts of the proof, one behind the other: each says what it proves. Conditions: as each says.
-/
import Derived.Test.YtlbfnchjbpioeaaKern
import Derived.Test.YtlbfnchjbpioeaaWordsC
import Derived.Test.YtlbfnchjbpioeaaIndex
import Derived.Test.YtlbfnchjbpioeaaWordsF
import Derived.Test.YtlbfnchjbpioeaaFoldS
import Derived.OwnWalk
import Derived.Laws.Strings
import Derived.Test.YtlbfnchjbpioeaaMnU
import Derived.Test.YtlbfnchjbpioeaaMnP
namespace Go.Proofs.Ytlbfnchjbpioeaa
open Go.RowKit
set_option linter.unusedVariables false
theorem ret_u8 {a b : Int} (h : a = b) : Ending.returned (.int .u8 a) = .returned (.int .u8 b) := by rw [h]
set_option maxHeartbeats 400000 in
theorem small_any (b : Nat) (w : World) (hb : b < 256) :
    Calls Try.prog 51 #[.int .u8 (b : Int)] w fun e w' => e = .returned (.int .u8 (Swar.small b : Nat)) ∧ w' = w := by
  unfold Swar.small
  by_cases h1 : 65 ≤ b
  · by_cases h2 : b ≤ 90
    · rw [if_pos ⟨h1, h2⟩]
      go_enter Try.func51, Try.ntmps51
      go_wp2
      go_ret
      exact ⟨ret_u8 (by omega), rfl⟩
    · rw [if_neg (by omega)]
      have h2' : ¬ (b : Int) ≤ 90 := by omega
      go_enter Try.func51, Try.ntmps51
      go_wp2
      go_ret
      exact ⟨rfl, rfl⟩
  · rw [if_neg (by omega)]
    have h2' : ¬ (65 : Int) ≤ (b : Int) := by omega
    go_enter Try.func51, Try.ntmps51
    go_wp2
    go_ret
    exact ⟨rfl, rfl⟩
end Go.Proofs.Ytlbfnchjbpioeaa

namespace Go.Proofs.Ytlbfnchjbpioeaa
open Go.RowKit
set_option linter.unusedVariables false
end Go.Proofs.Ytlbfnchjbpioeaa

namespace Go.Proofs.Ytlbfnchjbpioeaa
open Go.RowKit
set_option linter.unusedVariables false
end Go.Proofs.Ytlbfnchjbpioeaa

namespace Go.Proofs.Ytlbfnchjbpioeaa
open Go.RowKit
set_option linter.unusedVariables false
def foldTo (s : ByteArray) (j : Nat) : List Nat := (List.range j).map fun q => Swar.small (Swar.bt s q)
theorem foldTo_len (s : ByteArray) (j : Nat) : (foldTo s j).length = j := by simp [foldTo]
theorem foldTo_step (s : ByteArray) (j : Nat) : foldTo s (j + 1) = foldTo s j ++ [Swar.small (Swar.bt s j)] := by
  unfold foldTo
  rw [List.range_succ, List.map_append]
  rfl
theorem bytes_bt (l : List Nat) (hl : ∀ z ∈ l, z < 256) (i : Nat) (hi : i < l.length) : Swar.bt (strOfNums (l.map fun z => ((z : Nat) : Int))) i = l.getD i 0 := by
  have h : i < (strOfNums (l.map fun z => ((z : Nat) : Int))).size := by rw [strOfNums_size]; simpa using hi
  rw [Swar.bt_in h]
  have e : (strOfNums (l.map fun z => ((z : Nat) : Int)))[i] = UInt8.ofNat l[i] := by
    show ((l.map fun z => ((z : Nat) : Int)).map fun n => UInt8.ofNat n.toNat).toArray[i] = _
    simp
  rw [e, List.getD_eq_getElem?_getD, List.getElem?_eq_getElem hi]
  exact UInt8.toNat_ofNat_of_lt (hl _ (List.getElem_mem hi))
theorem fold_text (s : ByteArray) (w wr : World) (v : Value) (hown : wr.ownsRow w.heap.size 5 1 v s.size (byv (foldTo s s.size))) :
    (convert 54 9 v).run Try.prog wr = .ok (.string (Swar.foldL s)) wr := by
  have hall : ∀ z ∈ foldTo s s.size, z < 256 := by
    intro z hz
    obtain ⟨q, _, rfl⟩ := List.mem_map.1 hz
    exact Swar.small_lt _ (Swar.bt_lt _ _)
  have hlen : (foldTo s s.size).length = s.size := foldTo_len _ _
  have hget : ∀ i, i < s.size → (foldTo s s.size).getD i 0 = Swar.small (Swar.bt s i) := by
    intro i hi
    unfold foldTo
    rw [List.getD_eq_getElem?_getD, List.getElem?_map, List.getElem?_range (by omega)]
    rfl
  have ht : strOfNums ((foldTo s s.size).map fun z => ((z : Nat) : Int)) = Swar.foldL s := by
    have hz : (strOfNums ((foldTo s s.size).map fun z => ((z : Nat) : Int))).size = s.size := by rw [strOfNums_size]; simp [hlen]
    refine Swar.ext_bt _ _ (by rw [hz, Swar.fold_size]) (fun i hi => ?_)
    rw [hz] at hi
    rw [bytes_bt _ hall i (by omega), hget i hi, Swar.bt_fold]
  rw [← ht]
  rcases hown.2 with ⟨rfl, h0⟩ | ⟨g, cap, cur, rfl, _⟩
  · rw [run_convert_bytes_nil wr 54 5 Try.underlying54 Try.underlying5 0 0 9 Try.underlying9]
    have e : foldTo s s.size = [] := List.length_eq_zero_iff.1 (by omega)
    rw [e]
    rfl
  · refine run_convert_bytes_arg wr 54 5 Try.underlying54 Try.underlying5 g 0 s.size cap _ (by simp [hlen]) (fun i hi => ?_) 9 Try.underlying9
    rw [Nat.zero_add, hown.cellAt i (by omega)]
    unfold byv
    rw [List.getElem?_map, List.getD_eq_getElem?_getD, List.getElem?_map, List.getElem?_eq_getElem (show i < (foldTo s s.size).length by omega)]
    rfl
set_option maxHeartbeats 1000000 in
theorem refFold_any (s : ByteArray) (w : World) (hs : s.size ≤ 140737488351232) :
    Calls Try.prog 41 #[.string s] w fun e w' => e = .returned (.string (Swar.foldL s)) ∧ Below w.heap.size w w' := by
  obtain ⟨i0, hi, hz0, hz1, hz2⟩ := info_parts infoB
  go_enter Try.func41, Try.ntmps41
  go_wp2_with fail
  go_loopw [3, 4] (fun v i wr => ∃ j : Nat, j ≤ s.size ∧ i = .int .i64 (j : Int) ∧ wr.ownsRow w.heap.size 5 1 v j (byv (foldTo s j)) ∧ Below w.heap.size w wr) (fun _ i _ => s.size - (intOf i).toNat)
  case atStart => exact ⟨0, by omega, rfl, by simp [foldTo, byv]; exact World.ownsRow_nil _ _ _ _, Below.refl _ _⟩
  case round =>
    obtain ⟨j, hj, rfl, hown, hb⟩ := hrel
    by_cases hlt : j < s.size
    · have hj3 : (j : Int) < (s.size : Int) := by omega
      have hBs := hb.size
      have hby := Swar.bt_lt s j
      go_wp2_with fail
      refine (small_any s[j].toNat _ (by rw [← Swar.bt_in hlt]; exact hby)).mono ?_
      rintro e w1 ⟨rfl, rfl⟩
      go_wp2_with (first | (at_builtin; refine wpList_append_own _ rfl _ _ 54 rfl w.heap.size 5 i0 (.int .u8 0) 1 1 Try.underlying54 hi hz0 hz1 hz2 rfl (by decide) _ _ _ rfl (hown.alloc _) ⟨w1.heap.size, 0, none⟩ 1 1 [.int .u8 ((Swar.small s[j].toNat : Nat) : Int)] rfl rfl ?c1 ?c2 ?c3 ?c4 ?c5 ?_) | fail)
      case c1 => exact cell_one_new _ _ _
      case c2 => intro u hu; simp at hu; subst hu; rfl
      case c3 => unfold maxLen; omega
      case c4 => omega
      case c5 => simp; omega
      · intro v' w2 hown' hgrow _
        have R2 := own_rel hBs hown hb hgrow
        have R1 : w2.ownsRow w.heap.size 5 1 v' (j + 1) (byv (foldTo s (j + 1))) := by
          rw [foldTo_step]
          unfold byv at *
          rw [List.map_append, Swar.bt_in hlt]
          exact hown'
        clear hown' hgrow hown hb hBs
        go_wp2_with fail
        go_roundw
        case rel => exact ⟨j + 1, by omega, by go_num, R1, R2⟩
        case measure => simp [intOf]; omega
    · obtain rfl : j = s.size := by omega
      have hcv := fold_text s w wr _ hown
      have hlt' : ¬ (s.size : Int) < (s.size : Int) := by omega
      clear hown
      go_wp2_with fail
      go_ret
      exact ⟨rfl, hb⟩
end Go.Proofs.Ytlbfnchjbpioeaa

namespace Go.Proofs.Ytlbfnchjbpioeaa
open Go.RowKit Go.Shelf
set_option linter.unusedVariables false
theorem folded_any (s : ByteArray) (fold : Bool) (w : World) (hs : s.size ≤ 140737488351232) :
    Calls Try.prog 28 #[.string s, .bool fold] w fun e w' => e = .returned (.string (Mn.fd fold s)) ∧ Below w.heap.size w w' := by
  have HF := Hid.mk' (fun w => refFold_any s w hs)
  cases fold
  · go_enter Try.func28, Try.ntmps28
    go_wp2
    go_ret
    exact ⟨rfl, Below.refl _ _⟩
  · go_enter Try.func28, Try.ntmps28
    go_wp2_with (first | (go_at_call 41; refine (HF.out _).mono ?_; rintro e w1 ⟨rfl, hb1⟩; have HB1 := Hid.mk' hb1; clear hb1) | fail)
    go_ret
    exact ⟨rfl, HB1.out⟩
end Go.Proofs.Ytlbfnchjbpioeaa

namespace Mn
/-- is it wrong, as far as the first k of them tell? -/
def wrg (fold : Bool) (L : List ByteArray) (s : ByteArray) (k : Nat) : Bool := !word s || among fold (L.take k) s
theorem wrg_next (fold : Bool) (L : List ByteArray) (s : ByteArray) (k : Nat) (hk : k < L.length) : wrg fold L s (k + 1) = (wrg fold L s k || decide (fd fold (L.getD k ByteArray.empty) = fd fold s)) := by
  unfold wrg among
  rw [List.take_add_one, List.getElem?_eq_getElem hk, Option.toList_some, List.any_append, List.any_cons, List.any_nil, Bool.or_false, ← Bool.or_assoc, List.getD_eq_getElem?_getD, List.getElem?_eq_getElem hk]
  rfl
end Mn
namespace Go.Proofs.Ytlbfnchjbpioeaa
open Go.RowKit Go.Shelf
set_option linter.unusedVariables false
/-- the document's set in memory -/
structure RefM (b g n : Nat) (fold : Bool) (L : List ByteArray) (q : Option Addr) (c : Nat) (w V : World) : Prop where
  st : V.heap[g]? = some (.cells #[.slice q n c, .bool fold] 64 (0, 0))
  row : V.ownsRow b 9 1 (.slice q n c) n (strL (L.map (Mn.fd fold)))
  bel : Below b w V
  len : n = L.length
  lo : b ≤ g
theorem RefM.keep {b g n : Nat} {fold : Bool} {L : List ByteArray} {q : Option Addr} {c : Nat} {w V V' : World} (h : RefM b g n fold L q c w V) (hw : b ≤ w.heap.size) (hb : Below V.heap.size V V') : RefM b g n fold L q c w V' :=
  ⟨(hb.block g (Array.getElem?_eq_some_iff.1 h.st).1).trans h.st, mr_kept h.row (fun k hk => hb.block k (h.row.lt k hk).2), h.bel.trans ⟨hb.os, hb.tape, hb.output, hb.size, fun k hk => hb.block k (by have := h.bel.size; omega)⟩, h.len, h.lo⟩
theorem refNew_few (p : Option Addr) (n cap : Nat) (fold : Bool) (w : World) (h : n = 0 ∨ 64 < n) (hn : n ≤ 1125899906842624) :
    Calls Try.prog 10 #[.slice p n cap, .bool fold] w fun e w' => e = .returned (.tuple #[.pointer none, .int .i64 70, .int .i64 0]) ∧ w' = w := by
  by_cases h0 : n = 0
  · subst h0
    go_enter Try.func10, Try.ntmps10
    go_wp2
    go_ret3
    exact ⟨rfl, rfl⟩
  · have h0B : ((n : Int) == 0) = false := by simp; omega
    have h1 : (64 : Int) < (n : Int) := by omega
    go_enter Try.func10, Try.ntmps10
    go_wp2
    go_ret3
    exact ⟨rfl, rfl⟩
set_option maxRecDepth 100000 in
set_option maxHeartbeats 2000000 in
theorem refNew_any (p : Option Addr) (cap : Nat) (L : List ByteArray) (fold : Bool) (w : World) (h : StrAt w p L) (h0 : 0 < L.length) (h64 : L.length ≤ 64) (hsz : ∀ x ∈ L, x.size ≤ 140737488351232) :
    Calls Try.prog 10 #[.slice p L.length cap, .bool fold] w fun e w' => Below w.heap.size w w' ∧ ((∃ k, k < L.length ∧ Mn.bad fold L k = true ∧ (∀ j, j < k → Mn.bad fold L j = false) ∧ e = .returned (.tuple #[.pointer none, .int .i64 70, .int .i64 (k : Int)])) ∨ (Mn.Good fold L ∧ ∃ g q c, e = .returned (.tuple #[.pointer (some ⟨g, 0, none⟩), .int .i64 0, .int .i64 0]) ∧ RefM w.heap.size g L.length fold L q c w w')) := by
  obtain ⟨b, hb⟩ : ∃ b, w.heap.size = b := ⟨_, rfl⟩
  obtain ⟨n, hn⟩ : ∃ n, L.length = n := ⟨_, rfl⟩
  rw [hn] at h0 h64 ⊢
  rw [hb]
  have HX := Hid.mk' (And.intro hn h)
  have HZ := Hid.mk' hsz
  have h0B : ((n : Int) == 0) = false := by simp; omega
  have h1 : ¬ (64 : Int) < (n : Int) := by omega
  have HM0 : Hid (RefM b b 0 fold (L.take 0) none 0 w (w.alloc (.cells #[.slice none 0 0, .bool fold] 64))) := by
    have hnw := heap_alloc_new w (.cells #[.slice none 0 0, .bool fold] 64)
    rw [hb] at hnw
    exact ⟨hnw, World.ownsRow_nil _ b 9 1, by rw [← hb]; exact (Below.refl _ w).alloc (Nat.le_refl _) _, rfl, Nat.le_refl _⟩
  clear hn h hsz
  go_enter Try.func10, Try.ntmps10
  go_wp2
  go_loopw [8] (fun iv wr => ∃ (i : Nat) (q : Option Addr) (c : Nat), iv = .int .i64 (i : Int) ∧ i ≤ n ∧ Hid (RefM b b i fold (L.take i) q c w wr) ∧ Hid (∀ j, j < i → Mn.bad fold L j = false)) (fun iv _ => n - (intOf iv).toNat)
  case atStart => exact ⟨0, none, 0, rfl, Nat.zero_le _, HM0, fun j hj => by omega⟩
  case round =>
    obtain ⟨i, q, c, rfl, hi, hm, hgood⟩ := hrel
    rename World => wr
    by_cases hin : i < n
    · have hinI : (i : Int) < (n : Int) := by omega
      obtain ⟨x, hx⟩ : ∃ x, L.getD i ByteArray.empty = x := ⟨_, rfl⟩
      have HST := Hid.mk' (HX.out.2.keep (by rw [hb]; exact hm.out.bel))
      obtain ⟨g, off, rfl, hc⟩ := HST.out i (by have := HX.out.1; omega)
      rw [hx] at hc
      have hxs : x.size ≤ 140737488351232 := HZ.out x (by
        rw [← hx, List.getD_eq_getElem?_getD, List.getElem?_eq_getElem (by have := HX.out.1; omega)]
        exact List.getElem_mem _)
      have HFO := Hid.mk' (fun w => folded_any x fold w hxs)
      obtain ⟨y, hy⟩ : ∃ y, Mn.fd fold x = y := ⟨_, rfl⟩
      have HYZ : Hid (y.size = x.size) := by rw [← hy, Mn.fd_size]; exact rfl
      rw [hy] at HFO
      have HY := Hid.mk' hy
      have HXX := Hid.mk' hx
      clear hy hx
      go_upto_region 8 with (first | (go_at_call 28; refine (HFO.out _).mono ?_; rintro e w1 ⟨rfl, hb1⟩; have HM1 := Hid.mk' (hm.out.keep (by omega) hb1); clear hb1) | fail)
      clear hm hc
      go_cut [10] (fun bv wx => bv = .bool (Mn.wrg fold L x 0) ∧ wx = w1)
      case first =>
        have e0 : Mn.wrg fold L x 0 = !Mn.word x := by
          unfold Mn.wrg Mn.among
          rw [List.take_zero, List.any_nil, Bool.or_false]
        by_cases hy0 : y = ByteArray.empty
        · have HE : Hid (Mn.wrg fold L x 0 = true) := by
            rw [e0]
            unfold Mn.word
            rw [decide_eq_false (by rw [← HYZ.out, hy0]; simp)]
            exact rfl
          subst hy0
          clear e0
          go_wp2
          go_meet
          exact ⟨by rw [HE.out], rfl⟩
        · have hne : y.toList.isEmpty = false := by
            cases e : y.toList with
            | nil =>
              have hnil : (ByteArray.empty).toList = [] := by rw [ByteArray.toList_eq]; rfl
              exact absurd (e.trans hnil.symm) (toL_ne hy0)
            | cons _ _ => rfl
          have hyp : 1 ≤ y.size := Nat.pos_of_ne_zero fun e => hy0 (by
            apply ByteArray.ext
            exact Array.eq_empty_of_size_eq_zero e)
          by_cases h256 : 256 < y.size
          · have h256I : (256 : Int) < (y.size : Int) := by omega
            have HE : Hid (Mn.wrg fold L x 0 = true) := by
              rw [e0]
              unfold Mn.word
              rw [decide_eq_false (by have := HYZ.out; omega)]
              exact rfl
            clear e0
            go_wp2
            go_meet
            exact ⟨by rw [HE.out], rfl⟩
          · have h256I : ¬ (256 : Int) < (y.size : Int) := by omega
            have HE : Hid (Mn.wrg fold L x 0 = false) := by
              rw [e0]
              unfold Mn.word
              rw [decide_eq_true (by have := HYZ.out; omega)]
              exact rfl
            clear e0
            go_wp2
            go_meet
            exact ⟨by rw [HE.out], rfl⟩
      case rest =>
        obtain ⟨rfl, rfl⟩ := hcut
        rename World => w1
        have hs1 := HM1.out.st
        have c0 : w1.cell? ⟨b, 0, none⟩ = some (.slice q i c) := by simp [World.cell?, hs1]
        have f0 : w1.frozen? ⟨b, 0, none⟩ = false := by simp [World.frozen?, hs1]
        have HAT := Hid.mk' (str_at HM1.out.row (by rw [List.length_map]; exact HM1.out.len))
        clear hs1 HST
        go_wp2
        go_loopw [10, 11] (fun bv kv wi => ∃ k : Nat, kv = .int .i64 (k : Int) ∧ k ≤ i ∧ wi = w1 ∧ Hid (bv = .bool (Mn.wrg fold L x k))) (fun _ kv _ => i - (intOf kv).toNat)
        case atStart => exact ⟨0, rfl, Nat.zero_le _, rfl, rfl⟩
        case round =>
          obtain ⟨k, rfl, hk, rfl, hbv⟩ := hrel
          rename World => w1
          by_cases hki : k < i
          · have hkI : (k : Int) < (i : Int) := by omega
            obtain ⟨t, ht⟩ : ∃ t, Mn.fd fold (L.getD k ByteArray.empty) = t := ⟨_, rfl⟩
            obtain ⟨g3, o3, hg3, hc3⟩ := HAT.out k (by rw [List.length_map]; have := HM1.out.len; omega)
            subst hg3
            have hgt : ((L.take i).map (Mn.fd fold)).getD k ByteArray.empty = t := by
              rw [← ht, List.getD_eq_getElem?_getD, List.getElem?_map, List.getElem?_take, if_pos hki, List.getElem?_eq_getElem (by have := HX.out.1; omega), List.getD_eq_getElem?_getD, List.getElem?_eq_getElem (by have := HX.out.1; omega)]
              rfl
            rw [hgt] at hc3
            have hnx := Mn.wrg_next fold L x k (by have := HX.out.1; omega)
            rw [ht, HY.out] at hnx
            have HNX := Hid.mk' hnx
            obtain ⟨f, hf⟩ : ∃ f, Mn.wrg fold L x k = f := ⟨_, rfl⟩
            rw [hf] at hbv HNX
            have hbv2 := hbv.out
            subst hbv2
            clear hf ht hgt hnx hbv
            cases f
            · by_cases hty : t = y
              · subst hty
                go_wp2
                go_roundw
                case rel => exact ⟨k + 1, by simp, by omega, by trivial, by rw [HNX.out]; simp [Hid]⟩
                case measure =>
                  simp [intOf]
                  omega
              · have hne := toL_ne hty
                have hneB : (t.toList == y.toList) = false := by simp [hne]
                go_wp2
                go_roundw
                case rel => exact ⟨k + 1, by simp, by omega, by trivial, by rw [HNX.out]; simp [Hid, hty]⟩
                case measure =>
                  simp [intOf]
                  omega
            · go_wp2
              go_roundw
              case rel => exact ⟨k + 1, by simp, by omega, by trivial, by rw [HNX.out]; exact rfl⟩
              case measure =>
                simp [intOf]
                omega
          · obtain rfl : k = i := by omega
            have hkI : ¬ (k : Int) < (k : Int) := by omega
            have hbad : Hid (Mn.bad fold L k = Mn.wrg fold L x k) := by
              unfold Mn.bad Mn.wrg
              rw [HXX.out]
              exact rfl
            obtain ⟨f, hf⟩ : ∃ f, Mn.wrg fold L x k = f := ⟨_, rfl⟩
            rw [hf] at hbv hbad
            have hbv2 := hbv.out
            subst hbv2
            clear hf hbv
            cases f
            · have hszw : b ≤ w1.heap.size := by have := HM1.out.bel.size; omega
              obtain ⟨i1, hi1, hy0, hy1, hy2⟩ := info_parts infoSt
              have HMG : Hid (∀ (w6 : World) (p6 : Option Addr) (c6 : Nat), w6.ownsRow b 9 1 (.slice p6 (k + 1) c6) (k + 1) (strL ((L.take k).map (Mn.fd fold)) ++ [.string y]) → (w1.alloc (.cells #[.string y] 9)).grownBy w6 (Value.slice q k c).ownBlock → w6.cell? ⟨b, 0, none⟩ = some (.slice q k c) ∧ w6.frozen? ⟨b, 0, none⟩ = false ∧ RefM b b (k + 1) fold (L.take (k + 1)) p6 c6 w (w6.setCell ⟨b, 0, none⟩ (.slice p6 (k + 1) c6))) := by
                intro w6 p6 c6 ho hg
                have hst := mr_cells_apart HM1.out.st HM1.out.row (by decide) hg
                have hlt : (L.take (k + 1)).map (Mn.fd fold) = (L.take k).map (Mn.fd fold) ++ [y] := by
                  rw [List.take_add_one, List.map_append, List.getElem?_eq_getElem (by have := HX.out.1; omega)]
                  congr 1
                  have h9 := HXX.out
                  rw [List.getD_eq_getElem?_getD, List.getElem?_eq_getElem (by have := HX.out.1; omega)] at h9
                  rw [← HY.out, ← h9]
                  rfl
                have ho2 : w6.ownsRow b 9 1 (.slice p6 (k + 1) c6) (k + 1) (strL ((L.take (k + 1)).map (Mn.fd fold))) := by
                  rw [hlt, strL, List.map_append]
                  exact ho
                refine ⟨by simp [World.cell?, hst], by simp [World.frozen?, hst], ?_, mr_set ho2 (mr_other ho2 hst (by decide)) _ _, mb_set (own_relS hszw HM1.out.row HM1.out.bel hg) (Nat.le_refl _) _ _, by rw [List.length_take]; have := HX.out.1; omega, Nat.le_refl _⟩
                simp [World.setCell, Array.getElem?_modify] at hst ⊢
                simp [hst]
              go_wp2_with (first | (refine wpList_append_own _ rfl _ _ 22 rfl b 9 i1 (.string ⟨#[]⟩) 1 16 Try.underlying22 hi1 hy0 hy1 hy2 rfl (by decide) _ _ _ rfl (HM1.out.row.alloc _) ⟨w1.heap.size, 0, none⟩ 1 1 [.string y] rfl rfl (str_news _ _ rfl) (str_one _) (by unfold maxLen; omega) (by omega) (by simp only [World.size_alloc]; omega) ?_; intro v6 w6 ho6 hg6 _; obtain ⟨p6, c6, rfl⟩ := mr_shape ho6; obtain ⟨d0, d1, d2⟩ := HMG.out w6 p6 c6 ho6 hg6; have HM6 := Hid.mk' d2; clear ho6 hg6 d2) | fail)
              go_roundw
              case rel => exact ⟨k + 1, p6, c6, by simp, by omega, HM6, fun j hj => by
                by_cases e : j = k
                · rw [e]; exact hbad.out
                · exact hgood.out j (by omega)⟩
              case measure =>
                simp [intOf]
                omega
            · go_wp2
              go_ret3
              exact ⟨HM1.out.bel, .inl ⟨k, hin, hbad.out, hgood.out, rfl⟩⟩
    · obtain rfl : i = n := by omega
      have hinI : ¬ (i : Int) < (i : Int) := by omega
      go_wp2
      go_ret3
      have hLt : L.take i = L := List.take_of_length_le (by have := HX.out.1; omega)
      have hmm := hm.out
      rw [hLt] at hmm
      exact ⟨hmm.bel, .inr ⟨⟨by have := HX.out.1; omega, by have := HX.out.1; omega, by rw [HX.out.1]; exact hgood.out⟩, b, rfl, q, c, hmm⟩⟩
end Go.Proofs.Ytlbfnchjbpioeaa

namespace Mn
/-- has none of the first j words the beginning of k bytes that x has? -/
def frF (D : List ByteArray) (x : ByteArray) (k j : Nat) : Bool := !(D.take j).any fun y => decide (k ≤ y.size ∧ y.extract 0 k = x.extract 0 k)
theorem frF_next (D : List ByteArray) (x : ByteArray) (k j : Nat) (hj : j < D.length) : frF D x k (j + 1) = (frF D x k j && !decide (k ≤ (D.getD j ByteArray.empty).size ∧ (D.getD j ByteArray.empty).extract 0 k = x.extract 0 k)) := by
  unfold frF
  rw [List.take_add_one, List.getElem?_eq_getElem hj, Option.toList_some, List.any_append, List.any_cons, List.any_nil, Bool.or_false, List.getD_eq_getElem?_getD, List.getElem?_eq_getElem hj, Bool.not_or]
  rfl
def cK (D : List ByteArray) (x : ByteArray) (i : Nat) : Nat → Nat
  | 0 => 0
  | m + 1 => cK D x i m + if frF D x (m + 1) i = true then 1 else 0
theorem cK_le (D : List ByteArray) (x : ByteArray) (i : Nat) : ∀ m, cK D x i m ≤ m
  | 0 => Nat.le_refl _
  | m + 1 => by
    have := cK_le D x i m
    unfold cK
    split <;> omega
/-- how many beginnings the first i words have -/
def stN (D : List ByteArray) : Nat → Nat
  | 0 => 1
  | i + 1 => stN D i + cK D (D.getD i ByteArray.empty) i (D.getD i ByteArray.empty).size
theorem stN_le (D : List ByteArray) (hD : ∀ x ∈ D, x.size ≤ 256) : ∀ i, i ≤ D.length → stN D i ≤ 1 + i * 256
  | 0, _ => Nat.le_refl _
  | i + 1, hi => by
    have h1 := stN_le D hD i (by omega)
    have h2 := cK_le D (D.getD i ByteArray.empty) i (D.getD i ByteArray.empty).size
    have h3 := hD (D.getD i ByteArray.empty) (by
      rw [List.getD_eq_getElem?_getD, List.getElem?_eq_getElem (by omega)]
      exact List.getElem_mem _)
    unfold stN
    omega
end Mn
namespace Go.Proofs.Ytlbfnchjbpioeaa
open Go.RowKit Go.Shelf
set_option linter.unusedVariables false
theorem sl0_run (s : ByteArray) (z : Nat) (h : z ≤ s.size) (W : World) : (Instr.slice 9 (.string s) none (some (.int .i64 (z : Int))) none).run Try.prog W = .ok (.string (s.extract 0 z)) W := by
  have e3 : (z : Int) ≤ (s.size : Int) := by omega
  simp [go_sem, Instr.slice, h]
theorem at_of {w w' : World} {p : Option Addr} {D : List ByteArray} (h : StrAt w p D) (e : ∃ j, w' = w.drewN j) : StrAt w' p D := by
  obtain ⟨j, rfl⟩ := e
  exact h
set_option maxRecDepth 100000 in
set_option maxHeartbeats 2000000 in
theorem refStates_any (g : Nat) (q : Option Addr) (c : Nat) (fold : Bool) (D : List ByteArray) (w : World) (hst : w.heap[g]? = some (.cells #[.slice q D.length c, .bool fold] 64 (0, 0))) (h : StrAt w q D) (h64 : D.length ≤ 64) (hsz : ∀ x ∈ D, x.size ≤ 256) :
    Calls Try.prog 13 #[.pointer (some ⟨g, 0, none⟩)] w fun e w' => e = .returned (.int .i64 (Mn.stN D D.length : Int)) ∧ ∃ j, w' = w.drewN j := by
  obtain ⟨n, hn⟩ : ∃ n, D.length = n := ⟨_, rfl⟩
  rw [hn] at h64 hst ⊢
  have HX := Hid.mk' (And.intro hn h)
  have HZ := Hid.mk' hsz
  have c0 : w.cell? ⟨g, 0, none⟩ = some (.slice q n c) := by simp [World.cell?, hst]
  have HC := Hid.mk' c0
  clear hn h hsz hst c0
  go_enter Try.func13, Try.ntmps13
  go_wp2
  go_loopw [3, 4] (fun sv iv wr => ∃ (i S : Nat), sv = .int .i64 (S : Int) ∧ iv = .int .i64 (i : Int) ∧ i ≤ n ∧ Hid (S = Mn.stN D i) ∧ Hid (∃ j, wr = w.drewN j)) (fun _ iv _ => n - (intOf iv).toNat)
  case atStart => exact ⟨0, 1, rfl, rfl, Nat.zero_le _, rfl, 0, rfl⟩
  case round =>
    obtain ⟨i, S, rfl, rfl, hi, hS, hdr⟩ := hrel
    rename World => wr
    have c1 := cell_of hdr.out HC.out
    by_cases hin : i < n
    · have hinI : (i : Int) < (n : Int) := by omega
      obtain ⟨x, hx⟩ : ∃ x, D.getD i ByteArray.empty = x := ⟨_, rfl⟩
      have hxs : x.size ≤ 256 := HZ.out x (by
        rw [← hx, List.getD_eq_getElem?_getD, List.getElem?_eq_getElem (by have := HX.out.1; omega)]
        exact List.getElem_mem _)
      have hSb : S ≤ 1 + i * 256 := by
        rw [hS.out]
        exact Mn.stN_le D HZ.out i (by have := HX.out.1; omega)
      have HXX := Hid.mk' hx
      clear hx
      go_wp2
      go_loopw [3, 5] (fun sv kv wx => ∃ (k S2 : Nat), sv = .int .i64 (S2 : Int) ∧ kv = .int .i64 ((k : Int) + 1) ∧ k ≤ x.size ∧ S2 ≤ 1 + i * 256 + k ∧ Hid (S2 = S + Mn.cK D x i k) ∧ Hid (∃ j, wx = w.drewN j)) (fun _ kv _ => x.size + 1 - (intOf kv).toNat)
      case atStart => exact ⟨0, S, rfl, rfl, Nat.zero_le _, by omega, rfl, hdr⟩
      case round =>
        obtain ⟨k, S2, rfl, rfl, hk, hS2b, hS2, hdr2⟩ := hrel
        rename World => wx
        have d1 := cell_of hdr2.out HC.out
        obtain ⟨gq, off, rfl, hcx0⟩ := HX.out.2 i (by have := HX.out.1; omega)
        rw [HXX.out] at hcx0
        have d2 := cell_of hdr2.out hcx0
        by_cases hkx : k < x.size
        · have hkxI : (k : Int) + 1 ≤ (x.size : Int) := by omega
          have HSX : ∀ W, (Instr.slice 9 (.string x) none (some (.int .i64 ((k : Int) + 1))) none).run Try.prog W = .ok (.string (x.extract 0 (k + 1))) W := fun W => by
            have := sl0_run x (k + 1) (by omega) W
            simpa using this
          obtain ⟨X1, hX1⟩ : ∃ X1, x.extract 0 (k + 1) = X1 := ⟨_, rfl⟩
          rw [hX1] at HSX
          have HX1 := Hid.mk' hX1
          clear hX1
          go_wp2
          go_loopw [6, 7] (fun fv jv wy => ∃ j : Nat, jv = .int .i64 (j : Int) ∧ j ≤ i ∧ Hid (fv = .bool (Mn.frF D x (k + 1) j)) ∧ Hid (∃ z, wy = w.drewN z)) (fun _ jv _ => i - (intOf jv).toNat)
          case atStart => exact ⟨0, rfl, Nat.zero_le _, by simp [Hid, Mn.frF], hdr2⟩
          case round =>
            obtain ⟨j, rfl, hj, hfv, hdr3⟩ := hrel
            rename World => wy
            have e1 := cell_of hdr3.out HC.out
            have e2 := cell_of hdr3.out hcx0
            by_cases hji : j < i
            · have hjI : (j : Int) < (i : Int) := by omega
              have hjn : (j : Int) < (n : Int) := by omega
              obtain ⟨t, ht⟩ : ∃ t, D.getD j ByteArray.empty = t := ⟨_, rfl⟩
              obtain ⟨g4, o4, h4, hct⟩ := HX.out.2 j (by have := HX.out.1; omega)
              cases h4
              rw [ht] at hct
              have e3 := cell_of hdr3.out hct
              have HNX := Hid.mk' (Mn.frF_next D x (k + 1) j (by have := HX.out.1; omega))
              rw [ht, HX1.out] at HNX
              obtain ⟨f, hf⟩ : ∃ f, Mn.frF D x (k + 1) j = f := ⟨_, rfl⟩
              rw [hf] at hfv HNX
              have hfv2 := hfv.out
              subst hfv2
              clear hf hfv ht hct
              by_cases hkt : k + 1 ≤ t.size
              · have hktI : (k : Int) + 1 ≤ (t.size : Int) := by omega
                have HST : ∀ W, (Instr.slice 9 (.string t) none (some (.int .i64 ((k : Int) + 1))) none).run Try.prog W = .ok (.string (t.extract 0 (k + 1))) W := fun W => by
                  have := sl0_run t (k + 1) hkt W
                  simpa using this
                obtain ⟨T1, hT1⟩ : ∃ T1, t.extract 0 (k + 1) = T1 := ⟨_, rfl⟩
                rw [hT1] at HST HNX
                clear hT1
                by_cases hTX : T1 = X1
                · subst hTX
                  have HFF : Hid (Mn.frF D x (k + 1) (j + 1) = false) := by
                    rw [HNX.out]
                    simp [Hid, hkt]
                  go_wp2_with fail
                  go_quiet (fail)
                  go_wp2
                  go_roundw
                  case rel => exact ⟨j + 1, by simp, by omega, by rw [HFF.out]; exact rfl, by obtain ⟨z, rfl⟩ := hdr3.out; exact ⟨z + nq, by rw [World.drewN_drewN]⟩⟩
                  case measure =>
                    simp [intOf]
                    omega
                · have hne := toL_ne hTX
                  have hneB : (T1.toList == X1.toList) = false := by simp [hne]
                  have HFF : Hid (Mn.frF D x (k + 1) (j + 1) = f) := by
                    rw [HNX.out]
                    simp [Hid, hTX]
                  go_wp2_with fail
                  go_quiet (fail)
                  go_wp2
                  go_roundw
                  case rel => exact ⟨j + 1, by simp, by omega, by rw [HFF.out]; exact rfl, by obtain ⟨z, rfl⟩ := hdr3.out; exact ⟨z + nq, by rw [World.drewN_drewN]⟩⟩
                  case measure =>
                    simp [intOf]
                    omega
              · have hktI : ¬ (k : Int) + 1 ≤ (t.size : Int) := by omega
                have hktD : decide ((k : Int) + 1 ≤ (t.size : Int)) = false := decide_eq_false hktI
                have HFF : Hid (Mn.frF D x (k + 1) (j + 1) = f) := by
                  rw [HNX.out]
                  simp [Hid, hkt]
                go_wp2_with fail
                go_quiet (fail)
                go_wp2
                go_roundw
                case rel => exact ⟨j + 1, by simp, by omega, by rw [HFF.out]; exact rfl, by obtain ⟨z, rfl⟩ := hdr3.out; exact ⟨z + nq, by rw [World.drewN_drewN]⟩⟩
                case measure =>
                  simp [intOf]
                  omega
            · obtain rfl : j = i := by omega
              have hjI : ¬ (j : Int) < (j : Int) := by omega
              obtain ⟨f, hf⟩ : ∃ f, Mn.frF D x (k + 1) j = f := ⟨_, rfl⟩
              have HK : Hid (Mn.cK D x j (k + 1) = Mn.cK D x j k + if f = true then 1 else 0) := by
                rw [← hf]
                exact rfl
              rw [hf] at hfv
              have hfv2 := hfv.out
              subst hfv2
              clear hf hfv
              cases f
              · go_wp2
                go_roundw
                case rel => exact ⟨k + 1, S2, rfl, by simp, by omega, by omega, by rw [HK.out, hS2.out]; exact rfl, hdr3⟩
                case measure =>
                  simp [intOf]
                  omega
              · have hS64 : (S2 : Int) ≤ 100000 := by omega
                go_wp2
                go_roundw
                case rel => exact ⟨k + 1, S2 + 1, by simp, by simp, by omega, by omega, by rw [HK.out, hS2.out]; exact rfl, hdr3⟩
                case measure =>
                  simp [intOf]
                  omega
        · have hkxI : ¬ (k : Int) + 1 ≤ (x.size : Int) := by omega
          obtain rfl : k = x.size := by omega
          have HSN : Hid (Mn.stN D (i + 1) = S2) := by
            have e9 : Mn.stN D (i + 1) = Mn.stN D i + Mn.cK D (D.getD i ByteArray.empty) i (D.getD i ByteArray.empty).size := rfl
            rw [e9, HXX.out, hS2.out, hS.out]
            exact rfl
          go_wp2
          go_roundw
          case rel => exact ⟨i + 1, S2, rfl, by simp, by omega, HSN.out.symm, hdr2⟩
          case measure =>
            simp [intOf]
            omega
    · obtain rfl : i = n := by omega
      have hinI : ¬ (i : Int) < (i : Int) := by omega
      go_wp2
      go_ret
      refine ⟨?_, hdr.out⟩
      rw [hS.out]
      rfl
end Go.Proofs.Ytlbfnchjbpioeaa

namespace Mn
theorem bl_head (s : ByteArray) (k : Nat) : Sums.bl (s.extract 0 k) = (Sums.bl s).take k := by
  rw [Sums.bl_extract, List.drop_zero]
theorem pre_ext {x y : ByteArray} {k : Nat} (hk : k < x.size) : (Sums.bl x).take (k + 1) <+: Sums.bl y ↔ k + 1 ≤ y.size ∧ y.extract 0 (k + 1) = x.extract 0 (k + 1) := by
  have hl : ((Sums.bl x).take (k + 1)).length = k + 1 := by
    rw [List.length_take, Sums.bl_length]
    omega
  constructor
  · intro h
    have h1 := h.length_le
    rw [hl, Sums.bl_length] at h1
    refine ⟨h1, Sums.bl_inj ?_⟩
    have h2 := List.prefix_iff_eq_take.1 h
    rw [hl] at h2
    rw [bl_head, bl_head, h2]
  · rintro ⟨h1, h2⟩
    have h3 := congrArg Sums.bl h2
    rw [bl_head, bl_head] at h3
    rw [← h3]
    exact List.take_prefix _ _
theorem frF_iff (D : List ByteArray) (x : ByteArray) (k j : Nat) (hk : k < x.size) : frF D x (k + 1) j = true ↔ (Sums.bl x).take (k + 1) ∉ nsOf ((D.take j).map Sums.bl) := by
  have hne : (Sums.bl x).take (k + 1) ≠ [] := by
    intro e
    have := congrArg List.length e
    rw [List.length_take, Sums.bl_length, List.length_nil] at this
    omega
  rw [nsOf_mem]
  unfold frF
  rw [Bool.not_eq_true', List.any_eq_false]
  constructor
  · rintro h (e | ⟨z, hz, hp⟩)
    · exact hne e
    · obtain ⟨y, hy, rfl⟩ := List.mem_map.1 hz
      exact h y hy (decide_eq_true ((pre_ext hk).1 hp))
  · intro h y hy hd
    exact h (.inr ⟨_, List.mem_map.2 ⟨y, hy, rfl⟩, (pre_ext hk).2 (of_decide_eq_true hd)⟩)
theorem addP_cK (D : List ByteArray) (x : ByteArray) (i : Nat) : ∀ k, k ≤ x.size → (addP (nsOf ((D.take i).map Sums.bl)) (Sums.bl x) k).length = (nsOf ((D.take i).map Sums.bl)).length + cK D x i k
  | 0, _ => rfl
  | k + 1, hk => by
    have ih := addP_cK D x i k (by omega)
    have hin := addP_in (nsOf ((D.take i).map Sums.bl)) (Sums.bl x) k (by rw [Sums.bl_length]; omega)
    have hf := frF_iff D x k i (by omega)
    unfold addP cK
    by_cases h : (Sums.bl x).take (k + 1) ∈ nsOf ((D.take i).map Sums.bl)
    · rw [if_pos (hin.2 h), ih, if_neg (fun e => hf.1 e h)]
      rfl
    · rw [if_neg (fun e => h (hin.1 e)), List.length_append, ih, if_pos (hf.2 h)]
      rfl
theorem ns_stN (D : List ByteArray) : ∀ i, i ≤ D.length → (nsOf ((D.take i).map Sums.bl)).length = stN D i
  | 0, _ => rfl
  | i + 1, hi => by
    have ih := ns_stN D i (by omega)
    rw [List.take_add_one, List.getElem?_eq_getElem (by omega), Option.toList_some, List.map_append, List.map_cons, List.map_nil, nsOf_snoc, Sums.bl_length, addP_cK D D[i] i _ (Nat.le_refl _), ih]
    have e : D.getD i ByteArray.empty = D[i] := by
      rw [List.getD_eq_getElem?_getD, List.getElem?_eq_getElem (by omega)]
      rfl
    have e2 : stN D (i + 1) = stN D i + cK D (D.getD i ByteArray.empty) i (D.getD i ByteArray.empty).size := rfl
    rw [e2, e]
/-- the document's States and the program's -/
theorem states_same (fold : Bool) (L : List ByteArray) : stN (L.map (fd fold)) (L.map (fd fold)).length = (nsOf (wds fold L)).length := by
  have h := ns_stN (L.map (fd fold)) _ (Nat.le_refl _)
  rw [List.take_length, List.map_map] at h
  exact h.symm
end Mn

namespace Mn
/-- the number that New tells of a list that is no set -/
def badN (fold : Bool) (L : List ByteArray) (k : Nat) : Prop := ((L.length = 0 ∨ 64 < L.length) ∧ k = 0) ∨ (¬ (L.length = 0 ∨ 64 < L.length) ∧ k < L.length ∧ bad fold L k = true ∧ ∀ j, j < k → bad fold L j = false)
theorem badN_one {fold : Bool} {L : List ByteArray} {k k' : Nat} (h : badN fold L k) (h' : badN fold L k') : k = k' := by
  rcases h with ⟨h1, rfl⟩ | ⟨h1, h2, h3, h4⟩
  · rcases h' with ⟨_, rfl⟩ | ⟨h5, _⟩
    · rfl
    · exact absurd h1 h5
  · rcases h' with ⟨h5, _⟩ | ⟨_, h6, h7, h8⟩
    · exact absurd h5 h1
    · rcases Nat.lt_trichotomy k k' with h9 | h9 | h9
      · rw [h8 k h9] at h3
        cases h3
      · exact h9
      · rw [h4 k' h9] at h7
        cases h7
theorem badN_not {fold : Bool} {L : List ByteArray} {k : Nat} (h : badN fold L k) (hg : Good fold L) : False := by
  have h1 := hg.some_
  have h2 := hg.few
  rcases h with ⟨h3, _⟩ | ⟨_, h4, h5, _⟩
  · omega
  · rw [hg.none_ k h4] at h5
    cases h5
theorem bad_first {fold : Bool} {L : List ByteArray} : ∀ n, n ≤ L.length → (∀ j, j < n → bad fold L j = false) ∨ ∃ k, k < n ∧ bad fold L k = true ∧ ∀ j, j < k → bad fold L j = false
  | 0, _ => .inl (fun j hj => by omega)
  | n + 1, hn => by
    rcases bad_first (fold := fold) (L := L) n (by omega) with h | ⟨k, h1, h2, h3⟩
    · by_cases hb : bad fold L n = true
      · exact .inr ⟨n, by omega, hb, h⟩
      · refine .inl (fun j hj => ?_)
        by_cases e : j = n
        · subst e
          simpa using hb
        · exact h j (by omega)
    · exact .inr ⟨k, by omega, h2, h3⟩
theorem good_or (fold : Bool) (L : List ByteArray) : Good fold L ∨ ∃ k, badN fold L k := by
  by_cases h : L.length = 0 ∨ 64 < L.length
  · exact .inr ⟨0, .inl ⟨h, rfl⟩⟩
  · rcases bad_first (fold := fold) L.length (Nat.le_refl _) with h1 | ⟨k, h1, h2, h3⟩
    · exact .inl ⟨by omega, by omega, h1⟩
    · exact .inr ⟨k, .inr ⟨h, h1, h2, h3⟩⟩
end Mn
namespace Go.Proofs.Ytlbfnchjbpioeaa
open Go.RowKit Go.Shelf
set_option linter.unusedVariables false
theorem new_good (p : Option Addr) (cap : Nat) (L : List ByteArray) (fold : Bool) (w : World) (h : StrAt w p L) (hg : Mn.Good fold L) (hcap : L.length ≤ cap) (hcm : cap ≤ 9223372036854775807) (hsz : ∀ x ∈ L, x.size ≤ 140737488351232) :
    Calls Try.prog 9 #[.slice p L.length cap, .bool fold] w fun e w' => ∃ sb, e = .returned (.tuple #[.pointer (some ⟨sb, 0, none⟩), .int .i64 0, .int .i64 0]) ∧ ManyM w.heap.size sb (Mn.wds fold L) fold w' ∧ Below w.heap.size w w' := by
  refine (new_any p cap L fold w h hg.some_ hg.few hcap hcm (fun x hx => by have := hsz x hx; omega)).mono ?_
  rintro e w' ⟨hB, h⟩
  rcases h with ⟨k, hk, h1, _⟩ | ⟨_, sb, rfl, hm⟩
  · rw [hg.none_ k hk] at h1
    cases h1
  · exact ⟨sb, rfl, hm, hB⟩
theorem new_bad (p : Option Addr) (cap : Nat) (L : List ByteArray) (fold : Bool) (w : World) (k : Nat) (h : StrAt w p L) (hk : Mn.badN fold L k) (hl : L.length ≤ 8796093022208) (hcap : L.length ≤ cap) (hcm : cap ≤ 9223372036854775807) (hsz : ∀ x ∈ L, x.size ≤ 140737488351232) :
    Calls Try.prog 9 #[.slice p L.length cap, .bool fold] w fun e w' => e = .returned (.tuple #[.pointer none, .int .i64 70, .int .i64 (k : Int)]) ∧ Below w.heap.size w w' := by
  by_cases hf : L.length = 0 ∨ 64 < L.length
  · have hk0 : k = 0 := Mn.badN_one hk (.inl ⟨hf, rfl⟩)
    subst hk0
    refine (new_few p L.length cap fold w hf (by omega)).mono ?_
    rintro e w' ⟨rfl, rfl⟩
    exact ⟨rfl, Below.refl _ _⟩
  · refine (new_any p cap L fold w h (by omega) (by omega) hcap hcm (fun x hx => by have := hsz x hx; omega)).mono ?_
    rintro e w' ⟨hB, h⟩
    rcases h with ⟨k', h1, h2, h3, rfl⟩ | ⟨hg, _⟩
    · rw [Mn.badN_one hk (.inr ⟨hf, h1, h2, h3⟩)]
      exact ⟨rfl, hB⟩
    · exact (Mn.badN_not hk hg).elim
theorem ref_good (p : Option Addr) (cap : Nat) (L : List ByteArray) (fold : Bool) (w : World) (h : StrAt w p L) (hg : Mn.Good fold L) (hsz : ∀ x ∈ L, x.size ≤ 140737488351232) :
    Calls Try.prog 10 #[.slice p L.length cap, .bool fold] w fun e w' => ∃ g q c, e = .returned (.tuple #[.pointer (some ⟨g, 0, none⟩), .int .i64 0, .int .i64 0]) ∧ RefM w.heap.size g L.length fold L q c w w' := by
  refine (refNew_any p cap L fold w h hg.some_ hg.few hsz).mono ?_
  rintro e w' ⟨hB, h⟩
  rcases h with ⟨k, hk, h1, _⟩ | ⟨_, g, q, c, rfl, hm⟩
  · rw [hg.none_ k hk] at h1
    cases h1
  · exact ⟨g, q, c, rfl, hm⟩
theorem ref_bad (p : Option Addr) (cap : Nat) (L : List ByteArray) (fold : Bool) (w : World) (k : Nat) (h : StrAt w p L) (hk : Mn.badN fold L k) (hl : L.length ≤ 8796093022208) (hsz : ∀ x ∈ L, x.size ≤ 140737488351232) :
    Calls Try.prog 10 #[.slice p L.length cap, .bool fold] w fun e w' => e = .returned (.tuple #[.pointer none, .int .i64 70, .int .i64 (k : Int)]) ∧ Below w.heap.size w w' := by
  by_cases hf : L.length = 0 ∨ 64 < L.length
  · have hk0 : k = 0 := Mn.badN_one hk (.inl ⟨hf, rfl⟩)
    subst hk0
    refine (refNew_few p L.length cap fold w hf (by omega)).mono ?_
    rintro e w' ⟨rfl, rfl⟩
    exact ⟨rfl, Below.refl _ _⟩
  · refine (refNew_any p cap L fold w h (by omega) (by omega) hsz).mono ?_
    rintro e w' ⟨hB, h⟩
    rcases h with ⟨k', h1, h2, h3, rfl⟩ | ⟨hg, _⟩
    · rw [Mn.badN_one hk (.inr ⟨hf, h1, h2, h3⟩)]
      exact ⟨rfl, hB⟩
    · exact (Mn.badN_not hk hg).elim
/-- States of the document's set, as the program's -/
theorem refStates_good (b g n : Nat) (fold : Bool) (L : List ByteArray) (q : Option Addr) (c : Nat) (w0 w : World) (h : RefM b g n fold L q c w0 w) (hg : Mn.Good fold L) :
    Calls Try.prog 13 #[.pointer (some ⟨g, 0, none⟩)] w fun e w' => e = .returned (.int .i64 ((Mn.nsOf (Mn.wds fold L)).length : Int)) ∧ ∃ j, w' = w.drewN j := by
  have hl : n = (L.map (Mn.fd fold)).length := by rw [List.length_map]; exact h.len
  have hst := h.st
  have hat := str_at h.row hl
  rw [hl] at hst
  rw [← Mn.states_same]
  refine refStates_any g q c fold (L.map (Mn.fd fold)) w hst hat (by rw [List.length_map]; exact hg.few) ?_
  intro x hx
  obtain ⟨y, hy, rfl⟩ := List.mem_map.1 hx
  rw [Mn.fd_size]
  obtain ⟨i, hi, rfl⟩ := List.mem_iff_getElem.1 hy
  have := (hg.fits i hi).2.1
  rw [List.getD_eq_getElem?_getD, List.getElem?_eq_getElem hi] at this
  exact this
end Go.Proofs.Ytlbfnchjbpioeaa

namespace Go.Proofs.Ytlbfnchjbpioeaa
open Go.RowKit Go.Shelf
set_option linter.unusedVariables false
theorem fresh_next (out : List ByteArray) (x y : ByteArray) (k : Nat) (hk : k < out.length) (hy : out.getD k ByteArray.empty = y) : Mn.fresh out x (k + 1) = (Mn.fresh out x k && decide (y ≠ x)) := by
  unfold Mn.fresh
  rw [List.take_add_one, List.getElem?_eq_getElem hk, Option.toList_some, List.all_append, List.all_cons, List.all_nil, Bool.and_true, ← Bool.and_assoc]
  congr 1
  rw [List.getD_eq_getElem?_getD, List.getElem?_eq_getElem hk] at hy
  rw [← hy]
  rfl
theorem toL_nil : ∀ {x : ByteArray}, x = ByteArray.empty → x.toList = [] := by
  rintro x rfl
  rw [ByteArray.toList_eq]
  rfl
set_option maxRecDepth 100000 in
set_option maxHeartbeats 2000000 in
theorem fits_any (p : Option Addr) (cap : Nat) (R : List ByteArray) (fold : Bool) (w : World) (h : StrAt w p R) (hl : R.length ≤ 1125899906842624) (hs : ∀ x ∈ R, x.size ≤ 1125899906842624) :
    Calls Try.prog 17 #[.slice p R.length cap, .bool fold] w fun e w' => ∃ q c, e = .returned (.slice q (Mn.fitL fold R).length c) ∧ w'.ownsRow w.heap.size 9 1 (.slice q (Mn.fitL fold R).length c) (Mn.fitL fold R).length (strL (Mn.fitL fold R)) ∧ Below w.heap.size w w' := by
  obtain ⟨b, hb⟩ : ∃ b, w.heap.size = b := ⟨_, rfl⟩
  obtain ⟨n, hn⟩ : ∃ n, R.length = n := ⟨_, rfl⟩
  rw [hn] at hl ⊢
  rw [hb]
  have HN := Hid.mk' hn
  have HS := Hid.mk' h
  have HZ := Hid.mk' hs
  clear hn h hs
  go_enter Try.func17, Try.ntmps17
  go_wp2
  go_loopw [5, 6] (fun ov iv wr => ∃ (i : Nat) (q : Option Addr) (m c : Nat), ov = .slice q m c ∧ iv = .int .i64 (i : Int) ∧ i ≤ n ∧ m ≤ 30 ∧ Hid (m = (Mn.fitK fold R i).length) ∧ Hid (wr.ownsRow b 9 1 (.slice q m c) m (strL (Mn.fitK fold R i))) ∧ Hid (Below b w wr)) (fun _ iv _ => n - (intOf iv).toNat)
  case atStart => exact ⟨0, none, 0, 0, rfl, rfl, Nat.zero_le _, by omega, rfl, World.ownsRow_nil w b 9 1, Below.refl b w⟩
  case round =>
    obtain ⟨i, q, m, c, rfl, rfl, hi, hm, hmo, hrow, hbel⟩ := hrel
    by_cases hin : i < n
    · have hinI : (i : Int) < (n : Int) := by omega
      by_cases hm30 : m < 30
      · have hmI : (m : Int) < 30 := by omega
        obtain ⟨x, hx⟩ : ∃ x, R.getD i ByteArray.empty = x := ⟨_, rfl⟩
        have hxs : x.size ≤ 1125899906842624 := HZ.out x (by
          rw [← hx, List.getD_eq_getElem?_getD, List.getElem?_eq_getElem (by have := HN.out; omega)]
          exact List.getElem_mem _)
        have HST := Hid.mk' (HS.out.keep (by rw [hb]; exact hbel.out))
        obtain ⟨g, off, rfl, hc⟩ := HST.out i (by have := HN.out; omega)
        rw [hx] at hc
        have hNX := Mn.fitK_next fold R i (by have := HN.out; omega)
        rw [hx] at hNX
        obtain ⟨o, ho⟩ : ∃ o, Mn.fitK fold R i = o := ⟨_, rfl⟩
        rw [ho] at hmo hrow hNX
        have HNX := Hid.mk' hNX
        clear hx hNX ho
        go_upto_if 27 with fail
        go_cut [7] (fun xv wc => xv = .string (Mn.cut40 x) ∧ wc = wr)
        case first =>
          by_cases h40 : 40 < x.size
          · have h40I : (40 : Int) < (x.size : Int) := by omega
            have h40n : (40 : Int) ≤ (x.size : Int) := by omega
            go_wp2
            go_meet
            refine ⟨?_, rfl⟩
            unfold Mn.cut40
            rw [if_pos h40]
          · have h40I : ¬ (40 : Int) < (x.size : Int) := by omega
            go_wp2
            go_meet
            refine ⟨?_, rfl⟩
            unfold Mn.cut40
            rw [if_neg h40]
        case rest =>
          obtain ⟨rfl, rfl⟩ := hcut
          rename World => wr
          have h40 := Mn.cut40_size x
          obtain ⟨z, hz⟩ : ∃ z, Mn.cut40 x = z := ⟨_, rfl⟩
          rw [hz] at h40
          obtain ⟨y, hy⟩ : ∃ y, Mn.fw fold x = y := ⟨_, rfl⟩
          have hyz : Mn.fd fold z = y := by rw [← hy, ← hz]; rfl
          rw [hz]
          have HFO := Hid.mk' (fun w => fold_any z w (by omega))
          have hNX := HNX.out
          unfold Mn.fitS at hNX
          rw [hy, if_pos (by have := hmo.out; omega)] at hNX
          have HNY := Hid.mk' hNX
          have hyl : y.size ≤ 40 := by rw [← hyz, Mn.fd_size]; exact h40
          clear hNX HNX hy hz hc
          go_upto_if 30 with fail
          go_cut [7] (fun xv wc => xv = .string y ∧ Hid (Below wr.heap.size wr wc))
          case first =>
            cases fold
            · go_wp2
              go_meet
              exact ⟨by rw [← hyz]; rfl, Below.refl _ _⟩
            · go_wp2_with (first | (go_at_call 34; refine (HFO.out _).mono ?_; rintro e w4 ⟨rfl, hb4⟩; have HB4 := Hid.mk' hb4; clear hb4) | fail)
              go_meet
              exact ⟨by rw [← hyz]; rfl, HB4⟩
          case rest =>
            obtain ⟨rfl, hbc⟩ := hcut
            rename World => wc
            have hrow2 : Hid (wc.ownsRow b 9 1 (.slice q m c) m (strL o)) := mr_kept hrow.out (fun k hk => hbc.out.block k (hrow.out.lt k hk).2)
            have hbel2 : Hid (Below b w wc) := hbel.out.trans ⟨hbc.out.os, hbc.out.tape, hbc.out.output, hbc.out.size, fun k hk => hbc.out.block k (by have := hbel.out.size; omega)⟩
            have HAT := Hid.mk' (str_at hrow2.out hmo.out)
            clear hrow hbel hbc HFO hyz h40 HST
            go_upto_region 10 with fail
            go_cut [8] (fun fv wx => fv = .bool (Mn.fresh o y 0) ∧ wx = wc)
            case first =>
              have e0 : Mn.fresh o y 0 = decide (y ≠ ByteArray.empty) := by
                unfold Mn.fresh
                rw [List.take_zero, List.all_nil, Bool.and_true]
              by_cases hy0 : y = ByteArray.empty
              · have HE : Hid (Mn.fresh o y 0 = false) := by
                  rw [e0]
                  exact decide_eq_false (fun h => h hy0)
                clear e0
                subst hy0
                go_wp2
                go_meet
                exact ⟨by rw [HE.out], rfl⟩
              · have HE : Hid (Mn.fresh o y 0 = true) := by
                  rw [e0]
                  exact decide_eq_true hy0
                have hne : y.toList.isEmpty = false := by
                  cases e : y.toList with
                  | nil => exact absurd (e.trans (toL_nil rfl).symm) (toL_ne hy0)
                  | cons _ _ => rfl
                clear e0
                go_wp2
                go_meet
                exact ⟨by rw [HE.out], rfl⟩
            case rest =>
              obtain ⟨rfl, rfl⟩ := hcut
              rename World => wc
              go_wp2
              go_loopw [8, 9] (fun fv kv wi => ∃ k : Nat, kv = .int .i64 (k : Int) ∧ k ≤ m ∧ wi = wc ∧ Hid (fv = .bool (Mn.fresh o y k))) (fun _ kv _ => m - (intOf kv).toNat)
              case atStart => exact ⟨0, rfl, Nat.zero_le _, rfl, rfl⟩
              case round =>
                obtain ⟨k, rfl, hk, rfl, hfv⟩ := hrel
                rename World => wc
                by_cases hkm : k < m
                · have hkI : (k : Int) < (m : Int) := by omega
                  obtain ⟨t, ht⟩ : ∃ t, o.getD k ByteArray.empty = t := ⟨_, rfl⟩
                  obtain ⟨g3, o3, hg3, hc3⟩ := HAT.out k (by have := hmo.out; omega)
                  subst hg3
                  rw [ht] at hc3
                  have HF := Hid.mk' (fresh_next o y t k (by have := hmo.out; omega) ht)
                  obtain ⟨f, hf⟩ : ∃ f, Mn.fresh o y k = f := ⟨_, rfl⟩
                  rw [hf] at hfv HF
                  have hfv2 := hfv.out
                  subst hfv2
                  clear hf ht hfv
                  cases f
                  · go_wp2
                    go_roundw
                    case rel => exact ⟨k + 1, by simp, by omega, by trivial, by rw [HF.out]; exact rfl⟩
                    case measure =>
                      simp [intOf]
                      omega
                  · by_cases hty : t = y
                    · subst hty
                      go_wp2
                      go_roundw
                      case rel => exact ⟨k + 1, by simp, by omega, by trivial, by rw [HF.out]; simp [Hid]⟩
                      case measure =>
                        simp [intOf]
                        omega
                    · have hne := toL_ne hty
                      have hneB : (t.toList == y.toList) = false := by simp [hne]
                      go_wp2
                      go_roundw
                      case rel => exact ⟨k + 1, by simp, by omega, by trivial, by rw [HF.out]; simp [Hid, hty]⟩
                      case measure =>
                        simp [intOf]
                        omega
                · obtain rfl : k = m := by omega
                  have hkI : ¬ (k : Int) < (k : Int) := by omega
                  have hfv2 := hfv.out
                  have hfr : Mn.fresh o y k = Mn.fresh o y o.length := by rw [← hmo.out]
                  rw [hfr] at hfv2
                  obtain ⟨f, hf⟩ : ∃ f, Mn.fresh o y o.length = f := ⟨_, rfl⟩
                  rw [hf] at hfv2
                  have hNY := HNY.out
                  rw [hf] at hNY
                  have HNZ := Hid.mk' hNY
                  subst hfv2
                  clear hNY hf hfr HNY hfv
                  cases f
                  · go_wp2
                    go_roundw
                    case rel =>
                      have h1 := HNZ.out
                      simp only [Bool.false_eq_true, if_false] at h1
                      exact ⟨i + 1, q, k, c, rfl, by simp, by omega, by omega, by rw [h1]; exact hmo, by rw [h1]; exact hrow2, hbel2⟩
                    case measure =>
                      simp [intOf]
                      omega
                  · have hszw : b ≤ wc.heap.size := by have := hbel2.out.size; omega
                    obtain ⟨i1, hi1, hy0, hy1, hy2⟩ := info_parts infoSt
                    go_wp2_with (first | (refine wpList_append_own _ rfl _ _ 22 rfl b 9 i1 (.string ⟨#[]⟩) 1 16 Try.underlying22 hi1 hy0 hy1 hy2 rfl (by decide) _ _ _ rfl (hrow2.out.alloc _) ⟨wc.heap.size, 0, none⟩ 1 1 [.string y] rfl rfl (str_news _ _ rfl) (str_one _) (by unfold maxLen; omega) (by omega) (by simp only [World.size_alloc]; omega) ?_; intro v6 w6 ho6 hg6 _; obtain ⟨p6, c6, rfl⟩ := mr_shape ho6; have HO6 := Hid.mk' ho6; have HB6 := Hid.mk' (own_relS hszw hrow2.out hbel2.out hg6); clear ho6 hg6) | fail)
                    go_roundw
                    case rel =>
                      have h1 := HNZ.out
                      simp only [if_true] at h1
                      refine ⟨i + 1, p6, k + 1, c6, rfl, by simp, by omega, by omega, ?_, ?_, HB6⟩
                      · rw [h1, List.length_append, ← hmo.out]
                        exact rfl
                      · rw [h1, strL, List.map_append]
                        exact HO6
                    case measure =>
                      simp [intOf]
                      omega
      · obtain rfl : m = 30 := by omega
        have HE : Hid (Mn.fitK fold R R.length = Mn.fitK fold R i) := by
          have := Mn.fitK_full fold R i (by have := hmo.out; omega) (R.length - i) (by have := HN.out; omega)
          rw [show i + (R.length - i) = R.length by have := HN.out; omega] at this
          exact this
        have HL : Hid (Mn.fitL fold R = Mn.fitK fold R i) := by
          unfold Mn.fitL
          rw [HE.out, if_neg (by rw [← hmo.out]; decide)]
          exact rfl
        have hinI : (i : Int) < (n : Int) := by omega
        have hmI : ¬ ((30 : Nat) : Int) < 30 := by omega
        go_wp2
        go_ret
        rw [HL.out, ← hmo.out]
        exact ⟨q, c, rfl, hrow.out, hbel.out⟩
    · have hin' : i = n := by omega
      have HE : Hid (Mn.fitK fold R R.length = Mn.fitK fold R i) := by rw [HN.out, hin']; exact rfl
      have hinI : ¬ (i : Int) < (n : Int) := by omega
      clear hin'
      by_cases hm0 : m = 0
      · subst hm0
        have HL : Hid (Mn.fitL fold R = [⟨#[119]⟩]) := by
          unfold Mn.fitL
          rw [HE.out, if_pos hmo.out.symm]
          exact rfl
        have hszw : b ≤ wr.heap.size := by have := hbel.out.size; omega
        have hnil : Mn.fitK fold R i = [] := List.eq_nil_of_length_eq_zero hmo.out.symm
        rw [hnil] at hrow
        clear hnil
        obtain ⟨i1, hi1, hy0, hy1, hy2⟩ := info_parts infoSt
        go_wp2_with (first | (refine wpList_append_own _ rfl _ _ 22 rfl b 9 i1 (.string ⟨#[]⟩) 1 16 Try.underlying22 hi1 hy0 hy1 hy2 rfl (by decide) _ _ _ rfl (hrow.out.alloc _) ⟨wr.heap.size, 0, none⟩ 1 1 [.string ⟨#[119]⟩] rfl rfl (str_news _ _ rfl) (str_one _) (by unfold maxLen; omega) (by omega) (by simp only [World.size_alloc]; omega) ?_; intro v6 w6 ho6 hg6 _; obtain ⟨p6, c6, rfl⟩ := mr_shape ho6; have HO6 := Hid.mk' ho6; have HB6 := Hid.mk' (own_relS hszw hrow.out hbel.out hg6); clear ho6 hg6) | fail)
        go_ret
        rw [HL.out]
        exact ⟨p6, c6, rfl, HO6.out, HB6.out⟩
      · have hm0B : ((m : Int) == 0) = false := by simp; omega
        have HL : Hid (Mn.fitL fold R = Mn.fitK fold R i) := by
          unfold Mn.fitL
          rw [HE.out, if_neg (by rw [← hmo.out]; exact hm0)]
          exact rfl
        go_wp2
        go_ret
        rw [HL.out, ← hmo.out]
        exact ⟨q, c, rfl, hrow.out, hbel.out⟩
end Go.Proofs.Ytlbfnchjbpioeaa

namespace Mn
/-- one more is looked at -/
def lsS (frm : Int) (ln : Nat → Nat) (r : Int × Nat) (x : Nat × Nat) : Int × Nat :=
  if frm ≤ (x.1 : Int) - (ln x.2 : Int) ∧ (r.1 < 0 ∨ (x.1 : Int) - (ln x.2 : Int) < r.1 ∨ ((x.1 : Int) - (ln x.2 : Int) = r.1 ∧ r.2 < ln x.2)) then ((x.1 : Int) - (ln x.2 : Int), ln x.2) else r
def lsF (frm : Int) (ln : Nat → Nat) (l : List (Nat × Nat)) : Int × Nat := l.foldl (lsS frm ln) (-1, 0)
theorem lsF_snoc (frm : Int) (ln : Nat → Nat) (l : List (Nat × Nat)) (x : Nat × Nat) : lsF frm ln (l ++ [x]) = lsS frm ln (lsF frm ln l) x := by
  unfold lsF
  rw [List.foldl_append]
  rfl
structure LsI (frm : Int) (ln : Nat → Nat) (l : List (Nat × Nat)) (r : Int × Nat) : Prop where
  none_ : r.1 < 0 → r = (-1, 0) ∧ ∀ x ∈ l, ¬ frm ≤ (x.1 : Int) - (ln x.2 : Int)
  some_ : 0 ≤ r.1 → (∃ x ∈ l, frm ≤ (x.1 : Int) - (ln x.2 : Int) ∧ r = ((x.1 : Int) - (ln x.2 : Int), ln x.2)) ∧ ∀ x ∈ l, frm ≤ (x.1 : Int) - (ln x.2 : Int) → r.1 < (x.1 : Int) - (ln x.2 : Int) ∨ (r.1 = (x.1 : Int) - (ln x.2 : Int) ∧ ln x.2 ≤ r.2)
theorem LsI.next {frm : Int} {ln : Nat → Nat} {l : List (Nat × Nat)} {r : Int × Nat} (h : LsI frm ln l r) (x : Nat × Nat) (hx : ln x.2 ≤ x.1) : LsI frm ln (l ++ [x]) (lsS frm ln r x) := by
  unfold lsS
  by_cases hc : frm ≤ (x.1 : Int) - (ln x.2 : Int) ∧ (r.1 < 0 ∨ (x.1 : Int) - (ln x.2 : Int) < r.1 ∨ ((x.1 : Int) - (ln x.2 : Int) = r.1 ∧ r.2 < ln x.2))
  · rw [if_pos hc]
    refine ⟨fun h0 => ?_, fun h0 => ⟨⟨x, by simp, hc.1, rfl⟩, fun y hy hf => ?_⟩⟩
    · simp only at h0
      omega
    · rcases List.mem_append.1 hy with hy | hy
      · by_cases hr : r.1 < 0
        · exact absurd hf ((h.none_ hr).2 y hy)
        · have := (h.some_ (by omega)).2 y hy hf
          simp only
          omega
      · simp at hy
        subst hy
        simp
  · rw [if_neg hc]
    refine ⟨fun h0 => ⟨(h.none_ h0).1, fun y hy => ?_⟩, fun h0 => ⟨?_, fun y hy hf => ?_⟩⟩
    · rcases List.mem_append.1 hy with hy | hy
      · exact (h.none_ h0).2 y hy
      · simp at hy
        subst hy
        omega
    · obtain ⟨⟨y, h1, h2⟩, _⟩ := h.some_ h0
      exact ⟨y, by simp [h1], h2⟩
    · rcases List.mem_append.1 hy with hy | hy
      · exact (h.some_ h0).2 y hy hf
      · simp at hy
        subst hy
        omega
theorem lsF_is (frm : Int) (ln : Nat → Nat) : ∀ (l pre : List (Nat × Nat)) (r : Int × Nat), LsI frm ln pre r → (∀ x ∈ l, ln x.2 ≤ x.1) → LsI frm ln (pre ++ l) (l.foldl (lsS frm ln) r)
  | [], pre, r, h, _ => by simpa using h
  | x :: l, pre, r, h, hx => by
    have := lsF_is frm ln l (pre ++ [x]) _ (h.next x (hx x (by simp))) (fun y hy => hx y (by simp [hy]))
    simpa using this
theorem lsF_right (frm : Int) (ln : Nat → Nat) (l : List (Nat × Nat)) (hx : ∀ x ∈ l, ln x.2 ≤ x.1) : LsI frm ln l (lsF frm ln l) := by
  have := lsF_is frm ln l [] (-1, 0) ⟨fun _ => ⟨rfl, by simp⟩, fun h => by simp at h⟩ hx
  rw [List.nil_append] at this
  exact this
theorem all_occ {W : List (List Nat)} (hn : W.Nodup) {T : List Nat} {q v : Nat} (h : (q, v) ∈ allF W T) : (W.getD v []).length ≤ q ∧ Occ W T (q - (W.getD v []).length) v := by
  obtain ⟨k, h1, h2, h3⟩ := mem_all h
  obtain ⟨x, h4, h5, h6⟩ := (mem_wsuf hn _ v).1 h3
  have e : W.getD v [] = x := by rw [List.getD_eq_getElem?_getD, h4]; rfl
  have := suffix_occ (k0 := 0) h4 h6 (by omega : k + 1 ≤ T.length) (by omega) (by rw [List.drop_zero]; exact h5)
  rw [e, h1]
  exact ⟨this.2.2, this.2.1⟩
theorem occ_all {W : List (List Nat)} (hn : W.Nodup) {T : List Nat} {a v : Nat} (h : Occ W T a v) : (a + (W.getD v []).length, v) ∈ allF W T := by
  have hl := occ_len h
  have hs := occ_suffix (Nat.zero_le a) h rfl
  rw [List.drop_zero] at hs
  obtain ⟨_, h1, _, h3⟩ := occ_get h
  unfold allF allK
  rw [List.mem_flatMap]
  refine ⟨a + (W.getD v []).length - 1, by rw [List.mem_range]; omega, ?_⟩
  rw [List.mem_map]
  refine ⟨v, ?_, by show (a + (W.getD v []).length - 1 + 1, v) = _; rw [show a + (W.getD v []).length - 1 + 1 = a + (W.getD v []).length by omega]⟩
  rw [mem_wsuf hn]
  rw [show a + (W.getD v []).length - 1 + 1 = a + (W.getD v []).length by omega]
  exact ⟨_, h1, hs, h3⟩
/-- what First tells and what the law reckons -/
theorem first_ls {W : List (List Nat)} (hn : W.Nodup) {T : List Nat} {frm : Int} {p : Nat} {f : Int} (h : Fs W T frm.toNat p f) :
    (f = -1 → lsF frm (fun j => (W.getD j []).length) (allF W T) = (-1, 0)) ∧ ∀ v : Nat, f = (v : Int) → lsF frm (fun j => (W.getD j []).length) (allF W T) = ((p : Int), (W.getD v []).length) := by
  have hr := lsF_right frm (fun j => (W.getD j []).length) (allF W T) (fun x hx => (all_occ hn (q := x.1) (v := x.2) hx).1)
  obtain ⟨r, hrr⟩ : ∃ r, lsF frm (fun j => (W.getD j []).length) (allF W T) = r := ⟨_, rfl⟩
  rw [hrr] at hr ⊢
  constructor
  · intro hf
    by_cases h0 : r.1 < 0
    · exact (hr.none_ h0).1
    · obtain ⟨⟨x, h1, h2, h3⟩, _⟩ := hr.some_ (by omega)
      have h4 := all_occ hn (q := x.1) (v := x.2) h1
      exact absurd h4.2 (h.none_ hf _ _ (by omega))
  · intro v hv
    obtain ⟨h1, h2, h3⟩ := h.some_ v hv
    have hm := occ_all hn h2
    by_cases h0 : r.1 < 0
    · have := (hr.none_ h0).2 _ hm
      simp only at this
      omega
    · obtain ⟨⟨x, h4, h5, h6⟩, h7⟩ := hr.some_ (by omega)
      have h8 := all_occ hn (q := x.1) (v := x.2) h4
      have h9 := h3 _ _ (by omega) h8.2
      have h10 := h7 _ hm (by simp only; omega)
      simp only at h10
      have h11 : r.1 = (x.1 : Int) - ((W.getD x.2 []).length : Int) := by rw [h6]
      have h12 : r.2 = (W.getD x.2 []).length := by rw [h6]
      apply Prod.ext
      · simp only
        omega
      · simp only
        omega
end Mn
