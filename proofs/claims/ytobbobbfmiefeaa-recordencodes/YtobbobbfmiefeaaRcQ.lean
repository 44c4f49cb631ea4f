/-
  The laws' own pick and may. Conditions: as each says.
-/
import Derived.Test.YtobbobbfmiefeaaRcP
import Derived.Deep.CutBlock
import Derived.Deep.DeepCutAuto
namespace Rec
open Code Sums
theorem ix_snoc (c b : UInt8) : ∀ (l : List UInt8), Go.Lib.indexByte l c < 0 → (b == c) = false → Go.Lib.indexByte (l ++ [b]) c < 0
  | [], _, hb => by
    show (if (b == c) = true then (0 : Int) else if ((-1 : Int) == -1) = true then -1 else -1 + 1) < 0
    rw [hb]
    decide
  | x :: l, h, hb => by
    rw [List.cons_append]
    unfold Go.Lib.indexByte at h ⊢
    split at h
    · omega
    · rename_i h1
      rw [if_neg h1]
      have hg := Go.Lib.indexByte_ge l c
      have hl : Go.Lib.indexByte l c < 0 := by
        split at h
        · rename_i h2
          have : Go.Lib.indexByte l c = -1 := by simpa using h2
          omega
        · omega
      have h3 := ix_snoc c b l hl hb
      have hg3 := Go.Lib.indexByte_ge (l ++ [b]) c
      have h4 : Go.Lib.indexByte (l ++ [b]) c = -1 := by omega
      rw [h4]
      decide
theorem ext_snoc (t : ByteArray) (k : Nat) (h : k < t.size) : (t.extract 0 (k + 1)).data.toList = (t.extract 0 k).data.toList ++ [t[k]] := by
  rw [ByteArray.data_extract, ByteArray.data_extract, Array.toList_extract, Array.toList_extract, List.extract_eq_take_drop, List.extract_eq_take_drop, List.drop_zero, Nat.sub_zero, Nat.sub_zero]
  have hl : k < t.data.toList.length := by simpa using h
  rw [List.take_succ_eq_append_getElem hl]
  rfl
theorem nl_next (t : ByteArray) (k : Nat) (h : k < t.size) (h1 : nl (t.extract 0 k) < 0) (h2 : t[k].toNat ≠ 10) : nl (t.extract 0 (k + 1)) < 0 := by
  unfold nl at h1 ⊢
  rw [ext_snoc t k h]
  refine ix_snoc 10 _ _ h1 ?_
  simp only [beq_eq_false_iff_ne, ne_eq]
  intro e
  exact h2 (by rw [e]; rfl)
theorem nl_nil : nl ⟨#[]⟩ < 0 := by decide
/-- how much lines may have: their texts, and 12 for each -/
def wt : List Ln → Nat
  | [] => 0
  | x :: l => x.2.size + 12 + wt l
theorem wt_append : ∀ (a b : List Ln), wt (a ++ b) = wt a + wt b
  | [], b => by simp [wt]
  | x :: a, b => by
    rw [List.cons_append, wt, wt_append a b, wt]
    omega
theorem sz_wt : ∀ (l : List Ln) (p : Int), 0 ≤ p → p ≤ MS → (∀ x ∈ l, bad x = 0) → (stN p (sts l)).length + (lnN (lns l)).length + (txs l).length + 3 * l.length ≤ wt l
  | [], p, _, _, _ => by simp [stN, sts, lnN, lns, txs, wt]
  | x :: l, p, h0, h1, hl => by
    have hx := bad_le (hl x (List.mem_cons_self ..))
    have hms : MS = 253402300799999 := rfl
    have ih := sz_wt l x.1 hx.2.2.1 hx.2.2.2 (fun y hy => hl y (List.mem_cons_of_mem _ hy))
    have hz : zig (x.1 - p) < 562949953421312 := by
      unfold zig
      split <;> omega
    have l1 := enc_len 6 10 (zig (x.1 - p)) (by omega)
    have l2 := enc_len 1 10 x.2.size (by omega)
    have e1 : stN p (sts (x :: l)) = uint (zig (x.1 - p)) ++ stN x.1 (sts l) := rfl
    have e2 : lnN (lns (x :: l)) = uint x.2.size ++ lnN (lns l) := rfl
    have e3 : txs (x :: l) = bl x.2 ++ txs l := rfl
    have e4 : wt (x :: l) = x.2.size + 12 + wt l := rfl
    rw [e1, e2, e3, e4, List.length_append, List.length_append, List.length_append, bl_length, List.length_cons]
    unfold uint
    omega
theorem sz_may (l : List Ln) (h : ∀ x ∈ l, bad x = 0) (hl : l.length ≤ 2000) (hw : wt l ≤ 131062) : szF l ≤ 131072 := by
  have h1 := sz_wt l 0 (by decide) (by decide) h
  have h2 := enc_len 1 10 l.length (by omega)
  unfold szF nmF uint
  omega
end Rec
namespace Go.Proofs.Ytobbobbfmiefeaa
open Go.RowKit
set_option linter.unusedVariables false
theorem pick_any (c : Int) (k : Nat) (w : World) (h0 : -9223372036854775808 ≤ c) (h1 : c ≤ 9223372036854775807) (hk : 1 ≤ k) (hkb : k ≤ 9223372036854775807) :
    Calls Try.prog 14 #[.int .i64 c, .int .i64 (k : Int)] w fun e w' => (∃ z : Nat, z < k ∧ e = .returned (.int .i64 (z : Int))) ∧ w' = w := by
  have hk0 : ¬ (k : Int) = 0 := by omega
  have hk1 : 1 ≤ (k : Int) := by omega
  by_cases hc : c < 0
  · obtain ⟨d, hd⟩ : ∃ d : Nat, -(c + 1) = (d : Int) := ⟨(-(c + 1)).toNat, by omega⟩
    have hdb : (d : Int) ≤ 9223372036854775807 := by omega
    obtain ⟨z, hz⟩ : ∃ z, d % k = z := ⟨_, rfl⟩
    have hzk : z < k := by rw [← hz]; exact Nat.mod_lt _ (by omega)
    have hm : (d : Int) % (k : Int) = (z : Int) := by rw [← hz]; simp
    have HZ := Hid.mk' hzk
    clear hz hzk
    go_enter Try.func14, Try.ntmps14
    go_wp2
    go_ret
    exact ⟨⟨z, HZ.out, ret_int (by first | exact hm | rfl)⟩, rfl⟩
  · obtain ⟨d, rfl⟩ := Int.eq_ofNat_of_zero_le (show 0 ≤ c by omega)
    obtain ⟨z, hz⟩ : ∃ z, d % k = z := ⟨_, rfl⟩
    have hzk : z < k := by rw [← hz]; exact Nat.mod_lt _ (by omega)
    have hm : (d : Int) % (k : Int) = (z : Int) := by rw [← hz]; simp
    have HZ := Hid.mk' hzk
    clear hz hzk
    go_enter Try.func14, Try.ntmps14
    go_wp2
    go_ret
    exact ⟨⟨z, HZ.out, rfl⟩, rfl⟩
/-- what may answers: lines that may be -/
def MayP (w : World) (e : Ending) (w' : World) : Prop :=
  ∃ v M, e = .returned v ∧ w'.ownsRow w.heap.size 24 2 v M.length (lnV M) ∧ (∀ x ∈ M, Rec.bad x = 0) ∧ M.length ≤ 2000 ∧ Rec.wt M ≤ 131062 ∧ Below w.heap.size w w'
set_option maxHeartbeats 2000000 in
set_option maxRecDepth 100000 in
theorem may_any (v : Value) (l : List Rec.Ln) (w : World) (h : LsAt v l w) (hl : l.length ≤ 140737488351232) (ht : ∀ x ∈ l, x.2.size ≤ 140737488351232 ∧ -9223372036854775808 ≤ x.1 ∧ x.1 ≤ 9223372036854775807) :
    Calls Try.prog 25 #[v] w fun e w' => MayP w e w' := by
  obtain ⟨i0, hi, hz0, hz1, hz2⟩ := info_parts infoLn
  obtain ⟨a, c, rfl, h1⟩ := h
  obtain ⟨n, hn⟩ : ∃ n, n = l.length := ⟨_, rfl⟩
  have HC : Hid (∀ i, i < n → ∃ q off x T, a = some ⟨q, off, none⟩ ∧ q < w.heap.size ∧ w.cell? ⟨q, off + i * 2, none⟩ = some (.int .i64 x) ∧ w.cell? ⟨q, off + i * 2 + 1, none⟩ = some (.string T) ∧ T.size ≤ 140737488351232 ∧ -9223372036854775808 ≤ x ∧ x ≤ 9223372036854775807) := fun i hi => by
    obtain ⟨q, off, rfl, hq, hc⟩ := h1 (by omega)
    have hx : l.getD i (0, ⟨#[]⟩) ∈ l := by
      rw [List.getD_eq_getElem?_getD, List.getElem?_eq_getElem (by rw [← hn]; exact hi)]
      exact List.getElem_mem _
    exact ⟨q, off, _, _, rfl, hq, (hc i (by omega)).1, (hc i (by omega)).2, ht _ hx⟩
  rw [← hn]
  have hnb : n ≤ 140737488351232 := by omega
  clear h1 ht hl hn
  go_enter Try.func25, Try.ntmps25
  go_wp2_with fail
  go_loopw [3, 4, 5] (fun s3 s4 s5 wr => ∃ (i : Nat) (M : List Rec.Ln), s5 = .int .i64 (i : Int) ∧ i ≤ n ∧ i ≤ 2000 ∧ s4 = .int .i64 (Rec.wt M : Int) ∧ M.length = i ∧ (∀ x ∈ M, Rec.bad x = 0) ∧ Rec.wt M ≤ 131062 ∧ wr.ownsRow w.heap.size 24 2 s3 M.length (lnV M) ∧ Below w.heap.size w wr) (fun _ _ s5 _ => n - (intOf s5).toNat)
  case atStart => exact ⟨0, [], rfl, by omega, by omega, rfl, rfl, by simp, by decide, World.ownsRow_nil _ _ _ _, Below.refl _ _⟩
  case round =>
    obtain ⟨i, M, rfl, hin, hi2, rfl, hM, hok, hwt, hown, hb⟩ := hrel
    have HOK := Hid.mk' hok
    have HOWN := Hid.mk' hown
    have HB := Hid.mk' hb
    have HM := Hid.mk' hM
    obtain ⟨b3, c3, rfl⟩ := row_shape hown
    clear hok hown hb
    obtain ⟨N, hN⟩ : ∃ N, N = Rec.wt M := ⟨_, rfl⟩
    rw [← hN] at hwt ⊢
    have HN := Hid.mk' hN
    clear hN hM
    by_cases hlt : i < n ∧ i < 2000
    · obtain ⟨hlt, hlt2⟩ := hlt
      obtain ⟨q, off, x, T, rfl, hq, e0, e1, hT, hx0, hx1⟩ := HC.out i hlt
      have e0 := (HB.out.cell (p := ⟨q, off + i * 2, none⟩) hq).trans e0
      have e1 := (HB.out.cell (p := ⟨q, off + i * 2 + 1, none⟩) hq).trans e1
      have j0 : (0 : Int) ≤ (i : Int) := by omega
      have j1 : (i : Int) < (n : Int) := by omega
      have j2 : (i : Int) < 2000 := by omega
      have HLT := Hid.mk' (And.intro hlt hlt2)
      have HQ := Hid.mk' hq
      have HE := Hid.mk' e1
      clear hlt hlt2 hin hi2
      go_wp2_with fail
      refine (pick_any x 253402300800000 _ hx0 hx1 (by decide) (by decide)).mono ?_
      rintro e w' ⟨⟨z, hz, rfl⟩, hw'⟩
      subst hw'
      have HZ := Hid.mk' hz
      clear hz
      have HK0 : Hid ((w'.alloc (.cells #[.int .i64 (z : Int), .string ⟨#[]⟩] 24)).heap[w'.heap.size]? = some (.cells #[.int .i64 (z : Int), .string ⟨#[]⟩] 24 (0, 0)) ∧ Below w'.heap.size w' (w'.alloc (.cells #[.int .i64 (z : Int), .string ⟨#[]⟩] 24))) := ⟨heap_alloc_new w' _, (Below.refl _ _).alloc (Nat.le_refl _) _⟩
      have HQ2 : Hid (q < w'.heap.size) := Nat.lt_of_lt_of_le HQ.out HB.out.size
      go_upto_block 2 with fail
      go_cut [7] (fun s7 wx => ∃ t : ByteArray, Hid (t.size ≤ 8192 ∧ Rec.nl t < 0 ∧ wx.heap[w'.heap.size]? = some (.cells #[.int .i64 (z : Int), .string t] 24 (0, 0)) ∧ Below w'.heap.size w' wx))
      case first =>
        go_wp2_with fail
        go_loopw [7] (fun s7 wx => ∃ k : Nat, s7 = .int .i64 (k : Int) ∧ k ≤ T.size ∧ k ≤ 8192 ∧ Hid (Rec.nl (T.extract 0 k) < 0 ∧ wx.heap[w'.heap.size]? = some (.cells #[.int .i64 (z : Int), .string (T.extract 0 k)] 24 (0, 0)) ∧ Below w'.heap.size w' wx)) (fun s7 _ => T.size - (intOf s7).toNat)
        case atStart =>
          refine ⟨0, rfl, by omega, by omega, ?_⟩
          have e : T.extract 0 0 = ⟨#[]⟩ := empty_of_size (by rw [ByteArray.size_extract]; omega)
          rw [e]
          exact ⟨Rec.nl_nil, HK0.out.1, HK0.out.2⟩
        case round =>
          obtain ⟨k, rfl, hkT, hk8, HX⟩ := hrel
          rename World => wx
          have HSZ : Hid ((T.extract 0 k).size ≤ 8192) := by unfold Hid; rw [ByteArray.size_extract]; omega
          have g1 : wx.cell? ⟨q, off + i * 2 + 1, none⟩ = some (.string T) := (HX.out.2.2.cell (p := ⟨q, off + i * 2 + 1, none⟩) HQ2.out).trans e1
          have k0 : (0 : Int) ≤ (k : Int) := by omega
          by_cases hk1 : k < T.size
          · have hk1' : (k : Int) < (T.size : Int) := by omega
            by_cases hk2 : k < 8192
            · have hk2' : (k : Int) < 8192 := by omega
              obtain ⟨m, hm⟩ : ∃ m, m = T[k].toNat := ⟨_, rfl⟩
              have hidx : ∀ W, (Instr.index 9 (.string T) (.int .i64 (k : Int))).run Try.prog W = .ok (.int .u8 (m : Int)) W := fun W => by
                rw [run_index_string W 9 T .i64 (k : Int) Try.underlying9, dif_pos ⟨k0, hk1'⟩, hm]
                rfl
              have HMM : Hid (∃ h : k < T.size, m = (T[k]'h).toNat) := ⟨hk1, hm⟩
              have HKK := Hid.mk' (And.intro hk1 hk2)
              by_cases h10 : m = 10
              · have h10' : ((m : Int) == 10) = true := by simp; omega
                clear hm hk1 hk2 hkT hk8
                subst h10
                go_wp2_with fail
                go_meet
                exact ⟨_, HSZ.out, HX.out.1, HX.out.2.1, HX.out.2.2⟩
              · have h10' : ((m : Int) == 10) = false := by simp; omega
                have H10 := Hid.mk' h10
                have hsl : ∀ W, (Instr.slice 9 (.string T) none (some (.int .i64 ((k : Int) + 1))) none).run Try.prog W = .ok (.string (T.extract 0 (k + 1))) W := fun W => by
                  rw [run_slice_string_h W 9 T Try.underlying9 .i64 ((k : Int) + 1) (by omega) (by omega)]
                  rfl
                have gb1 : wx.cell? ⟨w'.heap.size, 1, none⟩ = some (.string (T.extract 0 k)) := by rw [Lib.cell_of_heap HX.out.2.1]; rfl
                have gf1 : wx.frozen? ⟨w'.heap.size, 1, none⟩ = false := Lib.frozen_of_heap HX.out.2.1 1
                obtain ⟨t1, ht1⟩ : ∃ t1, t1 = T.extract 0 (k + 1) := ⟨_, rfl⟩
                rw [← ht1] at hsl
                have HT1 := Hid.mk' ht1
                clear hm hk1 hk2 hkT hk8 h10 ht1
                go_wp2_with fail
                go_roundw
                case rel =>
                  refine ⟨k + 1, by go_num, HKK.out.1, HKK.out.2, ?_, ?_, ?_⟩
                  · obtain ⟨hh, em⟩ := HMM.out
                    exact Rec.nl_next T k hh HX.out.1 (by rw [← em]; exact H10.out)
                  · rw [← HT1.out]
                    exact setc_at HX.out.2.1 1 (.string t1)
                  · exact HX.out.2.2.setCell (p := ⟨w'.heap.size, 1, none⟩) (Nat.le_refl _) _
                case measure => have := HKK.out.1; simp [intOf]; omega
            · have hk2' : ¬ (k : Int) < 8192 := by omega
              clear hk1 hk2 hkT hk8
              go_wp2_with fail
              go_meet
              exact ⟨_, HSZ.out, HX.out.1, HX.out.2.1, HX.out.2.2⟩
          · have hk1' : ¬ (k : Int) < (T.size : Int) := by omega
            clear hk1 hkT hk8
            go_wp2_with fail
            go_meet
            exact ⟨_, HSZ.out, HX.out.1, HX.out.2.1, HX.out.2.2⟩
      case rest =>
        obtain ⟨t, HX⟩ := hcut
        rename World => wx
        have ht8 := HX.out.1
        have c0 : wx.cell? ⟨w'.heap.size, 0, none⟩ = some (.int .i64 (z : Int)) := by rw [Lib.cell_of_heap HX.out.2.2.1]; rfl
        have c1 : wx.cell? ⟨w'.heap.size, 1, none⟩ = some (.string t) := by rw [Lib.cell_of_heap HX.out.2.2.1]; rfl
        have HBX : Hid (Below w.heap.size w wx) := below_up HB.out HX.out.2.2.2 (Nat.le_refl _)
        have hrow : wx.ownsRow w.heap.size 24 2 (.slice b3 M.length c3) M.length (lnV M) := row_kept HOWN.out fun k hk => HX.out.2.2.2.block k (HOWN.out.lt k hk).2
        have hszx : w.heap.size ≤ wx.heap.size := HBX.out.size
        have hMi : M.length ≤ 2000 := by have := HM.out; have := HLT.out.2; omega
        have HBAD : Hid (Rec.bad ((z : Int), t) = 0) := by
          have hz := HZ.out
          have hn := HX.out.2.1
          unfold Hid Rec.bad
          rw [if_neg (by show ¬ (8192 < t.size ∨ 0 ≤ Rec.nl t); omega), if_neg (by show ¬ ((z : Int) < 0 ∨ 253402300799999 < (z : Int)); omega)]
        clear e0 e1 HOWN HB
        by_cases hbig : 131062 < N + t.size + 12
        · have hbig' : (131062 : Int) < (N : Int) + (t.size : Int) + 12 := by omega
          clear hbig
          go_wp2_with fail
          go_ret
          exact ⟨_, M, rfl, hrow, HOK.out, hMi, by rw [← HN.out]; exact hwt, HBX.out⟩
        · have hbig' : ¬ (131062 : Int) < (N : Int) + (t.size : Int) + 12 := by omega
          have HBG := Hid.mk' hbig
          clear hbig
          go_wp2_with (first | (at_builtin; refine wpList_append_own _ rfl _ _ 22 rfl w.heap.size 24 i0 _ 2 24 Try.underlying22 hi hz0 hz1 hz2 rfl (by decide) _ _ _ rfl (hrow.alloc _) ⟨_, 0, none⟩ 1 1 [.int .i64 (z : Int), .string t] rfl rfl (World.news_of_block (cs := #[.int .i64 (z : Int), .string t]) (t := 24) (fr := (0, 0)) (heap_alloc_new _ _)) (ln_one (z : Int) t) (by unfold maxLen; omega) (by omega) (by simp; omega) ?_; intro v' w3 hown' hgrow _; have hg' : (wx.alloc (.cells #[.int .i64 (z : Int), .string t] 24)).grownBy w3 (Value.slice b3 M.length c3).ownBlock := hgrow; have HOW := Hid.mk' hown'; have HB3 : Hid (Below w.heap.size w w3) := (HBX.out.alloc HBX.out.size _).grown hg' (by simp; omega) (fun k hk => (hrow.lt k hk).1); clear hown' hgrow hg') | fail)
          go_roundw
          case rel =>
            have hl2 : (M ++ [((z : Int), t)]).length = i + 1 := by rw [List.length_append, HM.out]; rfl
            have hl3 : (M ++ [((z : Int), t)]).length = M.length + 1 := by rw [List.length_append]; rfl
            have hwt2 : Rec.wt (M ++ [((z : Int), t)]) = N + t.size + 12 := by rw [Rec.wt_append, ← HN.out]; simp [Rec.wt]; omega
            refine ⟨i + 1, M ++ [((z : Int), t)], by go_num, HLT.out.1, HLT.out.2, ?_, hl2, ?_, by rw [hwt2]; have := HBG.out; omega, ?_, HB3.out⟩
            · rw [hwt2]
              go_num
            · intro y hy
              rcases List.mem_append.1 hy with hy | hy
              · exact HOK.out y hy
              · rw [List.mem_singleton.1 hy]
                exact HBAD.out
            · rw [hl3, lnV_append]
              exact HOW.out
          case measure => have := HLT.out.1; simp [intOf]; omega
    · have HLM := Hid.mk' hi2
      have HNW := Hid.mk' hwt
      by_cases h1 : i < n
      · have j1 : (i : Int) < (n : Int) := by omega
        have j2 : ¬ (i : Int) < 2000 := by omega
        clear hlt h1 hin hi2
        go_wp2_with fail
        go_ret
        exact ⟨_, M, rfl, HOWN.out, HOK.out, by rw [HM.out]; exact HLM.out, by rw [← HN.out]; exact HNW.out, HB.out⟩
      · have j1 : ¬ (i : Int) < (n : Int) := by omega
        clear hlt h1 hin hi2
        go_wp2_with fail
        go_ret
        exact ⟨_, M, rfl, HOWN.out, HOK.out, by rw [HM.out]; exact HLM.out, by rw [← HN.out]; exact HNW.out, HB.out⟩
end Go.Proofs.Ytobbobbfmiefeaa
