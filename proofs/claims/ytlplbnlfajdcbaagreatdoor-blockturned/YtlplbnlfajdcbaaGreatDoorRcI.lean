/-
  record: Add of a Builder as a whole; Encode. Conditions: as each says.
-/
import Derived.Test.YtlplbnlfajdcbaaGreatDoorRcF
import Derived.Test.YtlplbnlfajdcbaaGreatDoorRcH
namespace Rec
open Code Sums
theorem add_bad_ {L : List Ln} {x : Ln} (h : bad x ≠ 0) : addE L x = bad x := if_pos h
theorem add_full_ {L : List Ln} {x : Ln} (h : bad x = 0) (h2 : 131072 < szF (L ++ [x])) : addE L x = 41 := by unfold addE; rw [if_neg (by omega), if_pos h2]
theorem add_ok_ {L : List Ln} {x : Ln} (h : bad x = 0) (h2 : ¬ 131072 < szF (L ++ [x])) : addE L x = 0 := by unfold addE; rw [if_neg (by omega), if_neg h2]
theorem sz_snoc (L : List Ln) (x : Ln) : szF (L ++ [x]) = (uint ((sts L).length + 1)).length + (nmF L + (uint (zig (x.1 - (sts L).getLastD 0))).length + (uint x.2.size).length) + ((txs L).length + x.2.size) := by
  unfold szF
  rw [nm_snoc, txs_snoc, List.length_append, List.length_append, bl_length, sts_len]
  rfl
end Rec
namespace Go.Proofs.YtlplbnlfajdcbaaGreatDoor
open Go.RowKit
set_option linter.unusedVariables false
theorem add_any {B g : Nat} {L : List Rec.Ln} {w : World} (h : Bdr B g L w) (x : Int) (t : ByteArray) (ht : t.size ≤ 1125899906842624) (hBs : B ≤ w.heap.size) :
    Calls Tryz.prog 50 #[.pointer (some ⟨g, 0, none⟩), .agg #[.int .i64 x, .string t]] w fun e w' => e = .returned (.int .i64 (Rec.addE L (x, t) : Int)) ∧ (Rec.addE L (x, t) ≠ 0 → Bdr B g L w') ∧ (Rec.addE L (x, t) = 0 → Bdr B g (L ++ [(x, t)]) w') ∧ Below B w w' := by
  by_cases hb : Rec.bad (x, t) = 0
  · obtain ⟨sv, ev, tv, hw⟩ := h.ex
    have hsz := h.sz
    have hlen := Rec.len_le L
    have hlast := Rec.last_le h.ok
    have hs1 : (Rec.sts L).length = L.length := Rec.sts_len L
    have he1 : ((Rec.ens 0 L).map fun n : Nat => (n : Int)).length = L.length := by rw [List.length_map, Rec.ens_len]
    have hsn := Rec.sz_snoc L (x, t)
    unfold Rec.szF at hsz
    unfold Rec.last at hlast
    have hms : Rec.MS = 253402300799999 := rfl
    rw [hms] at hlast
    by_cases hf : 131072 < Rec.szF (L ++ [(x, t)])
    · rw [Rec.add_full_ hb hf]
      refine (add_full hw x t hb (by omega) (by omega) (by omega) (by omega) hlast.1 hlast.2 _ _ rfl rfl (by rw [hsn] at hf; have := hf; simp only at this ⊢; omega)).mono ?_
      rintro e w' ⟨rfl, h1, h2⟩
      exact ⟨rfl, fun _ => ⟨⟨_, _, _, h1⟩, h.ok, h.sz⟩, fun h0 => absurd h0 (by decide), h2⟩
    · rw [Rec.add_ok_ hb hf]
      refine (add_good hw x t hb (by omega) (by omega) (by omega) (by omega) hlast.1 hlast.2 _ _ rfl rfl (by rw [hsn] at hf; have := hf; simp only at this ⊢; omega) _ _ _ rfl rfl rfl).mono ?_
      rintro e w' ⟨rfl, ⟨sv', ev', tv', h1⟩, h2⟩
      refine ⟨rfl, fun h0 => absurd rfl h0, fun _ => ⟨⟨sv', ev', tv', ?_⟩, ?_, by omega⟩, h2⟩
      · have q1 : Rec.sts (L ++ [(x, t)]) = Rec.sts L ++ [x] := Rec.sts_append L _
        have q2 : ((Rec.ens 0 (L ++ [(x, t)])).map fun n : Nat => (n : Int)) = ((Rec.ens 0 L).map fun n : Nat => (n : Int)) ++ [(((Rec.txs L).length + t.size : Nat) : Int)] := by
          rw [Rec.ens_snoc, List.map_append, Nat.zero_add]
          rfl
        have q3 : Rec.txs (L ++ [(x, t)]) = Rec.txs L ++ Sums.bl t := Rec.txs_snoc L _
        have q4 := Rec.nm_snoc L (x, t)
        have q5 : Rec.mn (L ++ [(x, t)]) = if (Rec.sts L).length = 0 then x else min (Rec.mn L) x := by
          rw [Rec.mn_snoc, hs1]
          simp only [List.length_eq_zero_iff]
        have q6 : Rec.mx (L ++ [(x, t)]) = if (Rec.sts L).length = 0 then x else max (Rec.mx L) x := by
          rw [Rec.mx_snoc, hs1]
          simp only [List.length_eq_zero_iff]
        rw [q1, q2, q3, q4, q5, q6]
        exact h1
      · intro y hy
        rcases List.mem_append.1 hy with hy | hy
        · exact h.ok y hy
        · rw [List.mem_singleton.1 hy]
          exact hb
  · rw [Rec.add_bad_ hb]
    refine (add_bad g x t w ht hb).mono ?_
    rintro e w' ⟨rfl, h1⟩
    exact ⟨rfl, fun _ => h.below h1, fun h0 => absurd h0 hb, ⟨h1.os, h1.tape, h1.output, h1.size, fun k hk => h1.block k (Nat.lt_of_lt_of_le hk hBs)⟩⟩
/-- a slice of lines -/
def LsAt (v : Value) (l : List Rec.Ln) (w : World) : Prop := ∃ a c, v = .slice a l.length c ∧ (0 < l.length → ∃ q off, a = some ⟨q, off, none⟩ ∧ q < w.heap.size ∧ ∀ i, i < l.length → w.cell? ⟨q, off + i * 2, none⟩ = some (.int .i64 (l.getD i (0, ⟨#[]⟩)).1) ∧ w.cell? ⟨q, off + i * 2 + 1, none⟩ = some (.string (l.getD i (0, ⟨#[]⟩)).2))
theorem LsAt.below {v : Value} {l : List Rec.Ln} {w w' : World} (h : LsAt v l w) (hb : Below w.heap.size w w') : LsAt v l w' := by
  obtain ⟨a, c, rfl, h1⟩ := h
  refine ⟨a, c, rfl, fun h0 => ?_⟩
  obtain ⟨q, off, rfl, hq, hc⟩ := h1 h0
  exact ⟨q, off, rfl, Nat.lt_of_lt_of_le hq hb.size, fun i hi => ⟨(hb.cell (p := ⟨q, off + i * 2, none⟩) hq).trans (hc i hi).1, (hb.cell (p := ⟨q, off + i * 2 + 1, none⟩) hq).trans (hc i hi).2⟩⟩
set_option maxHeartbeats 1000000 in
set_option maxRecDepth 100000 in
theorem encode_any (v : Value) (l : List Rec.Ln) (w : World) (h : LsAt v l w) (hl : l.length ≤ 1125899906842624) (ht : ∀ x ∈ l, x.2.size ≤ 1125899906842624) (err at_ : Nat) (A : List Rec.Ln) (hE : Rec.encG [] l = (err, at_, A)) (R : ByteArray) (hR : R = if err = 0 then nums (Rec.payF A) else ⟨#[]⟩) :
    Calls Tryz.prog 28 #[v] w fun e w' => e = .returned (.tuple #[.string R, .int .i64 (err : Int), .int .i64 (at_ : Int)]) ∧ Below w.heap.size w w' := by
  obtain ⟨a, c, rfl, h1⟩ := h
  obtain ⟨n, hn⟩ : ∃ n, n = l.length := ⟨_, rfl⟩
  have HC : Hid (∀ i, i < n → ∃ q off, a = some ⟨q, off, none⟩ ∧ q < w.heap.size ∧ w.cell? ⟨q, off + i * 2, none⟩ = some (.int .i64 (l.getD i (0, ⟨#[]⟩)).1) ∧ w.cell? ⟨q, off + i * 2 + 1, none⟩ = some (.string (l.getD i (0, ⟨#[]⟩)).2)) := fun i hi => by
    obtain ⟨q, off, rfl, hq, hc⟩ := h1 (by omega)
    exact ⟨q, off, rfl, hq, hc i (by omega)⟩
  rw [← hn]
  have HN := Hid.mk' hn
  have HE := Hid.mk' hE
  have HR := Hid.mk' hR
  clear hR
  have HT := Hid.mk' ht
  have HL : n ≤ 1125899906842624 := by omega
  clear h1 hE ht hl hn
  go_enter Tryz.func28, Tryz.ntmps28
  go_wp2_with fail
  refine (new_any w).mono ?_
  rintro e w1 ⟨rfl, hd1, hb1⟩
  have HD1 := Hid.mk' hd1
  have HB1 := Hid.mk' hb1
  clear hd1 hb1
  go_wp2_with fail
  go_loopw [12] (fun s12 wr => ∃ i : Nat, s12 = .int .i64 (i : Int) ∧ i ≤ n ∧ Rec.encG (l.take i) (l.drop i) = (err, at_, A) ∧ Bdr w.heap.size w.heap.size (l.take i) wr ∧ Below w.heap.size w wr) (fun s12 _ => n - (intOf s12).toNat)
  case atStart => exact ⟨0, rfl, by omega, HE.out, HD1.out, HB1.out⟩
  case round =>
    obtain ⟨i, rfl, hin, he, hd, hb⟩ := hrel
    have HE2 := Hid.mk' he
    have HD := Hid.mk' hd
    have HB := Hid.mk' hb
    clear he hd hb HD1 HB1
    by_cases hlt : i < n
    · obtain ⟨q, off, rfl, hq, e0, e1⟩ := HC.out i hlt
      have e0 := (HB.out.cell (p := ⟨q, off + i * 2, none⟩) hq).trans e0
      have e1 := (HB.out.cell (p := ⟨q, off + i * 2 + 1, none⟩) hq).trans e1
      have hx : l.getD i (0, ⟨#[]⟩) ∈ l := by
        rw [List.getD_eq_getElem?_getD, List.getElem?_eq_getElem (by rw [← HN.out]; exact hlt)]
        exact List.getElem_mem _
      have htx := HT.out _ hx
      obtain ⟨x, t, hxt⟩ : ∃ x t, l.getD i (0, ⟨#[]⟩) = (x, t) := ⟨_, _, rfl⟩
      rw [hxt] at e0 e1 htx
      have HDR : Hid (l.drop i = (x, t) :: l.drop (i + 1)) := by
        have hh : i < l.length := by rw [← HN.out]; exact hlt
        have e2 : l[i] = (x, t) := by
          rw [← hxt, List.getD_eq_getElem?_getD, List.getElem?_eq_getElem hh]
          rfl
        rw [← e2]
        exact List.drop_eq_getElem_cons hh
      have HTK : Hid (l.take (i + 1) = l.take i ++ [(x, t)]) := by
        have hh : i < l.length := by rw [← HN.out]; exact hlt
        have e2 : l[i] = (x, t) := by
          rw [← hxt, List.getD_eq_getElem?_getD, List.getElem?_eq_getElem hh]
          rfl
        rw [← e2]
        exact List.take_succ_eq_append_getElem hh
      have i0 : (0 : Int) ≤ (i : Int) := by omega
      have i1 : (i : Int) < (n : Int) := by omega
      have HLT := Hid.mk' hlt
      clear hx hxt hlt hin
      have HBA : Hid (Below w.heap.size w (wr.alloc (.cells #[.int .i64 x, .string t] 26))) := HB.out.alloc HB.out.size _
      have HDA : Hid (Bdr w.heap.size w.heap.size (l.take i) (wr.alloc (.cells #[.int .i64 x, .string t] 26))) := HD.out.below ((Below.refl _ _).alloc (Nat.le_refl _) _)
      have HLI : Hid ((l.take i).length = i) := by
        have hh : i ≤ l.length := by rw [← HN.out]; exact Nat.le_of_lt HLT.out
        exact List.length_take_of_le hh
      clear HB HD
      go_wp2_with fail
      refine (add_any HDA.out x t htx HBA.out.size).mono ?_
      rintro e w5 ⟨rfl, hk1, hk2, hb5⟩
      have HB5 := Hid.mk' (HBA.out.trans hb5)
      have HK1 := Hid.mk' hk1
      have HK2 := Hid.mk' hk2
      obtain ⟨E, hE⟩ : ∃ E, E = Rec.addE (l.take i) (x, t) := ⟨_, rfl⟩
      rw [← hE]
      have HEE := Hid.mk' hE
      have HX := HE2.out
      rw [HDR.out, Rec.encG] at HX
      have HEX := Hid.mk' HX
      clear hk1 hk2 hb5 HBA HDA e0 e1 HX hE
      by_cases h0 : E = 0
      · have h0' : (E : Int) = 0 := by omega
        have HZ := Hid.mk' h0
        clear h0
        go_wp2_with fail
        go_roundw
        case rel =>
          have hz : Rec.addE (l.take i) (x, t) = 0 := by rw [← HEE.out]; exact HZ.out
          have hx := HEX.out
          rw [if_pos hz, ← HTK.out] at hx
          refine ⟨i + 1, by go_num, HLT.out, hx, ?_, HB5.out⟩
          rw [HTK.out]
          exact HK2.out hz
        case measure => have := HLT.out; simp [intOf]; omega
      · have h0' : ¬ (E : Int) = 0 := by omega
        have HZ := Hid.mk' h0
        clear h0
        go_wp2_with fail
        go_ret3
        have hx := HEX.out
        rw [if_neg (by rw [← HEE.out]; exact HZ.out)] at hx
        simp only [Prod.mk.injEq] at hx
        have q1 : err = E := by rw [HEE.out]; exact hx.1.symm
        have q2 : at_ = i := by rw [← hx.2.1]; exact HLI.out
        have q3 : R = ⟨#[]⟩ := by rw [HR.out, if_neg (by rw [q1]; exact HZ.out)]
        exact ⟨ret_tup3 (by rw [q3]; rfl) (by rw [q1]; rfl) (by rw [q2]; rfl), HB5.out⟩
    · obtain rfl : i = n := by omega
      have htk : l.take i = l := List.take_of_length_le (by rw [← HN.out]; exact Nat.le_refl _)
      have hdr : l.drop i = [] := List.drop_of_length_le (by rw [← HN.out]; exact Nat.le_refl _)
      have hx := HE2.out
      rw [htk, hdr, Rec.encG] at hx
      simp only [Prod.mk.injEq] at hx
      have HD2 := HD.out
      rw [htk] at HD2
      have HDD := Hid.mk' HD2
      have HX := Hid.mk' hx
      clear HD2 hx htk hdr HD hlt hin
      go_wp2_with fail
      refine (bytes_any HDD.out).mono ?_
      rintro e w5 ⟨rfl, hb5⟩
      have HB5 := Hid.mk' (HB.out.trans ⟨hb5.os, hb5.tape, hb5.output, hb5.size, fun k hk => hb5.block k (Nat.lt_of_lt_of_le hk HB.out.size)⟩)
      clear hb5 HB
      go_wp2_with fail
      go_ret3
      have q3 : R = nums (Rec.payF l) := by rw [HR.out, if_pos HX.out.1.symm, HX.out.2.2]
      exact ⟨ret_tup3 (by rw [q3]; rfl) (by rw [← HX.out.1]; rfl) (by rw [← HX.out.2.1]; rfl), HB5.out⟩
end Go.Proofs.YtlplbnlfajdcbaaGreatDoor
