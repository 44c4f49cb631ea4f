/-
  record: a Builder's text. Conditions: as it says.
-/
import Derived.Test.YtlplbnlfajdcbaaGreatDoorRcE
namespace Rec
open Code Sums
theorem ens_at : ∀ (l : List Ln) (a n : Nat), n < l.length → (ens a l).getD n 0 = a + (txs (l.take (n + 1))).length
  | [], a, n, h => by simp at h
  | x :: l, a, 0, h => by simp [ens, txs, bl_length]
  | x :: l, a, n + 1, h => by
    rw [ens, List.getD_cons_succ, ens_at l _ n (by simpa using h), List.take_succ_cons, txs, List.length_append, bl_length]
    omega
def txt (l : List Ln) (n : Nat) : ByteArray := (l.getD n (0, ⟨#[]⟩)).2
theorem txs_at (l : List Ln) (n : Nat) (h : n < l.length) : txs (l.take (n + 1)) = txs (l.take n) ++ bl (txt l n) := by
  rw [List.take_succ_eq_append_getElem h, txs_append, txs, txs, List.append_nil]
  unfold txt
  rw [List.getD_eq_getElem?_getD, List.getElem?_eq_getElem h]
  rfl
theorem txs_split (l : List Ln) (n : Nat) : txs l = txs (l.take n) ++ txs (l.drop n) := by
  rw [← txs_append, List.take_append_drop]
end Rec
namespace Go.Proofs.YtlplbnlfajdcbaaGreatDoor
open Go.RowKit
set_option linter.unusedVariables false
theorem ensI_at (L : List Rec.Ln) (n : Nat) (h : n < L.length) : ((Rec.ens 0 L).map fun n : Nat => (n : Int)).getD n 0 = ((Rec.txs (L.take (n + 1))).length : Int) := by
  have h1 := Rec.ens_at L 0 n h
  have h2 := Rec.ens_len L 0
  rw [List.getD_eq_getElem?_getD, List.getElem?_map, List.getElem?_eq_getElem (show n < (Rec.ens 0 L).length by omega)]
  rw [List.getD_eq_getElem?_getD, List.getElem?_eq_getElem (show n < (Rec.ens 0 L).length by omega)] at h1
  simp only [Option.getD_some, Option.map_some] at h1 ⊢
  omega
set_option maxHeartbeats 1000000 in
set_option maxRecDepth 100000 in
theorem text_any {B g : Nat} {S E : List Int} {T : List Nat} {sv ev tv : Value} {nu mi ma : Int} {w : World} (h : Bw B g S E T sv ev tv nu mi ma w) (n lo hi : Nat) (hn : n < E.length) (hE : E.length ≤ 1048576) (hT : T.length ≤ 1048576) (h1 : E.getD n 0 = (hi : Int)) (h2 : n = 0 → lo = 0) (h3 : 0 < n → E.getD (n - 1) 0 = (lo : Int)) (h4 : lo ≤ hi) (h5 : hi ≤ T.length) :
    Calls Tryz.prog 89 #[.pointer (some ⟨g, 0, none⟩), .int .i64 (n : Int)] w fun e w' => (∃ a, e = .returned (.slice a (hi - lo) (hi - lo)) ∧ (lo < hi → ∃ q c, tv = .slice (some ⟨q, 0, none⟩) T.length c ∧ a = some ⟨q, lo, none⟩)) ∧ ∃ k, w' = w.drewN k := by
  obtain ⟨a1, cp1, rfl⟩ := row_shape h.he
  obtain ⟨q1, rfl, _, _, hcell⟩ := row_some h.he (by omega)
  obtain ⟨a2, cp2, HV, hcap, HQ⟩ : ∃ a2 cp2, Hid (tv = .slice a2 T.length cp2) ∧ T.length ≤ cp2 ∧ Hid (0 < T.length → ∃ q, a2 = some ⟨q, 0, none⟩) := by
    rcases h.ht.2 with ⟨rfl, h0⟩ | ⟨q, cap, cur, rfl, _, _, hcp, _⟩
    · exact ⟨none, 0, by rw [h0]; rfl, by omega, fun h => by omega⟩
    · exact ⟨_, cap, rfl, hcp, fun _ => ⟨q, rfl⟩⟩
  obtain ⟨a3, HA3⟩ : ∃ a3, Hid (a3 = if hi = lo then a2 else a2.map (·.add (lo * 1))) := ⟨_, rfl⟩
  have hsl : ∀ W, (Instr.slice 52 (.slice a2 T.length cp2) (some (.int .i64 (lo : Int))) (some (.int .i64 (hi : Int))) (some (.int .i64 (hi : Int)))).run Tryz.prog W = .ok (.slice a3 (hi - lo) (hi - lo)) W := by
    intro W
    obtain ⟨i0, hi0, _, hz1, _⟩ := info_parts infoB
    have he5 : Tryz.prog.elem 52 = 5 := by kernel_rfl
    rw [run_slice_lhm W 52 a2 T.length cp2 (by rw [he5]; exact Tryz.underlying52) .i64 .i64 .i64 (lo : Int) (hi : Int) (hi : Int) (by omega) (by omega) (by omega) (by omega), he5]
    have hsz : (sizeOf 5).run Tryz.prog W = .ok 1 W := by simp [sizeOf, typeInfo, hi0, hz1]
    rw [hsz, HA3.out]
    simp [Result.andThen, sliced]
  have e1 : w.cell? ⟨g, 1, none⟩ = some (.slice (some ⟨q1, 0, none⟩) E.length cp1) := by rw [h.cell]; rfl
  have e2 : w.cell? ⟨g, 2, none⟩ = some (.slice a2 T.length cp2) := by rw [h.cell, ← HV.out]; rfl
  have e3 : w.cell? ⟨q1, n, none⟩ = some (.int .i64 (hi : Int)) := by rw [hcell n hn, h1]
  have HF : Hid (lo < hi → ∃ q c, tv = .slice (some ⟨q, 0, none⟩) T.length c ∧ a3 = some ⟨q, lo, none⟩) := by
    intro hlt
    obtain ⟨q, hq⟩ := HQ.out (by omega)
    refine ⟨q, cp2, by rw [HV.out, hq], ?_⟩
    rw [HA3.out, if_neg (by omega), hq]
    by_cases h0 : lo = 0
    · simp [Addr.add, h0]
    · simp [Addr.add, h0]
  have he4 : 0 < n → w.cell? ⟨q1, n - 1, none⟩ = some (.int .i64 (lo : Int)) := fun hp => by rw [hcell (n - 1) (by omega), h3 hp]
  have hnb : n ≤ 1048576 := by omega
  obtain ⟨EL, hEL⟩ : ∃ EL, EL = E.length := ⟨_, rfl⟩
  rw [← hEL] at e1 hn
  have HLH := Hid.mk' h4
  have HHT := Hid.mk' h5
  clear h h1 hcap HA3 HQ HV h4 h5 hE hT hEL
  generalize hi - lo = d at *
  by_cases hz : n = 0
  · obtain rfl := h2 hz
    subst hz
    have i1 : (0 : Int) < (EL : Int) := by omega
    have hsl' := hsl
    simp only [Int.natCast_zero] at hsl'
    clear h2 h3 hcell he4
    go_enter Tryz.func89, Tryz.ntmps89
    go_wp2_with fail
    go_quiet (fail)
    go_wp2_with fail
    go_ret
    exact ⟨⟨a3, rfl, HF.out⟩, _, rfl⟩
  · have hz' : (0 : Int) < (n : Int) := by omega
    have i1 : (n : Int) < (EL : Int) := by omega
    have i2 : (0 : Int) ≤ (n : Int) := by omega
    have e4 := he4 (by omega)
    have i6 : ((n : Int) - 1).toNat = n - 1 := by omega
    clear h2 h3 hcell he4
    go_enter Tryz.func89, Tryz.ntmps89
    go_wp2_with fail
    go_quiet (fail)
    go_wp2_with fail
    go_ret
    exact ⟨⟨a3, rfl, HF.out⟩, _, rfl⟩
end Go.Proofs.YtlplbnlfajdcbaaGreatDoor
