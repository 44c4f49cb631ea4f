/-
  The walk of the law SwarFinds: whatever it is given it returns true, and of what was there nothing turns. Conditions: text and list are no longer than any that is read can be, numbers are ints, bytes are bytes, the table of package math/bits lies as its text lays it.
-/
import Derived.Test.YthiabdpihnjkcaaDoorRefFind
import Derived.Test.YthiabdpihnjkcaaDoorStill
import Derived.Test.YthiabdpihnjkcaaDoorLast
import Derived.Test.YthiabdpihnjkcaaDoorPick
namespace Go.Proofs.YthiabdpihnjkcaaDoor
open Go.RowKit
set_option linter.unusedVariables false
theorem index_i (s : ByteArray) (c f : Int) (w : World) (hs : s.size ≤ 1125899906842624) (h0 : 0 ≤ c) (hc : c < 256) (hl : -9223372036854775808 ≤ f) (hh : f ≤ 9223372036854775807) (ht : Tab w) :
    Calls Tryd.prog 23 #[.string s, .int .u8 c, .int .i64 f] w fun e w' => e = .returned (.int .i64 (Swar.idxL s c.toNat f.toNat)) ∧ ∃ n, w' = w.drewN n := by
  obtain ⟨k, rfl⟩ := Int.eq_ofNat_of_zero_le h0
  exact index_any s k f w hs (by omega) hl hh ht
theorem xab : Swar.idxL ⟨#[120, 97, 98]⟩ (Int.toNat 98) (Int.toNat 0) = 2 := by decide +kernel
theorem marked8_set (L : List Nat) (q b : Nat) (hq : q < L.length) : (marked8 L).set q b = marked8 (L.set q b) := by
  unfold marked8
  rw [List.set_append_left _ _ hq]
theorem own_cells {w : World} {base N : Nat} {M : List Nat} (h : w.ownsRow base 5 1 (.slice (some ⟨N, 0, none⟩) (M.length + 8) (M.length + 8)) (M.length + 8) (cellsB (marked8 M))) :
    ∀ i, i < M.length + 8 → w.cell? ⟨N, i, none⟩ = some (.int .u8 (((marked8 M).getD i 0 : Nat) : Int)) := by
  intro i hi
  rw [h.cellAt i (by omega)]
  unfold cellsB
  rw [List.getElem?_map, List.getD_eq_getElem?_getD, List.getElem?_eq_getElem (by rw [marked8_len]; exact hi)]
  rfl
theorem own_first {w : World} {base N : Nat} {M : List Nat} (h : w.ownsRow base 5 1 (.slice (some ⟨N, 0, none⟩) (M.length + 8) (M.length + 8)) (M.length + 8) (cellsB (marked8 M))) :
    ∀ i, i < M.length → w.cell? ⟨N, 0 + i, none⟩ = some (.int .u8 ((M.getD i 0 : Nat) : Int)) := by
  intro i hi
  rw [Nat.zero_add, own_cells h i (by omega), marked8_lo M i hi]
theorem cells_hold {w : World} {N : Nat} {K : List Nat} (h : ∀ i, i < K.length → w.cell? ⟨N, 0 + i, none⟩ = some (.int .u8 ((K.getD i 0 : Nat) : Int))) : ∀ j u, (cellsB K)[j]? = some u → w.cell? ((⟨N, 0, none⟩ : Addr).add j) = some u := by
  intro j u hu
  unfold cellsB at hu
  rw [List.getElem?_map] at hu
  obtain ⟨z, hz, rfl⟩ := Option.map_eq_some_iff.1 hu
  have hj : j < K.length := by
    rcases Nat.lt_or_ge j K.length with h' | h'
    · exact h'
    · rw [List.getElem?_eq_none h'] at hz; cases hz
  have hg : K.getD j 0 = z := by rw [List.getD_eq_getElem?_getD, hz]; rfl
  have := h j hj
  rw [hg] at this
  have e : (⟨N, 0, none⟩ : Addr).add j = ⟨N, 0 + j, none⟩ := by unfold Addr.add; split <;> simp_all
  rw [e]
  exact this
theorem cells_one (K : List Nat) : ∀ u ∈ cellsB K, u.oneCell' = true := by
  intro u hu
  obtain ⟨z, _, rfl⟩ := List.mem_map.1 hu
  rfl
theorem own_view {w : World} {base : Nat} {v : Value} {K : List Nat} (h : w.ownsRow base 5 1 v K.length (cellsB K)) : ∃ ad cap, v = .slice ad K.length cap ∧ ∀ i, i < K.length → ∃ g off, ad = some ⟨g, off, none⟩ ∧ w.cell? ⟨g, off + i, none⟩ = some (.int .u8 ((K.getD i 0 : Nat) : Int)) := by
  rcases h.2 with ⟨rfl, h0⟩ | ⟨g, cap, cur, rfl, _⟩
  · exact ⟨none, 0, by rw [h0], fun i hi => by omega⟩
  · refine ⟨some ⟨g, 0, none⟩, cap, rfl, fun i hi => ⟨g, 0, rfl, ?_⟩⟩
    rw [Nat.zero_add, h.cellAt i (by omega)]
    unfold cellsB
    rw [List.getElem?_map, List.getD_eq_getElem?_getD, List.getElem?_eq_getElem hi]
    rfl
set_option maxRecDepth 100000 in
set_option maxHeartbeats 4000000 in
theorem swarFinds_any (s : ByteArray) (b : Nat) (f a2 : Int) (ad : Option Addr) (cap : Nat) (L : List Nat) (a : Int) (w : World) (hs : s.size ≤ 140737488351232) (hbb : b < 256) (hl : -9223372036854775808 ≤ f) (hh : f ≤ 9223372036854775807) (ha20 : -9223372036854775808 ≤ a2) (ha2 : a2 ≤ 9223372036854775807)
    (hL : L.length ≤ 140737488351232) (hz : ∀ z ∈ L, z < 256) (hc : ∀ i, i < L.length → ∃ g off, ad = some ⟨g, off, none⟩ ∧ w.cell? ⟨g, off + i, none⟩ = some (.int .u8 ((L.getD i 0 : Nat) : Int))) (ha0 : -9223372036854775808 ≤ a) (ha : a ≤ 9223372036854775807) (ht : Tab w) :
    Calls Tryd.prog 4 #[.string s, .int .u8 (b : Int), .int .i64 f, .int .i64 a2, .slice ad L.length cap, .int .i64 a] w fun e w' => e = .returned (.bool true) ∧ Below w.heap.size w w' := by
  obtain ⟨i0, hi, hz0, hz1, hz2⟩ := info_parts infoB
  have HC : Hid (∀ w', Below w.heap.size w w' → ∀ i, i < L.length → ∃ g off, ad = some ⟨g, off, none⟩ ∧ w'.cell? ⟨g, off + i, none⟩ = some (.int .u8 ((L.getD i 0 : Nat) : Int))) := by
    intro w' hb i hi
    obtain ⟨g, off, h1, h2⟩ := hc i hi
    exact ⟨g, off, h1, cell_later' hb h2⟩
  clear hc
  go_enter Tryd.func4, Tryd.ntmps4
  go_wp2_with fail
  refine (index_i ⟨#[120, 97, 98]⟩ 98 0 _ (by decide) (by omega) (by omega) (by omega) (by omega) ht).mono ?_
  rintro e w1 ⟨rfl, k0, rfl⟩
  rw [xab]
  have hb0 : Below w.heap.size w (w.drewN k0) := below_drewN (Below.refl _ _) _
  go_wp2_with fail
  refine (lent_any ad cap L _ hL (by exact HC.out _ hb0)).mono ?_
  rintro e w1 ⟨rfl, hown1, hb1⟩
  have hbA : Below w.heap.size w w1 := hb0.trans hb1
  clear hb0 hb1
  have hown1' : w1.ownsRow w.heap.size 5 1 (.slice (some ⟨w.heap.size, 0, none⟩) (L.length + 8) (L.length + 8)) (L.length + 8) (cellsB (marked8 L)) := hown1
  clear hown1
  go_wp2_with fail
  refine (indexOf_any s f w.heap.size 0 (L.length + 8) L _ (by omega) hl hh hz (by omega) (by exact own_first hown1')).mono ?_
  rintro e w2 ⟨rfl, hb2⟩
  have hown2 := own_below hown1' hb2
  have hbB : Below w.heap.size w w2 := hbA.trans (hb2.mono hbA.size)
  clear hb2 hown1' hbA
  go_wp2_with fail
  refine (indexOf_any s f w.heap.size 0 (L.length + 8) L _ (by omega) hl hh hz (by omega) (by exact own_first hown2)).mono ?_
  rintro e w3 ⟨rfl, hb3⟩
  have hown3 := own_below hown2 hb3
  have hbC : Below w.heap.size w w3 := hbB.trans (hb3.mono hbB.size)
  clear hb3 hown2 hbB
  go_wp2_with fail
  refine (refIndexOf_gen s f ad cap L _ (by omega) hl hh (by omega) (by exact HC.out _ hbC)).mono ?_
  rintro e w4 ⟨rfl, n4, rfl⟩
  go_wp2_with fail
  refine (still_any w.heap.size cap ad L _ hL (by exact own_cells hown3) (by exact HC.out _ (below_drewN hbC _))).mono ?_
  rintro e w4 ⟨rfl, n5, rfl⟩
  go_wp2_with fail
  refine (index_any s b f _ (by omega) hbb hl hh (by exact ht.below (below_drewN hbC _))).mono ?_
  rintro e w4 ⟨rfl, n6, rfl⟩
  have hbD : Below w.heap.size w (w3.drewN (n4 + n5 + n6)) := below_drewN hbC _
  have hown4 : (w3.drewN (n4 + n5 + n6)).ownsRow w.heap.size 5 1 (.slice (some ⟨w.heap.size, 0, none⟩) (L.length + 8) (L.length + 8)) (L.length + 8) (cellsB (marked8 L)) := hown3
  go_wp2_with fail
  clear hown3 hbC
  generalize w3.drewN (n4 + n5 + n6) = w5 at *
  refine (refIndex_any s b f _ (by omega) hl hh).mono ?_
  rintro e w6 ⟨rfl, hb6⟩
  have hown6 := own_below hown4 hb6
  have hbE : Below w.heap.size w w6 := hbD.trans (hb6.mono hbD.size)
  clear hb6 hown4 hbD
  go_wp2_with fail
  refine (last_any s b a2 _ (by omega) hbb ha20 ha2).mono ?_
  rintro e w7 ⟨rfl, n7, rfl⟩
  go_wp2_with fail
  refine (refLast_any s b a2 _ (by omega) hbb ha20 ha2).mono ?_
  rintro e w7 ⟨rfl, rfl⟩
  have hbX : Below w.heap.size w (w6.drewN n7) := below_drewN hbE _
  have hownX : (w6.drewN n7).ownsRow w.heap.size 5 1 (.slice (some ⟨w.heap.size, 0, none⟩) (L.length + 8) (L.length + 8)) (L.length + 8) (cellsB (marked8 L)) := hown6
  clear hown6 hbE HC
  generalize w6.drewN n7 = X at *
  by_cases h0 : L.length = 0
  · have h0' : ¬ ((0 : Int) < (L.length : Int)) := by omega
    have hKz := hz
    obtain ⟨K, hKe⟩ : ∃ K, L = K := ⟨_, rfl⟩
    subst hKe
    clear h0
    have hKl : L.length ≤ 140737488351232 := by omega
    have hKf := own_first hownX
    have hXs := hbX.size
    go_wp2_with (first | (at_builtin; refine wpList_append_own _ rfl _ _ 29 rfl X.heap.size 5 i0 (.int .u8 0) 1 1 Tryd.underlying29 hi hz0 hz1 hz2 rfl (by decide) _ _ _ rfl (World.ownsRow_nil _ _ _ _) ⟨w.heap.size, 0, none⟩ L.length (L.length + 8) (cellsB L) rfl ?c0 ?c1 ?c2 ?c3 ?c4 ?c5 ?_) | fail)
    case c0 => unfold cellsB; simp
    case c1 => exact cells_hold hKf
    case c2 => exact cells_one L
    case c3 => unfold maxLen; omega
    case c4 => omega
    case c5 => exact Nat.le_refl _
    intro v' w7 hown7 hgrow7 _
    have hb7 : Below X.heap.size X w7 := (Below.refl _ _).grown hgrow7 (Nat.le_refl _) (fun k hk => by cases hk)
    try simp only [Nat.zero_add, List.nil_append] at hown7
    have hown7x := own_below hownX hb7
    have hbC : Below w.heap.size w w7 := hbX.trans (hb7.mono hbX.size)
    obtain ⟨ad7, cap7, hv7, hc7⟩ := own_view hown7
    rw [hv7]
    clear hgrow7 hb7 hownX hbX hKf hXs hv7 hown7
    go_wp2_with fail
    refine (indexOf_any s f w.heap.size 0 (L.length + 8) L _ (by omega) hl hh hKz (by omega) (by exact own_first hown7x)).mono ?_
    rintro e w8 ⟨rfl, hb8⟩
    have hown8 := own_below hown7x hb8
    have hbD : Below w.heap.size w w8 := hbC.trans (hb8.mono hbC.size)
    have hc8 : Hid (∀ i, i < L.length → ∃ g off, ad7 = some ⟨g, off, none⟩ ∧ w8.cell? ⟨g, off + i, none⟩ = some (.int .u8 ((L.getD i 0 : Nat) : Int))) := by
      intro i hi
      obtain ⟨g, off, h1, h2⟩ := hc7 i hi
      exact ⟨g, off, h1, cell_later' hb8 h2⟩
    clear hb8 hbC hown7x hc7
    go_wp2_with fail
    refine (still_any w.heap.size cap7 ad7 L _ hKl (by exact own_cells hown8) (by exact hc8.out)).mono ?_
    rintro e w9 ⟨rfl, n9, rfl⟩
    go_wp2_with fail
    refine (refIndexOf_gen s f ad7 cap7 L _ (by omega) hl hh (by omega) (by exact hc8.out)).mono ?_
    rintro e w9 ⟨rfl, n10, rfl⟩
    go_wp2_with fail
    go_ret
    exact ⟨rfl, below_drewN hbD _⟩
  · have h0' : (0 : Int) < (L.length : Int) := by omega
    have h0n : 0 < L.length := by omega
    go_wp2_with fail
    refine (pick_any a (L.length : Int) _ (by omega) (by omega) ha0 ha).mono ?_
    rintro e Y ⟨⟨q, hq, rfl⟩, rfl⟩
    have hq2 : q < L.length := by omega
    have hfz := hownX.frozenAt q
    have hold := own_cells hownX q (by omega)
    have hst := (hownX.stored q (.int .u8 ((b : Nat) : Int))).1
    rw [cellsB_set, marked8_set L q b hq2] at hst
    have hbZ : Below w.heap.size w (Y.setCell ⟨w.heap.size, q, none⟩ (.int .u8 ((b : Nat) : Int))) := hbX.setCell (Nat.le_refl _) _
    have hKz : ∀ z ∈ L.set q b, z < 256 := by
      intro z hz'
      rcases List.mem_or_eq_of_mem_set hz' with h | h
      · exact hz z h
      · omega
    have hqi : (q : Int) < (L.length : Int) := by omega
    clear hownX hbX
    have HLEN : Hid (L.length = (L.set q b).length) := by show _ = _; simp
    have HST : Hid ((Y.setCell ⟨w.heap.size, q, none⟩ (.int .u8 ((b : Nat) : Int))).ownsRow w.heap.size 5 1 (.slice (some ⟨w.heap.size, 0, none⟩) (L.length + 8) (L.length + 8)) (L.length + 8) (cellsB (marked8 (L.set q b)))) := hst
    clear hst
    have HKF : Hid (∀ i, i < (L.set q b).length → (Y.setCell ⟨w.heap.size, q, none⟩ (.int .u8 ((b : Nat) : Int))).cell? ⟨w.heap.size, 0 + i, none⟩ = some (.int .u8 (((L.set q b).getD i 0 : Nat) : Int))) := by
      have h := HST.out
      rw [HLEN.out] at h
      exact own_first h
    go_wp2_with (first | (at_builtin; refine wpList_append_own _ rfl _ _ 29 rfl Y.heap.size 5 i0 (.int .u8 0) 1 1 Tryd.underlying29 hi hz0 hz1 hz2 rfl (by decide) _ _ _ rfl (World.ownsRow_nil _ _ _ _) ⟨w.heap.size, 0, none⟩ L.length (L.length + 8) (cellsB (L.set q b)) rfl ?c0 ?c1 ?c2 ?c3 ?c4 ?c5 ?_) | fail)
    case c0 => unfold cellsB; simp
    case c1 => exact cells_hold HKF.out
    case c2 => exact cells_one _
    case c3 => unfold maxLen; omega
    case c4 => omega
    case c5 => simp
    intro v' w7 hown7 hgrow7 _
    try simp only [Nat.zero_add, List.nil_append] at hown7
    have hown7k : w7.ownsRow Y.heap.size 5 1 v' (L.set q b).length (cellsB (L.set q b)) := by rw [← HLEN.out]; exact hown7
    have hownX := HST.out
    rw [HLEN.out] at hownX
    have hbX := hbZ
    have hb7 : Below (Y.setCell ⟨w.heap.size, q, none⟩ (.int .u8 ((b : Nat) : Int))).heap.size (Y.setCell ⟨w.heap.size, q, none⟩ (.int .u8 ((b : Nat) : Int))) w7 := (Below.refl _ _).grown hgrow7 (Nat.le_refl _) (fun k hk => by cases hk)
    clear HST HKF hbZ hown7 hold hfz
    have hown7 := hown7k
    clear hown7k
    generalize (Y.setCell ⟨w.heap.size, q, none⟩ (.int .u8 ((b : Nat) : Int))) = X at *
    have hKl : (L.set q b).length ≤ 140737488351232 := by rw [← HLEN.out]; exact hL
    generalize L.set q b = K at *
    rw [HLEN.out]
    clear HLEN
    have hown7x := own_below hownX hb7
    have hbC : Below w.heap.size w w7 := hbX.trans (hb7.mono hbX.size)
    obtain ⟨ad7, cap7, hv7, hc7⟩ := own_view hown7
    rw [hv7]
    clear hgrow7 hb7 hownX hbX hv7 hown7
    go_wp2_with fail
    refine (indexOf_any s f w.heap.size 0 (K.length + 8) K _ (by omega) hl hh hKz (by omega) (by exact own_first hown7x)).mono ?_
    rintro e w8 ⟨rfl, hb8⟩
    have hown8 := own_below hown7x hb8
    have hbD : Below w.heap.size w w8 := hbC.trans (hb8.mono hbC.size)
    have hc8 : Hid (∀ i, i < K.length → ∃ g off, ad7 = some ⟨g, off, none⟩ ∧ w8.cell? ⟨g, off + i, none⟩ = some (.int .u8 ((K.getD i 0 : Nat) : Int))) := by
      intro i hi
      obtain ⟨g, off, h1, h2⟩ := hc7 i hi
      exact ⟨g, off, h1, cell_later' hb8 h2⟩
    clear hb8 hbC hown7x hc7
    go_wp2_with fail
    refine (still_any w.heap.size cap7 ad7 K _ hKl (by exact own_cells hown8) (by exact hc8.out)).mono ?_
    rintro e w9 ⟨rfl, n9, rfl⟩
    go_wp2_with fail
    refine (refIndexOf_gen s f ad7 cap7 K _ (by omega) hl hh (by omega) (by exact hc8.out)).mono ?_
    rintro e w9 ⟨rfl, n10, rfl⟩
    go_wp2_with fail
    go_ret
    exact ⟨rfl, below_drewN hbD _⟩
end Go.Proofs.YthiabdpihnjkcaaDoor
