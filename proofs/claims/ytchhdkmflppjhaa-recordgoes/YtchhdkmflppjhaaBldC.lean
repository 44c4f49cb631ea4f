/-
  What a strings.Builder's WriteString, and its Write of any bytes, do. Conditions: as each says.
-/
import Derived.Test.YtchhdkmflppjhaaBldBS
import Derived.Test.YtchhdkmflppjhaaRcC
import Derived.Lib.AppendStr
import Derived.Laws.AppendOwnNone
namespace Go.Proofs.Ytchhdkmflppjhaa
open Go.RowKit
set_option linter.unusedVariables false
theorem check_any (B b : Nat) (p : Value) (l : List Nat) (w : World) (h : Bld B b p l w) (hp : p = .pointer none ∨ p = own b) :
    Calls Try.prog 62 #[own b] w fun e w' => e = .returned (.tuple #[]) ∧ Bld B b (own b) l w' ∧ Below B w w' ∧ Rest b w w' ∧ w'.heap.size = w.heap.size := by
  rcases hp with rfl | rfl
  · refine (check_fresh b w h.cell0 h.shape h.frozen0).mono ?_
    rintro e w' ⟨rfl, rfl⟩
    refine ⟨rfl, h.used _, (Below.refl B w).setCell (p := ⟨b, 0, none⟩) h.1 _, ?_, by simp [World.setCell]⟩
    intro k cs T hkb hT hk
    rw [Below.heap_setCell _ _ _ _ (by exact hkb)]
    exact hk
  · refine (check_used b w h.cell0).mono ?_
    rintro e w' ⟨rfl, rfl⟩
    exact ⟨rfl, h, Below.refl _ _, fun _ _ _ _ _ hk => hk, rfl⟩
theorem Rest.trans {b : Nat} {x y z : World} (h : Rest b x y) (k : Rest b y z) : Rest b x z := fun i cs T h1 h2 h3 => k i cs T h1 h2 (h i cs T h1 h2 h3)
set_option maxRecDepth 100000 in
set_option maxHeartbeats 2000000 in
theorem wstr_any (B b : Nat) (p : Value) (l : List Nat) (s : ByteArray) (w : World) (h : Bld B b p l w) (hp : p = .pointer none ∨ p = own b) (hlen : l.length + s.size ≤ 140737488355328) (hBw : B ≤ w.heap.size) :
    Calls Try.prog 44 #[own b, .string s] w fun e w' => e = .returned (.tuple #[.int .i64 s.size, .nilIface]) ∧ Bld B b (own b) (l ++ Sums.bl s) w' ∧ Below B w w' ∧ Rest b w w' := by
  obtain ⟨i0, hi, hz0, hz1, hz2⟩ := info_parts infoB
  have hsI : (s.size : Int) ≤ 140737488355328 := by omega
  have HC := Hid.mk' (check_any B b p l w h hp)
  clear h hp
  go_enter Try.func44, Try.ntmps44
  go_wp2_with fail
  refine HC.out.mono ?_
  rintro e w1 ⟨rfl, h1, hbel, hrest, hsz⟩
  rw [← hsz] at hBw
  have HX := Hid.mk' (And.intro hbel hrest)
  clear hbel hrest hsz HC
  obtain ⟨hB, v, hbk, hown, hne⟩ := h1
  rw [byv_len] at hown
  have c0 : w1.cell? ⟨b, 0, none⟩ = some (own b) := by rw [Lib.cell_of_heap hbk]; rfl
  have c1 : w1.cell? ⟨b, 1, none⟩ = some v := by rw [Lib.cell_of_heap hbk]; rfl
  have HBK := Hid.mk' hbk
  have HNE := Hid.mk' hne
  clear hbk hne
  go_wp2_with (at_builtin; refine Lib.wpList_append_own_string _ rfl _ _ 70 9 rfl B 5 i0 Try.underlying70 Try.underlying9 hi hz0 hz1 hz2 _ _ _ rfl hown s rfl (by unfold maxLen; omega) (by omega) (by omega) ?_)
  intro v' w2 hown' hgrow _
  have hlt : b < w1.heap.size := (Array.getElem?_eq_some_iff.1 HBK.out).1
  have hb2 : w2.heap[b]? = some (.cells #[own b, v] 83 (0, 0)) := by
    rw [hgrow.block b hlt (fun e => HNE.out e.symm)]
    exact HBK.out
  have d1 : w2.cell? ⟨b, 1, none⟩ = some v := by rw [Lib.cell_of_heap hb2]; rfl
  have f1 : w2.frozen? ⟨b, 1, none⟩ = false := Lib.frozen_of_heap hb2 1
  obtain ⟨ao, n', cap, rfl⟩ : ∃ ao n' cap, v' = .slice ao n' cap := by
    rcases hown'.2 with ⟨hv, _⟩ | ⟨g, cap, cur, hv, _⟩
    · exact ⟨_, _, _, hv⟩
    · exact ⟨_, _, _, hv⟩
  have HBL : Hid (Bld B b (own b) (l ++ Sums.bl s) (w2.setCell ⟨b, 1, none⟩ (.slice ao n' cap)) ∧ Below B w (w2.setCell ⟨b, 1, none⟩ (.slice ao n' cap)) ∧ Rest b w (w2.setCell ⟨b, 1, none⟩ (.slice ao n' cap))) := by
    refine ⟨Lib.BuilderAt.put hB hb2 ?_ (by decide), HX.out.1.trans (((Below.refl B w1).grown hgrow hBw (fun k hk => (hown.lt k hk).1)).setCell (p := ⟨b, 1, none⟩) hB _), HX.out.2.trans ?_⟩
    · rw [byv_len, byv_append, List.length_append, Sums.bl_length, ← str_byv]
      exact hown'
    · intro k cs T hkb hT hk
      have hkl : k < w1.heap.size := (Array.getElem?_eq_some_iff.1 hk).1
      rw [Below.heap_setCell _ _ _ _ (by exact hkb), hgrow.block k hkl (fun e => Lib.ownBlock_ne hown hk hT e.symm)]
      exact hk
  clear hown hown' hgrow c0 c1 hb2 hlt
  go_wp2_with fail
  go_ret2
  exact ⟨rfl, HBL.out⟩
theorem Bld.below {B b : Nat} {p : Value} {l : List Nat} {w w' : World} (h : Bld B b p l w) (hb : Below w.heap.size w w') : Bld B b p l w' := by
  obtain ⟨hB, v, hbk, hown, hne⟩ := h
  refine ⟨hB, v, (hb.block b (Array.getElem?_eq_some_iff.1 hbk).1).trans hbk, ?_, hne⟩
  exact ⟨hown.1, hown.2.imp id fun ⟨g, cap, cur, e1, e2, e3, r⟩ => ⟨g, cap, cur, e1, e2, (hb.block g (Array.getElem?_eq_some_iff.1 e3).1).trans e3, r⟩⟩
set_option maxRecDepth 100000 in
set_option maxHeartbeats 2000000 in
theorem wmany2_any (B b : Nat) (l ns : List Nat) (g0 c : Nat) (w : World) (h : Bld B b (own b) l w) (hc : ∀ j u, (byv ns)[j]? = some u → w.cell? ((⟨g0, 0, none⟩ : Addr).add j) = some u) (hlen : l.length + ns.length ≤ 140737488355328) (hBw : B ≤ w.heap.size) :
    Calls Try.prog 46 #[own b, .slice (some ⟨g0, 0, none⟩) ns.length c] w fun e w' => e = .returned (.tuple #[.int .i64 (ns.length : Int), .nilIface]) ∧ Bld B b (own b) (l ++ ns) w' ∧ Below B w w' ∧ Rest b w w' := by
  obtain ⟨i0, hi, hz0, hz1, hz2⟩ := info_parts infoB
  obtain ⟨hB, v, hbk, hown, hne⟩ := h
  rw [byv_len] at hown
  have c0 : w.cell? ⟨b, 0, none⟩ = some (own b) := by rw [Lib.cell_of_heap hbk]; rfl
  have c1 : w.cell? ⟨b, 1, none⟩ = some v := by rw [Lib.cell_of_heap hbk]; rfl
  go_enter Try.func46, Try.ntmps46
  go_wp2_with fail
  refine (check_used b w c0).mono ?_
  rintro e w1 ⟨rfl, rfl⟩
  have HBK := Hid.mk' hbk
  have HNE := Hid.mk' hne
  clear hbk hne
  go_wp2_with (at_builtin; refine wpList_append_own _ rfl _ _ 70 rfl B 5 i0 (.int .u8 0) 1 1 Try.underlying70 hi hz0 hz1 hz2 rfl (by decide) _ _ _ rfl hown ⟨g0, 0, none⟩ ns.length c (byv ns) rfl (by rw [byv_len]; omega) hc (by intro u hu; unfold byv at hu; obtain ⟨z, _, rfl⟩ := List.mem_map.1 hu; rfl) (by unfold maxLen; omega) (by omega) hBw ?_)
  intro v' w2 hown' hgrow _
  have hlt : b < w1.heap.size := (Array.getElem?_eq_some_iff.1 HBK.out).1
  have hb2 : w2.heap[b]? = some (.cells #[own b, v] 83 (0, 0)) := by
    rw [hgrow.block b hlt (fun e => HNE.out e.symm)]
    exact HBK.out
  have d1 : w2.cell? ⟨b, 1, none⟩ = some v := by rw [Lib.cell_of_heap hb2]; rfl
  have f1 : w2.frozen? ⟨b, 1, none⟩ = false := Lib.frozen_of_heap hb2 1
  obtain ⟨g, cap, rfl⟩ := row_shape hown'
  have HBL : Hid (Bld B b (own b) (l ++ ns) (w2.setCell ⟨b, 1, none⟩ (.slice g (l.length + ns.length) cap)) ∧ Below B w1 (w2.setCell ⟨b, 1, none⟩ (.slice g (l.length + ns.length) cap)) ∧ Rest b w1 (w2.setCell ⟨b, 1, none⟩ (.slice g (l.length + ns.length) cap))) := by
    refine ⟨Lib.BuilderAt.put hB hb2 ?_ (by decide), ((Below.refl B w1).grown hgrow (by omega) (fun k hk => (hown.lt k hk).1)).setCell (p := ⟨b, 1, none⟩) hB _, ?_⟩
    · rw [byv_len, byv_append, List.length_append]
      exact hown'
    · intro k cs T hkb hT hk
      have hkl : k < w1.heap.size := (Array.getElem?_eq_some_iff.1 hk).1
      rw [Below.heap_setCell _ _ _ _ (by exact hkb), hgrow.block k hkl (fun e => Lib.ownBlock_ne hown hk hT e.symm)]
      exact hk
  clear hown hown' hgrow c0 c1 hb2 hlt hc
  go_wp2_with fail
  go_ret2
  exact ⟨rfl, HBL.out⟩
set_option maxRecDepth 100000 in
set_option maxHeartbeats 1000000 in
theorem wmany0_any (B b : Nat) (l : List Nat) (w : World) (h : Bld B b (own b) l w) :
    Calls Try.prog 46 #[own b, .slice none 0 0] w fun e w' => e = .returned (.tuple #[.int .i64 0, .nilIface]) ∧ Bld B b (own b) l w' ∧ Below B w w' := by
  obtain ⟨i0, hi, hz0, hz1, hz2⟩ := info_parts infoB
  obtain ⟨hB, v, hbk, hown, hne⟩ := h
  rw [byv_len] at hown
  obtain ⟨g, cap, rfl⟩ := row_shape hown
  have c0 : w.cell? ⟨b, 0, none⟩ = some (own b) := by rw [Lib.cell_of_heap hbk]; rfl
  have c1 : w.cell? ⟨b, 1, none⟩ = some (.slice g l.length cap) := by rw [Lib.cell_of_heap hbk]; rfl
  have f1 : w.frozen? ⟨b, 1, none⟩ = false := Lib.frozen_of_heap hbk 1
  have HBL : Hid (Bld B b (own b) l (w.setCell ⟨b, 1, none⟩ (.slice g l.length cap)) ∧ Below B w (w.setCell ⟨b, 1, none⟩ (.slice g l.length cap))) := by
    refine ⟨Lib.BuilderAt.put hB hbk ?_ (by decide), (Below.refl B w).setCell (p := ⟨b, 1, none⟩) hB _⟩
    rw [byv_len]
    exact hown
  clear hbk hne
  go_enter Try.func46, Try.ntmps46
  go_wp2_with fail
  refine (check_used b w c0).mono ?_
  rintro e w1 ⟨rfl, rfl⟩
  go_wp2_with (at_builtin; refine wpList_append_own_none rfl _ _ 70 rfl B 5 i0 1 Try.underlying70 hi _ _ _ rfl hown rfl ?_)
  go_wp2_with fail
  go_ret2
  exact ⟨rfl, HBL.out⟩
theorem byv_nil_own {w : World} {B n : Nat} {v : Value} {l : List Nat} (h : w.ownsRow B 5 1 v n (byv l)) (hn : n = l.length) : v = .slice none 0 0 ∧ l = [] ∨ ∃ g c, v = .slice (some ⟨g, 0, none⟩) l.length c ∧ ∀ j u, (byv l)[j]? = some u → w.cell? ((⟨g, 0, none⟩ : Addr).add j) = some u := by
  subst hn
  rcases h.2 with ⟨rfl, h0⟩ | ⟨g, cap, cur, rfl, h1, h2, h3⟩
  · exact .inl ⟨rfl, List.length_eq_zero_iff.1 h0⟩
  · exact .inr ⟨g, cap, rfl, h.cells (g := g) rfl⟩
end Go.Proofs.Ytchhdkmflppjhaa
