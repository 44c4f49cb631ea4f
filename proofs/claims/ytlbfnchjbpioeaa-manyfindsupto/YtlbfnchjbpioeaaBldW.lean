/-
  What a strings.Builder's Write does, at a Builder of the call's own; what swar.split does. Conditions: as each says.
-/
import Derived.Test.YtlbfnchjbpioeaaBldS
namespace Go.Proofs.Ytlbfnchjbpioeaa
open Go.RowKit
set_option linter.unusedVariables false
set_option maxRecDepth 100000 in
set_option maxHeartbeats 2000000 in
theorem wmany_any (B b : Nat) (l ns : List Nat) (g0 c : Nat) (w : World) (h : Bld B b (own b) l w) (h0 : 0 < ns.length) (hc : ∀ j u, (byv ns)[j]? = some u → w.cell? ((⟨g0, 0, none⟩ : Addr).add j) = some u) (hlen : l.length + ns.length ≤ 140737488355328) (hBw : B ≤ w.heap.size) :
    Calls Try.prog 45 #[own b, .slice (some ⟨g0, 0, none⟩) ns.length c] w fun e w' => e = .returned (.tuple #[.int .i64 (ns.length : Int), .nilIface]) ∧ Bld B b (own b) (l ++ ns) w' ∧ Below B w w' ∧ Rest b w w' := by
  obtain ⟨i0, hi, hz0, hz1, hz2⟩ := info_parts infoB
  obtain ⟨hB, v, hbk, hown, hne⟩ := h
  rw [byv_len] at hown
  have c0 : w.cell? ⟨b, 0, none⟩ = some (own b) := by rw [Lib.cell_of_heap hbk]; rfl
  have c1 : w.cell? ⟨b, 1, none⟩ = some v := by rw [Lib.cell_of_heap hbk]; rfl
  go_enter Try.func45, Try.ntmps45
  go_wp2_with fail
  refine (check_used b w c0).mono ?_
  rintro e w1 ⟨rfl, rfl⟩
  have HBK := Hid.mk' hbk
  have HNE := Hid.mk' hne
  clear hbk hne
  go_wp2_with (at_builtin; refine wpList_append_own _ rfl _ _ 54 rfl B 5 i0 (.int .u8 0) 1 1 Try.underlying54 hi hz0 hz1 hz2 rfl (by decide) _ _ _ rfl hown ⟨g0, 0, none⟩ ns.length c (byv ns) rfl (by rw [byv_len]; omega) hc (by intro u hu; unfold byv at hu; obtain ⟨z, _, rfl⟩ := List.mem_map.1 hu; rfl) (by unfold maxLen; omega) (by omega) hBw ?_)
  intro v' w2 hown' hgrow _
  have hlt : b < w1.heap.size := (Array.getElem?_eq_some_iff.1 HBK.out).1
  have hb2 : w2.heap[b]? = some (.cells #[own b, v] 92 (0, 0)) := by
    rw [hgrow.block b hlt (fun e => HNE.out e.symm)]
    exact HBK.out
  have d1 : w2.cell? ⟨b, 1, none⟩ = some v := by rw [Lib.cell_of_heap hb2]; rfl
  have f1 : w2.frozen? ⟨b, 1, none⟩ = false := Lib.frozen_of_heap hb2 1
  obtain ⟨g, cap, rfl⟩ : ∃ g cap, v' = .slice (some ⟨g, 0, none⟩) (l.length + ns.length) cap := by
    rcases hown'.2 with ⟨_, h0'⟩ | ⟨g, cap, cur, hv, _⟩
    · omega
    · exact ⟨g, cap, hv⟩
  have HBL : Hid (Bld B b (own b) (l ++ ns) (w2.setCell ⟨b, 1, none⟩ (.slice (some ⟨g, 0, none⟩) (l.length + ns.length) cap)) ∧ Below B w1 (w2.setCell ⟨b, 1, none⟩ (.slice (some ⟨g, 0, none⟩) (l.length + ns.length) cap)) ∧ Rest b w1 (w2.setCell ⟨b, 1, none⟩ (.slice (some ⟨g, 0, none⟩) (l.length + ns.length) cap))) := by
    refine ⟨Lib.BuilderAt.put hB hb2 ?_ (by decide), ((Below.refl B w1).grown hgrow (by omega) (fun k hk => (hown.lt k hk).1)).setCell (p := ⟨b, 1, none⟩) hB _, ?_⟩
    · rw [byv_len, byv_append, List.length_append]
      exact hown'
    · intro k cs T hkb hT hk
      have hkl : k < w1.heap.size := (Array.getElem?_eq_some_iff.1 hk).1
      rw [Below.heap_setCell _ _ _ _ (by exact hkb), hgrow.block k hkl (fun e => Lib.ownBlock_ne hown hk hT e.symm)]
      exact hk
  clear hown hown' hgrow c0 c1 hb2 hlt hc
  go_wp2_with fail
  go_ret2
  exact ⟨rfl, HBL.out⟩
end Go.Proofs.Ytlbfnchjbpioeaa
