/-
  Packings by copies: how long they are, four bytes of a text, the rows that copies answers. Conditions: as each says.
-/
import Derived.Test.YtchjmhgalbkjkabCopD
import Derived.Test.YtchjmhgalbkjkabLzL
import Derived.Test.YtchjmhgalbkjkabSam
import Derived.Test.YtchjmhgalbkjkabShn
import Derived.Deep.DeepCutAuto
import Derived.Deep.CutBlock
namespace Go.Proofs.Ytchjmhgalbkjkab
open Go.RowKit Go.Shelf
set_option linter.unusedVariables false
set_option linter.unusedSimpArgs false
theorem lenb_le (n : Nat) : (Lz.lenb n).length ≤ n := by
  unfold Lz.lenb
  split
  · simp
  · simp
    omega
theorem lits_le (l : List Nat) (k : Nat) : (Lz.lits l k).length ≤ 2 * l.length + 1 := by
  have := lenb_le l.length
  simp [Lz.lits]
  omega
theorem packed_le (bs : List Nat) : ∀ (l : List Lz.Cp) (i : Nat), Lz.tru bs i l → i ≤ bs.length → (Lz.packed bs i l).length ≤ 2 * (bs.length - i) + 1
  | [], i, _, hi => by
    have := lits_le (bs.drop i) 0
    rw [List.length_drop] at this
    rw [Lz.packed]
    exact this
  | c :: l, i, ⟨h1, h2, h3⟩, hi => by
    obtain ⟨t1, t2, t3, t4, t5, t6, t7⟩ := h2
    have ih := packed_le bs l (c.at_ + c.cnt) h3 (by omega)
    have a1 := lits_le ((bs.take c.at_).drop i) (c.cnt - 4)
    rw [Lz.lit_len bs i c.at_ h1 (by omega)] at a1
    have a2 := lenb_le (c.cnt - 4)
    rw [Lz.packed]
    simp only [List.length_append, List.length_cons, List.length_nil]
    omega
theorem packC_le (s : ByteArray) (cs : List Lz.Cp) (h : Lz.tru (Sums.bl s) 0 cs) : (packC s cs).size ≤ 2 * s.size + 1 := by
  have h1 := packed_le (Sums.bl s) cs 0 h (Nat.zero_le _)
  have h2 : (packC s cs).size = (Lz.packed (Sums.bl s) 0 cs).length := by
    rw [← Sums.bl_length, packC_bl s cs h, lastT_bl, Lz.packed_enc]
  rw [Sums.bl_length] at h1
  omega
theorem four_at (s : ByteArray) (c : Nat) (hc : c + 4 ≤ s.size) : Sums.bl (s.extract c (c + 4)) = [(Sums.bl s).getD c 0, (Sums.bl s).getD (c + 1) 0, (Sums.bl s).getD (c + 2) 0, (Sums.bl s).getD (c + 3) 0] := by
  have hl := Sums.bl_length s
  rw [Sums.bl_extract]
  apply List.ext_getElem?
  intro i
  rw [List.getElem?_drop, List.getElem?_take]
  by_cases hi : i < 4
  · rw [if_pos (by omega), List.getElem?_eq_getElem (by omega)]
    rcases (show i = 0 ∨ i = 1 ∨ i = 2 ∨ i = 3 by omega) with rfl | rfl | rfl | rfl <;> simp [List.getD_eq_getElem?_getD, List.getElem?_eq_getElem, hl, show c < s.size by omega, show c + 1 < s.size by omega, show c + 2 < s.size by omega, show c + 3 < s.size by omega]
  · rw [if_neg (by omega), List.getElem?_eq_none (by simp; omega)]
theorem four_ext (s : ByteArray) (c p : Nat) (hc : c + 4 ≤ s.size) (hp : p + 4 ≤ s.size) : s.extract c (c + 4) = s.extract p (p + 4) ↔ Lz.four (Sums.bl s) c = Lz.four (Sums.bl s) p := by
  constructor
  · intro h
    have h1 := congrArg Sums.bl h
    rw [four_at s c hc, four_at s p hp] at h1
    simp only [List.cons.injEq, and_true] at h1
    unfold Lz.four
    rw [h1.1, h1.2.1, h1.2.2.1, h1.2.2.2]
  · intro h
    obtain ⟨h0, h1, h2, h3⟩ := Lz.four_same (Sums.bl s) (Sums.bl_byt s) c p h
    apply Sums.bl_inj
    rw [four_at s c hc, four_at s p hp, h0, h1, h2, h3]
theorem str_nq_ne (a b : ByteArray) (h : a ≠ b) (w : World) : (binOp .neq 9 (.string a) (.string b)).run Try.prog w = .ok (.bool true) w := by
  have hne : ¬ a.toList = b.toList := by
    intro e
    rw [ByteArray.toList_eq, ByteArray.toList_eq] at e
    exact h (ByteArray.ext (Array.toList_inj.1 e))
  simp [go_sem]
  exact hne
/-- the rows that copies answered, at a world that has but drawn since -/
structure CpRows (cs : List Lz.Cp) (ab ob : Option Addr) (W : World) : Prop where
  at_ : ∀ (q : Nat) (c : Lz.Cp), cs[q]? = some c → ∃ g, ab = some ⟨g, 0, none⟩ ∧ W.cell? ⟨g, q, none⟩ = some (.int .i64 (c.at_ : Int))
  seq : ∀ (q : Nat) (c : Lz.Cp), cs[q]? = some c → ∃ g, ob = some ⟨g, 0, none⟩ ∧ W.cell? ⟨g, q * 3 + 1, none⟩ = some (.int .i64 (c.off : Int)) ∧ W.cell? ⟨g, q * 3 + 2, none⟩ = some (.int .i64 (c.cnt : Int))
theorem CpRows.drewN {cs : List Lz.Cp} {ab ob : Option Addr} {W : World} (h : CpRows cs ab ob W) (n : Nat) : CpRows cs ab ob (W.drewN n) := ⟨h.at_, h.seq⟩
theorem ptsP_pos : ∀ (l : List Lz.Pc) (i : Nat), (∀ y ∈ l, 4 ≤ y.len) → (ptsP i l).filter (fun x => decide (0 < x.2.2.2)) = ptsP i l
  | [], i, _ => rfl
  | y :: l, i, h => by
    have h4 := h y (List.mem_cons_self ..)
    rw [ptsP, List.filter_cons, if_pos (by simp; omega), ptsP_pos l _ (fun z hz => h z (List.mem_cons_of_mem _ hz))]
theorem cpP_parts (s : ByteArray) (cs : List Lz.Cp) (h : Lz.tru (Sums.bl s) 0 cs) : cpP (partsC s cs) = ptsP 0 (Lz.pcs (Sums.bl s) 0 cs) := by
  have hok := Lz.okP_pcs (Sums.bl s) cs 0 h
  unfold cpP partsC
  rw [List.filter_append, ptsP_pos _ _ (fun y hy => (okP_mem _ _ hok y hy).1)]
  simp
theorem cpRows_of {s : ByteArray} {cs : List Lz.Cp} (h : Lz.tru (Sums.bl s) 0 cs) {W : World} {d n ac oc : Nat} {ab ob : Option Addr} (hn : n = cs.length) (ra : W.ownsRow d 3 1 (.slice ab n ac) n (atv cs)) (ro : W.ownsRow d 32 3 (.slice ob n oc) n (pqv (cpP (partsC s cs)))) : CpRows cs ab ob W := by
  rw [cpP_parts s cs h] at ro
  refine ⟨fun q c hq => ?_, fun q c hq => ?_⟩
  · have hlt := (List.getElem?_eq_some_iff.1 hq).1
    rcases ra.2 with ⟨_, h0⟩ | ⟨g, cap, cur, hv, _⟩
    · omega
    · cases hv
      refine ⟨g, rfl, ?_⟩
      rw [ra.cellAt q (by omega), atv, List.getElem?_map, hq]
      rfl
  · have hlt := (List.getElem?_eq_some_iff.1 hq).1
    obtain ⟨p1, p2, p3, p4⟩ := pcs_at (Sums.bl s) cs 0 q c hq h
    obtain ⟨tok, h5⟩ := ptsP_at _ 0 q _ p1
    obtain ⟨v0, v1, v2⟩ := pqv_at _ _ _ h5
    rcases ro.2 with ⟨_, h0⟩ | ⟨g, cap, cur, hv, _⟩
    · omega
    · cases hv
      refine ⟨g, rfl, ?_, ?_⟩
      · rw [ro.cellAt (q * 3 + 1) (by omega), show q * 3 + 1 = 3 * q + 1 by omega, v1]
      · rw [ro.cellAt (q * 3 + 2) (by omega), show q * 3 + 2 = 3 * q + 2 by omega, v2]
theorem CpRows.below {cs : List Lz.Cp} {ab ob : Option Addr} {W W' : World} (h : CpRows cs ab ob W) (hb : Below W.heap.size W W') : CpRows cs ab ob W' := by
  refine ⟨fun q c hq => ?_, fun q c hq => ?_⟩
  · obtain ⟨g, h1, h2⟩ := h.at_ q c hq
    exact ⟨g, h1, (hb.cell (p := ⟨g, q, none⟩) (World.block_lt_of_cell? W ⟨g, q, none⟩ h2)).trans h2⟩
  · obtain ⟨g, h1, h2, h3⟩ := h.seq q c hq
    exact ⟨g, h1, (hb.cell (p := ⟨g, q * 3 + 1, none⟩) (World.block_lt_of_cell? W ⟨g, q * 3 + 1, none⟩ h2)).trans h2, (hb.cell (p := ⟨g, q * 3 + 2, none⟩) (World.block_lt_of_cell? W ⟨g, q * 3 + 2, none⟩ h3)).trans h3⟩
theorem cs_len (s : ByteArray) (cs : List Lz.Cp) (h : Lz.tru (Sums.bl s) 0 cs) : 4 * cs.length ≤ s.size := by
  have h1 := tru_len (Sums.bl s) cs 0 h
  have h2 := Lz.restOf_le (Sums.bl s) cs 0 (Nat.zero_le _) h
  rw [Sums.bl_length] at h2
  omega
end Go.Proofs.Ytchjmhgalbkjkab
