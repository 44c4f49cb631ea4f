/-
  What the kernel for one byte does. Conditions: as each says.
-/
import Derived.Test.YtecoiifmeajicaaDoorNdl
namespace Go.Proofs.YtecoiifmeajicaaDoor
open Go.RowKit
set_option linter.unusedVariables false
/-- a pattern without capitals where case does not count -/
def Nrm (fold : Bool) (q : ByteArray) : Prop := ∀ i, Lit.cs fold (Swar.bt q i) = Swar.bt q i
theorem nrm_ndl (fold : Bool) (p : ByteArray) : Nrm fold (Lit.ndl fold p) := fun i => by rw [Lit.bt_ndl, Lit.cs_cs]
theorem idx_fnd (fold : Bool) (q s : ByteArray) (a : Nat) (P : Nat → Bool) (hq : q.size = 1) (h : ∀ k, k < s.size → P k = Lit.stB fold q s k) : Swar.fnd P a (s.size - a) = Lit.fndL fold q s a := by
  rcases Swar.fnd_spec P (s.size - a) a with ⟨h1, h2⟩ | ⟨i, h1, h2, h3, h4⟩
  · rw [h1, Lit.fndL_none]
    intro k hk
    by_cases hl : k < s.size
    · have := h2 (k - a) (by omega)
      rw [show a + (k - a) = k by omega, h k hl] at this
      exact this
    · rw [Lit.stB_no]; intro hst; have := hst.1; omega
  · rw [h2, Lit.fndL_of fold q s a (a + i) (by omega) (by rw [← h _ (by omega)]; exact h3)]
    intro j hj hl
    have := h4 (j - a) (by omega)
    rw [show a + (j - a) = j by omega, h j (by omega)] at this
    exact this
theorem one_st (fold : Bool) (q s : ByteArray) (hq : q.size = 1) (hn : Nrm fold q) (k : Nat) (hk : k < s.size) : Lit.stB fold q s k = decide (Lit.cs fold (Swar.bt s k) = Swar.bt q 0) := by
  rw [Bool.eq_iff_iff, Lit.stB_iff, decide_eq_true_iff]
  constructor
  · intro h
    have := h.2 0 (by omega)
    rw [hn 0] at this
    exact this
  · intro h
    refine ⟨by omega, fun i hi => ?_⟩
    have : i = 0 := by omega
    subst this
    rw [hn 0]
    exact h
theorem one_same (fold : Bool) (q s : ByteArray) (a : Nat) (hq : q.size = 1) (hn : Nrm fold q) (h : Lit.fm2 fold (Swar.bt q 0) = Swar.bt q 0) : Swar.idxL s (Swar.bt q 0) a = Lit.fndL fold q s a := by
  unfold Swar.idxL
  refine idx_fnd fold q s a _ hq (fun k hk => ?_)
  rw [one_st fold q s hq hn k hk, Bool.eq_iff_iff, beq_iff_eq, decide_eq_true_iff, ← Lit.fm_iff fold _ _ (hn 0), h, or_self]
theorem one_two (fold : Bool) (q s : ByteArray) (a : Nat) (hq : q.size = 1) (hn : Nrm fold q) : idxS s [Swar.bt q 0, Lit.fm2 fold (Swar.bt q 0)] a = Lit.fndL fold q s a := by
  unfold idxS
  refine idx_fnd fold q s a _ hq (fun k hk => ?_)
  rw [one_st fold q s hq hn k hk, Bool.eq_iff_iff, decide_eq_true_iff, decide_eq_true_iff, ← Lit.fm_iff fold _ _ (hn 0)]
  simp
set_option maxHeartbeats 400000 in
theorem singleLook_any (g : Nat) (fold : Bool) (q s : ByteArray) (a : Nat) (w : World) (hq : q.size = 1) (hn : Nrm fold q) (hs : s.size ≤ 1125899906842624) (ha : a ≤ s.size)
    (c0 : w.cell? ⟨g, 0, none⟩ = some (.int .u8 ((Swar.bt q 0 : Nat) : Int))) (c1 : w.cell? ⟨g, 1, none⟩ = some (.int .u8 ((Lit.fm2 fold (Swar.bt q 0) : Nat) : Int))) (ht : Tab w) :
    Calls Tryd.prog 39 #[.pointer (some ⟨g, 0, none⟩), .string s, .int .i64 (a : Int)] w fun e w' => e = .returned (.int .i64 (Lit.fndL fold q s a)) ∧ Below w.heap.size w w' := by
  have hb := Swar.bt_lt q 0
  have hb2 := Lit.fm2_lt fold _ hb
  have H1 := Hid.mk' (one_same fold q s a hq hn)
  have H2 := Hid.mk' (one_two fold q s a hq hn)
  obtain ⟨c, hc⟩ : ∃ c, Swar.bt q 0 = c := ⟨_, rfl⟩
  obtain ⟨d, hd⟩ : ∃ d, Lit.fm2 fold c = d := ⟨_, rfl⟩
  rw [hc] at c0 c1 hb hb2 H1 H2
  rw [hd] at c1 hb2 H1 H2
  clear hn hc hd
  by_cases h : d = c
  · subst h
    go_enter Tryd.func39, Tryd.ntmps39
    go_wp2_with fail
    go_quiet (fail)
    go_wp2_with fail
    refine (index_any s d (a : Int) _ (by omega) (by omega) (by omega) (by omega) (ht.drewN _)).mono ?_
    rintro e w' ⟨rfl, n, rfl⟩
    go_wp2_with fail
    go_ret
    exact ⟨ret_i64 (H1.out trivial), (Below.refl _ _).drewN' _⟩
  · have hne : ((c : Int) == (d : Int)) = false := beq_eq_false_iff_ne.2 (by omega)
    go_enter Tryd.func39, Tryd.ntmps39
    go_wp2_with fail
    go_quiet (fail)
    go_wp2_with fail
    refine (indexOf_any s (a : Int) g 0 2 [c, d] _ (by omega) (by omega) (by omega) (by intro z hz; simp at hz; omega) (by simp) (fun i hi => ?_)).mono ?_
    · have : i = 0 ∨ i = 1 := by simp at hi; omega
      rcases this with rfl | rfl
      · exact c0
      · exact c1
    rintro e w' ⟨rfl, hbl⟩
    go_wp2_with fail
    go_ret
    exact ⟨ret_i64 H2.out, ((Below.refl _ _).drewN' _).trans hbl⟩
set_option maxHeartbeats 400000 in
theorem newSingle_any (fold : Bool) (q : ByteArray) (w : World) (hq : q.size = 1) :
    Calls Tryd.prog 38 #[.agg #[.string q, .bool fold]] w fun e w' => ∃ g, e = .returned (.pointer (some ⟨g, 0, none⟩)) ∧ w.heap.size ≤ g ∧ Below w.heap.size w w' ∧
      w'.cell? ⟨g, 0, none⟩ = some (.int .u8 ((Swar.bt q 0 : Nat) : Int)) ∧ w'.cell? ⟨g, 1, none⟩ = some (.int .u8 ((Lit.fm2 fold (Swar.bt q 0) : Nat) : Int)) := by
  have hb := Swar.bt_lt q 0
  have hidx : ∀ W, (Instr.index 9 (.string q) (.int .i64 0)).run Tryd.prog W = .ok (.int .u8 ((Swar.bt q 0 : Nat) : Int)) W := by
    intro W
    rw [run_index_string W 9 _ .i64 0 Tryd.underlying9, dif_pos ⟨by omega, by omega⟩]
    simp only [Int.toNat_zero]
    rw [Swar.bt_in]
  generalize Swar.bt q 0 = c at *
  go_enter Tryd.func38, Tryd.ntmps38
  go_wp2_with fail
  refine (forms_any w.heap.size fold c _ hb (by simp [go_sem])).mono ?_
  rintro e w' ⟨rfl, hbl⟩
  have HB := Hid.mk' hbl
  clear hbl
  go_wp2_with fail
  go_ret
  have hz := HB.out.size
  simp at hz
  refine ⟨_, rfl, by omega, (((Below.refl _ _).alloc (Nat.le_refl _) _).trans (HB.out.mono (by simp))).alloc (by omega) _, by simp [go_sem], by simp [go_sem]⟩
end Go.Proofs.YtecoiifmeajicaaDoor
