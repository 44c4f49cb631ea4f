/-
  An image says its head's numbers and its lines: two of them are one, or differ. Conditions: as each says.
-/
import Derived.Test.YtlplbnlfajdcbaaGreatDoorBkQ
namespace Go.Proofs.YtlplbnlfajdcbaaGreatDoor
open Go.RowKit
set_option linter.unusedVariables false
set_option linter.unusedSimpArgs false
theorem str_eql (a b : ByteArray) (w : World) : (binOp .eql 9 (.string a) (.string b)).run Tryz.prog w = .ok (.bool (decide (a = b))) w := by
  by_cases h : a = b
  · subst h
    simp [go_sem]
  · have h2 : ¬ a.toList = b.toList := by
      intro e
      rw [ByteArray.toList_eq, ByteArray.toList_eq] at e
      exact h (ByteArray.ext (Array.toList_inj.1 e))
    simp [go_sem, h, h2]
theorem eql_headB (a b f g a' b' f' g' : Int) (w : World) : (binOp .eql 23 (hdV a b 0 0 0 f g 0 0) (hdV a' b' 0 0 0 f' g' 0 0)).run Tryz.prog w = .ok (.bool (decide (a = a' ∧ b = b' ∧ f = f' ∧ g = g'))) w := by
  have hi3 := Tryz.underlying3
  have hu := Tryz.underlying23
  have hst : Tryz.prog.underlying 23 = some (.struct (Tryz.prog.fieldsOf 23)) := by kernel_rfl
  obtain ⟨j, r1, r2, r3, r4⟩ := info_parts infoI
  unfold hdV
  rw [run_eql_struct, run_equalIn_struct w 9999 23 _ _ hst (by kernel_rfl)]
  have hfo := TypeDesc.struct.inj (Option.some.inj (hst.symm.trans hu))
  rw [hfo]
  simp [Op.eqFields, part, run_underlying hi3, typeInfo, sizeOf, r1, r2, r3, go_sem, run_equalIn_int _ 9998 3 .i64 .i64 _ _ hi3]
  by_cases e0 : a = a' <;> by_cases e1 : b = b' <;> by_cases e2 : f = f' <;> by_cases e3 : g = g' <;> simp [e0, e1, e2, e3]
theorem pkL_inj {s t : ByteArray} {g : Nat} (h : pkL s g = pkL t g) (hst : s.size = t.size) : s = t := by
  have h1 := packC_exp s (lvC s g) (lvC_tru s g) s.size (Nat.le_refl _)
  have h2 := packC_exp t (lvC t g) (lvC_tru t g) s.size (by omega)
  unfold pkL at h
  rw [h] at h1
  have h3 := h1.symm.trans h2
  unfold tup3 at h3
  simp at h3
  exact h3
theorem payT_inj {l m : List Rec.Ln} (hl : Fine l) (hm : Fine m) (h : payT l = payT m) : l = m := by
  have h1 := dec_pay l hl
  have h2 := dec_pay m hm
  rw [h] at h1
  have h3 := h1.trans h2.symm
  simp at h3
  exact h3
theorem wsL_lt (a b f g : Nat) (l : List Rec.Ln) (hl : Fine l) (ha : a ≤ 1152921504606846976) (hb : b ≤ 1152921504606846976) (hf : f ≤ 1152921504606846976) : ∀ k, k < 8 → (wsL a b f g l).getD k 0 < 256 ^ 8 := by
  have h1 := hl.len
  obtain ⟨x, hx, hmn⟩ := mn_in l hl.one
  obtain ⟨y, hy, hmx⟩ := mx_in l hl.one
  have b1 := bad_st (hl.all x hx)
  have b2 := bad_st (hl.all y hy)
  have hP := payT_size l
  have hPs := hl.size
  have hps := pkL_size (payT l) g
  intro k hk
  rcases (show k = 0 ∨ k = 1 ∨ k = 2 ∨ k = 3 ∨ k = 4 ∨ k = 5 ∨ k = 6 ∨ k = 7 by omega) with rfl | rfl | rfl | rfl | rfl | rfl | rfl | rfl
  · show a < 256 ^ 8
    omega
  · show b < 256 ^ 8
    omega
  · show l.length < 256 ^ 8
    omega
  · show (Rec.mn l).toNat < 256 ^ 8
    omega
  · show (Rec.mx l).toNat < 256 ^ 8
    omega
  · show f < 256 ^ 8
    omega
  · show (payT l).size < 256 ^ 8
    omega
  · show (pkL (payT l) g).size < 256 ^ 8
    omega
theorem imgL_inj {a b f g a' b' f' g' : Nat} {l m : List Rec.Ln} (hl : Fine l) (hm : Fine m) (ha : a ≤ 1152921504606846976) (hb : b ≤ 1152921504606846976) (hf : f ≤ 1152921504606846976) (hg : g ≤ 2) (ha' : a' ≤ 1152921504606846976) (hb' : b' ≤ 1152921504606846976) (hf' : f' ≤ 1152921504606846976) (hg' : g' ≤ 2)
    (h : nums (imgL a b f g l) = nums (imgL a' b' f' g' m)) : (a = a' ∧ b = b' ∧ f = f' ∧ g = g') ∧ l = m := by
  have hw := wsL_lt a b f g l hl ha hb hf
  have hw' := wsL_lt a' b' f' g' m hm ha' hb' hf'
  have l1 : (wsL a b f g l).length = 8 := rfl
  have l2 : (wsL a' b' f' g' m).length = 8 := rfl
  have hby : ∀ ws p q, ∀ z ∈ smd (hdL ws p) ++ smd (Sums.bl q), z < 256 := by
    intro ws p q z hz
    rcases List.mem_append.1 hz with h1 | h1
    · exact smd_byt _ (hdL_byt _ _) z h1
    · exact smd_byt _ (Sums.bl_byt _) z h1
  have h1 : imgL a b f g l = imgL a' b' f' g' m := by
    have h2 := congrArg Sums.bl h
    rw [bl_nums _ (by unfold imgL; exact hby _ _ _), bl_nums _ (by unfold imgL; exact hby _ _ _)] at h2
    exact h2
  unfold imgL smd at h1
  rw [List.append_assoc, List.append_assoc] at h1
  obtain ⟨h2, h3⟩ := List.append_inj h1 (by rw [hdL_len _ _ l1, hdL_len _ _ l2])
  obtain ⟨-, h4⟩ := List.append_inj h3 (by rw [smL_len, smL_len])
  rw [hdL_eq _ _ l1, hdL_eq _ _ l2, List.append_assoc, List.append_assoc] at h2
  obtain ⟨-, h5⟩ := List.append_inj h2 rfl
  have hfl : ∀ ws : List Nat, ws.length = 8 → (ws.flatMap (fixL 8)).length = 64 := by
    intro ws hws
    have e := hdL_len ws 0 hws
    rw [hdL_eq _ _ hws] at e
    simp only [List.length_append, List.length_cons, List.length_nil] at e
    omega
  obtain ⟨h6, h7⟩ := List.append_inj h5 (by rw [hfl _ l1, hfl _ l2])
  have hk : ∀ k, k < 8 → (wsL a b f g l).getD k 0 = (wsL a' b' f' g' m).getD k 0 := by
    intro k hk
    rw [← leAt_flat _ k (by rw [l1]; exact hk) (hw k hk), ← leAt_flat _ k (by rw [l2]; exact hk) (hw' k hk), h6]
  have ea : a = a' := hk 0 (by decide)
  have eb : b = b' := hk 1 (by decide)
  have ef : f = f' := hk 5 (by decide)
  have er : (payT l).size = (payT m).size := hk 6 (by decide)
  have ep : (pkL (payT l) g).size = (pkL (payT m) g').size := hk 7 (by decide)
  have eg : g = g' := by
    simp at h7
    omega
  subst eg
  obtain ⟨h8, -⟩ := List.append_inj h4 (by rw [Sums.bl_length, Sums.bl_length]; exact ep)
  have h9 : pkL (payT l) g = pkL (payT m) g := by
    have e := congrArg nums h8
    rw [nums_bl, nums_bl] at e
    exact e
  exact ⟨⟨ea, eb, ef, rfl⟩, payT_inj hl hm (pkL_inj h9 er)⟩
end Go.Proofs.YtlplbnlfajdcbaaGreatDoor
