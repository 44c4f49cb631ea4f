/-
  The law MomentOrder is true. Conditions: ints; the tables lie as the programs' texts lay them.
-/
import Derived.Test.YthmpokndffbkdabDoorOr12
namespace Go.Proofs.YthmpokndffbkdabDoor
open Go.RowKit
set_option linter.unusedVariables false
theorem less_lx : ∀ (a b : List UInt8), Op.bytesLess a b = lx (a.map UInt8.toNat) (b.map UInt8.toNat)
  | [], [] => rfl
  | [], _ :: _ => rfl
  | _ :: _, [] => rfl
  | x :: a, y :: b => by
    rw [Op.bytesLess, List.map_cons, List.map_cons, lx, less_lx a b]
    congr 1
    · congr 1
      rw [Bool.eq_iff_iff]
      simp only [beq_iff_eq, decide_eq_true_eq]
      exact ⟨fun e => by rw [e], fun e => UInt8.toNat_inj.1 e⟩
theorem ord7 {a b N N' T T' y m d h mi s ms y' m' d' h' mi' s' ms' : Nat} (A : Mo.IsDay N y m d) (B : Mo.IsDay N' y' m' d') (ea : a = N * 86400000 + T) (eb : b = N' * 86400000 + T') (t1 : T < 86400000) (t2 : T' < 86400000)
    (eT : T = ((h * 60 + mi) * 60 + s) * 1000 + ms) (eT' : T' = ((h' * 60 + mi') * 60 + s') * 1000 + ms') (a4 : h < 24) (a5 : mi < 60) (a6 : s < 60) (a7 : ms < 1000) (b4 : h' < 24) (b5 : mi' < 60) (b6 : s' < 60) (b7 : ms' < 1000) : lx7 y m d h mi s ms y' m' d' h' mi' s' ms' = decide (a < b) := by
  have hd := day_lt A B
  have hd2 := day_lt B A
  rw [Bool.eq_iff_iff]
  simp only [lx7, Bool.or_eq_true, Bool.and_eq_true, decide_eq_true_eq]
  rcases Nat.lt_trichotomy N N' with l | l | l
  · have h1 := hd.1 l
    have : a < b := by omega
    constructor
    · intro _; exact this
    · intro _
      rcases h1 with h1 | ⟨h1, h2 | ⟨h2, h3⟩⟩
      · exact .inl h1
      · exact .inr ⟨h1, .inl h2⟩
      · exact .inr ⟨h1, .inr ⟨h2, .inl h3⟩⟩
  · subst l
    obtain ⟨rfl, rfl, rfl⟩ := A.same B
    clear hd hd2 A B
    simp only [Nat.lt_irrefl, false_or, true_and]
    omega
  · have h1 := hd2.1 l
    have : ¬ a < b := by omega
    constructor
    · intro h2
      rcases h1 with h1 | ⟨h1, h3 | ⟨h3, h4⟩⟩
      · rcases h2 with h2 | ⟨h2, _⟩ <;> omega
      · rcases h2 with h2 | ⟨h2, h5 | ⟨h5, _⟩⟩ <;> omega
      · rcases h2 with h2 | ⟨h2, h5 | ⟨h5, h6 | ⟨h6, _⟩⟩⟩ <;> omega
    · intro h2; exact absurd h2 this
theorem sh_byt (y m d h mi s ms : Nat) : ∀ z ∈ Mo.sh y m d h mi s ms, z < 256 := by
  intro z hz
  simp only [Mo.sh, List.mem_cons, List.not_mem_nil, or_false] at hz
  omega
/-- what is known of a stamp's text -/
structure ShT (n : Nat) (t : ByteArray) : Prop where
  ex : ∃ y m d, Mo.IsDay (n / 86400000) y m d ∧ Sums.bl t = Mo.sh y m d (n % 86400000 / 3600000) (n % 86400000 % 3600000 / 60000) (n % 86400000 % 60000 / 1000) (n % 86400000 % 1000)
theorem showT (n : Nat) (w : World) (hn : n ≤ 253402300799999) : Calls Tryd.prog 9 #[.int .i64 (n : Int)] w fun e w' => (∃ t, ShT n t ∧ e = .returned (.tuple #[.string t, .int .i64 0])) ∧ Below w.heap.size w w' := by
  refine (show_any n w hn).mono ?_
  rintro e w' ⟨⟨y, m, d, hday, rfl⟩, hb⟩
  exact ⟨⟨_, ⟨y, m, d, hday, bl_nums _ (sh_byt _ _ _ _ _ _ _)⟩, rfl⟩, hb⟩
theorem ShT.less {a b : Nat} {s t : ByteArray} (h : ShT a s) (k : ShT b t) : Op.bytesLess s.toList t.toList = decide (a < b) ∧ (s.toList == t.toList) = decide (a = b) := by
  obtain ⟨y, m, d, A, ea⟩ := h.ex
  obtain ⟨y', m', d', B, eb⟩ := k.ex
  have ya := A.y1
  have yb := B.y1
  have ma := A.m1
  have mb := B.m1
  have da := A.d1
  have db := B.d1
  have da2 := (Mo.md_pos y m).2
  have db2 := (Mo.md_pos y' m').2
  constructor
  · rw [less_lx, ByteArray.toList_eq, ByteArray.toList_eq]
    show lx (Sums.bl s) (Sums.bl t) = _
    rw [ea, eb, sh_lx (by omega) (by omega) (by omega) (by omega) (by omega) (by omega) (by omega) (by omega) (by omega) (by omega) (by omega) (by omega) (by omega) (by omega)]
    exact ord7 (T := a % 86400000) (T' := b % 86400000) A B (by omega) (by omega) (by omega) (by omega) (by omega) (by omega) (by omega) (by omega) (by omega) (by omega) (by omega) (by omega) (by omega) (by omega)
  · rw [Bool.eq_iff_iff]
    simp only [beq_iff_eq, decide_eq_true_eq]
    constructor
    · intro e
      have e2 : Sums.bl s = Sums.bl t := by
        rw [ByteArray.toList_eq, ByteArray.toList_eq] at e
        unfold Sums.bl; rw [e]
      rw [ea, eb] at e2
      obtain ⟨r1, r2, r3, r4, r5, r6, r7⟩ := sh_inj (by omega) (by omega) (by omega) (by omega) (by omega) (by omega) (by omega) (by omega) (by omega) (by omega) (by omega) (by omega) (by omega) (by omega) e2
      subst r1 r2 r3
      have n1 := A.num
      have n2 := B.num
      omega
    · intro e
      subst e
      obtain ⟨rfl, rfl, rfl⟩ := A.same B
      rw [Sums.bl_inj (ea.trans eb.symm)]
theorem ShT.at {n : Nat} {t : ByteArray} (h : ShT n t) (i c : Nat) (hi : i < 24) (hc : ∀ y m d h mi s ms, (Mo.sh y m d h mi s ms).getD i 0 = c) (W : World) : (Instr.index 9 (.string t) (.int .i64 (i : Int))).run Tryd.prog W = .ok (.int .u8 (c : Int)) W := by
  obtain ⟨y, m, d, A, ea⟩ := h.ex
  have hs : t.size = 24 := by rw [← Sums.bl_length, ea]; rfl
  have hg := Sums.bl_get t i (by omega)
  rw [ea, hc] at hg
  rw [run_index_string W 9 _ .i64 (i : Int) Tryd.underlying9, dif_pos ⟨by omega, by omega⟩]
  simp only [Int.toNat_natCast]
  rw [hg]
theorem ShT.size {n : Nat} {t : ByteArray} (h : ShT n t) : t.size = 24 := by
  obtain ⟨y, m, d, A, ea⟩ := h.ex
  rw [← Sums.bl_length, ea]; rfl
end Go.Proofs.YthmpokndffbkdabDoor
