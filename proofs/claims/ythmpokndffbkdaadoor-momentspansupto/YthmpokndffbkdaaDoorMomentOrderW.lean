/-
  The law MomentOrder is true. Conditions: ints; the tables lie as the programs' texts lay them.
-/
import Derived.Test.YthmpokndffbkdaaDoorOr12
namespace Go.Proofs.YthmpokndffbkdaaDoor
open Go.RowKit
set_option linter.unusedVariables false
theorem less_lx : ∀ (a b : List UInt8), Op.bytesLess a b = lx (a.map UInt8.toNat) (b.map UInt8.toNat)
  | [], [] => rfl
  | [], _ :: _ => rfl
  | _ :: _, [] => rfl
  | x :: a, y :: b => by
    rw [Op.bytesLess, List.map_cons, List.map_cons, lx, less_lx a b]
    congr 1
    · congr 1
      rw [Bool.eq_iff_iff]
      simp only [beq_iff_eq, decide_eq_true_eq]
      exact ⟨fun e => by rw [e], fun e => UInt8.toNat_inj.1 e⟩
theorem ord7 {a b N N' T T' y m d h mi s ms y' m' d' h' mi' s' ms' : Nat} (A : Mo.IsDay N y m d) (B : Mo.IsDay N' y' m' d') (ea : a = N * 86400000 + T) (eb : b = N' * 86400000 + T') (t1 : T < 86400000) (t2 : T' < 86400000)
    (eT : T = ((h * 60 + mi) * 60 + s) * 1000 + ms) (eT' : T' = ((h' * 60 + mi') * 60 + s') * 1000 + ms') (a4 : h < 24) (a5 : mi < 60) (a6 : s < 60) (a7 : ms < 1000) (b4 : h' < 24) (b5 : mi' < 60) (b6 : s' < 60) (b7 : ms' < 1000) : lx7 y m d h mi s ms y' m' d' h' mi' s' ms' = decide (a < b) := by
  have hd := day_lt A B
  have hd2 := day_lt B A
  rw [Bool.eq_iff_iff]
  simp only [lx7, Bool.or_eq_true, Bool.and_eq_true, decide_eq_true_eq]
  rcases Nat.lt_trichotomy N N' with l | l | l
  · have h1 := hd.1 l
    have : a < b := by omega
    constructor
    · intro _; exact this
    · intro _
      rcases h1 with h1 | ⟨h1, h2 | ⟨h2, h3⟩⟩
      · exact .inl h1
      · exact .inr ⟨h1, .inl h2⟩
      · exact .inr ⟨h1, .inr ⟨h2, .inl h3⟩⟩
  · subst l
    obtain ⟨rfl, rfl, rfl⟩ := A.same B
    clear hd hd2 A B
    simp only [Nat.lt_irrefl, false_or, true_and]
    omega
  · have h1 := hd2.1 l
    have : ¬ a < b := by omega
    constructor
    · intro h2
      rcases h1 with h1 | ⟨h1, h3 | ⟨h3, h4⟩⟩
      · rcases h2 with h2 | ⟨h2, _⟩ <;> omega
      · rcases h2 with h2 | ⟨h2, h5 | ⟨h5, _⟩⟩ <;> omega
      · rcases h2 with h2 | ⟨h2, h5 | ⟨h5, h6 | ⟨h6, _⟩⟩⟩ <;> omega
    · intro h2; exact absurd h2 this
theorem sh_byt (y m d h mi s ms : Nat) : ∀ z ∈ Mo.sh y m d h mi s ms, z < 256 := by
  intro z hz
  simp only [Mo.sh, List.mem_cons, List.not_mem_nil, or_false] at hz
  omega
/-- what is known of a stamp's text -/
structure ShT (n : Nat) (t : ByteArray) : Prop where
  ex : ∃ y m d, Mo.IsDay (n / 86400000) y m d ∧ Sums.bl t = Mo.sh y m d (n % 86400000 / 3600000) (n % 86400000 % 3600000 / 60000) (n % 86400000 % 60000 / 1000) (n % 86400000 % 1000)
theorem showT (n : Nat) (w : World) (hn : n ≤ 253402300799999) : Calls Tryd.prog 15 #[.int .i64 (n : Int)] w fun e w' => (∃ t, ShT n t ∧ e = .returned (.tuple #[.string t, .int .i64 0])) ∧ Below w.heap.size w w' := by
  refine (show_any n w hn).mono ?_
  rintro e w' ⟨⟨y, m, d, hday, rfl⟩, hb⟩
  exact ⟨⟨_, ⟨y, m, d, hday, bl_nums _ (sh_byt _ _ _ _ _ _ _)⟩, rfl⟩, hb⟩
theorem ShT.less {a b : Nat} {s t : ByteArray} (h : ShT a s) (k : ShT b t) : Op.bytesLess s.toList t.toList = decide (a < b) ∧ (s.toList == t.toList) = decide (a = b) := by
  obtain ⟨y, m, d, A, ea⟩ := h.ex
  obtain ⟨y', m', d', B, eb⟩ := k.ex
  have ya := A.y1
  have yb := B.y1
  have ma := A.m1
  have mb := B.m1
  have da := A.d1
  have db := B.d1
  have da2 := (Mo.md_pos y m).2
  have db2 := (Mo.md_pos y' m').2
  constructor
  · rw [less_lx, ByteArray.toList_eq, ByteArray.toList_eq]
    show lx (Sums.bl s) (Sums.bl t) = _
    rw [ea, eb, sh_lx (by omega) (by omega) (by omega) (by omega) (by omega) (by omega) (by omega) (by omega) (by omega) (by omega) (by omega) (by omega) (by omega) (by omega)]
    exact ord7 (T := a % 86400000) (T' := b % 86400000) A B (by omega) (by omega) (by omega) (by omega) (by omega) (by omega) (by omega) (by omega) (by omega) (by omega) (by omega) (by omega) (by omega) (by omega)
  · rw [Bool.eq_iff_iff]
    simp only [beq_iff_eq, decide_eq_true_eq]
    constructor
    · intro e
      have e2 : Sums.bl s = Sums.bl t := by
        rw [ByteArray.toList_eq, ByteArray.toList_eq] at e
        unfold Sums.bl; rw [e]
      rw [ea, eb] at e2
      obtain ⟨r1, r2, r3, r4, r5, r6, r7⟩ := sh_inj (by omega) (by omega) (by omega) (by omega) (by omega) (by omega) (by omega) (by omega) (by omega) (by omega) (by omega) (by omega) (by omega) (by omega) e2
      subst r1 r2 r3
      have n1 := A.num
      have n2 := B.num
      omega
    · intro e
      subst e
      obtain ⟨rfl, rfl, rfl⟩ := A.same B
      rw [Sums.bl_inj (ea.trans eb.symm)]
theorem ShT.at {n : Nat} {t : ByteArray} (h : ShT n t) (i c : Nat) (hi : i < 24) (hc : ∀ y m d h mi s ms, (Mo.sh y m d h mi s ms).getD i 0 = c) (W : World) : (Instr.index 9 (.string t) (.int .i64 (i : Int))).run Tryd.prog W = .ok (.int .u8 (c : Int)) W := by
  obtain ⟨y, m, d, A, ea⟩ := h.ex
  have hs : t.size = 24 := by rw [← Sums.bl_length, ea]; rfl
  have hg := Sums.bl_get t i (by omega)
  rw [ea, hc] at hg
  rw [run_index_string W 9 _ .i64 (i : Int) Tryd.underlying9, dif_pos ⟨by omega, by omega⟩]
  simp only [Int.toNat_natCast]
  rw [hg]
theorem ShT.size {n : Nat} {t : ByteArray} (h : ShT n t) : t.size = 24 := by
  obtain ⟨y, m, d, A, ea⟩ := h.ex
  rw [← Sums.bl_length, ea]; rfl
set_option maxRecDepth 100000 in
set_option maxHeartbeats 4000000 in
theorem momentOrder_any (one two : Int) (w : World) (hs0 : -9223372036854775808 ≤ one) (hs1 : one ≤ 9223372036854775807) (hw0 : -9223372036854775808 ≤ two) (hw1 : two ≤ 9223372036854775807) (hu : UnT w) (hp : Pow w) :
    Calls Tryd.prog 7 #[.int .i64 one, .int .i64 two] w fun e w' => e = .returned (.bool true) ∧ Below w.heap.size w w' := by
  have HK := Hid.mk' (known_any w hu hp)
  have P1 := Hid.mk' (fun w => pick_any one 253402300800000 w hs0 hs1 (by decide) (by decide))
  have P2 := Hid.mk' (fun w => pick_any two 253402300800000 w hw0 hw1 (by decide) (by decide))
  clear hu hp hs0 hs1 hw0 hw1
  go_enter Tryd.func7, Tryd.ntmps7
  go_wp2_with fail
  refine HK.out.mono ?_
  rintro e w1 ⟨rfl, hlw⟩
  have B1 := Hid.mk' hlw.bel
  clear hlw HK
  go_wp2_with fail
  refine (P1.out _).mono ?_
  rintro e w2 ⟨⟨a, ha, rfl⟩, hw⟩
  have hw2 := hw.symm
  subst hw2
  clear hw P1
  go_wp2_with fail
  refine (P2.out _).mono ?_
  rintro e w3 ⟨⟨b, hb, rfl⟩, hw⟩
  have hw2 := hw.symm
  subst hw2
  clear hw P2
  go_wp2_with fail
  refine (showT a _ (by omega)).mono ?_
  rintro e w4 ⟨⟨s, S1, rfl⟩, hb4⟩
  have B4 := Hid.mk' (B1.out.trans (hb4.mono B1.out.size))
  have HS1 := Hid.mk' S1
  clear hb4 B1 S1
  go_wp2_with fail
  refine (showT b _ (by omega)).mono ?_
  rintro e w5 ⟨⟨t, T1, rfl⟩, hb5⟩
  have B5 := Hid.mk' (B4.out.trans (hb5.mono B4.out.size))
  have HT1 := Hid.mk' T1
  clear hb5 B4 T1
  have z1 : (s.size : Int) = 24 := by have := HS1.out.size; omega
  have z2 : (t.size : Int) = 24 := by have := HT1.out.size; omega
  have z3 := HS1.out.size
  have z4 := HT1.out.size
  have i23 : ∀ W, (Instr.index 9 (.string s) (.int .i64 23)).run Tryd.prog W = .ok (.int .u8 90) W := HS1.out.at 23 90 (by decide) (fun _ _ _ _ _ _ _ => rfl)
  have i10 : ∀ W, (Instr.index 9 (.string s) (.int .i64 10)).run Tryd.prog W = .ok (.int .u8 84) W := HS1.out.at 10 84 (by decide) (fun _ _ _ _ _ _ _ => rfl)
  obtain ⟨l1, l2⟩ := HS1.out.less HT1.out
  rcases Nat.lt_trichotomy a b with c | c | c
  · have q1 : decide (a < b) = true := by simp; omega
    have q2 : decide (a = b) = false := by simp; omega
    have q3 : decide ((a : Int) < (b : Int)) = true := by simp; omega
    have q4 : ((a : Int) == (b : Int)) = false := by simp; omega
    rw [q1] at l1
    rw [q2] at l2
    clear q1 q2
    have c2 : ¬ a = b := by omega
    have c3 : decide (a < b) = true := by simp; omega
    go_wp2_with fail
    go_ret
    exact ⟨rfl, B5.out⟩
  · have q1 : decide (a < b) = false := by simp; omega
    have q2 : decide (a = b) = true := by simp; omega
    rw [q1] at l1
    rw [q2] at l2
    subst c
    clear q1 q2
    go_wp2_with fail
    go_ret
    exact ⟨rfl, B5.out⟩
  · have q1 : decide (a < b) = false := by simp; omega
    have q2 : decide (a = b) = false := by simp; omega
    have q3 : decide ((a : Int) < (b : Int)) = false := by simp; omega
    have q4 : ((a : Int) == (b : Int)) = false := by simp; omega
    rw [q1] at l1
    rw [q2] at l2
    clear q1 q2
    have c4 : ¬ a < b := by omega
    have c2 : ¬ a = b := by omega
    have c3 : decide (a < b) = false := by simp; omega
    go_wp2_with fail
    go_ret
    exact ⟨rfl, B5.out⟩
end Go.Proofs.YthmpokndffbkdaaDoor
