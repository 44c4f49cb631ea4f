/-
  What put and take of waiting bits do. Conditions: as each says.
-/
import Derived.Test.YthmaaeibdcoemaaBld
import Derived.Test.YthmaaeibdcoemaaCodeB
namespace Go.Proofs.Ythmaaeibdcoemaa
open Go.RowKit
set_option linter.unusedVariables false
/-- block g holds b bits that wait, as the number v -/
def Wt (g v b : Nat) (w : World) : Prop := ∃ held : Nat, held < 4294967296 ∧ held % 2 ^ b = v ∧ w.heap[g]? = some (.cells #[.int .u32 (held : Int), .int .i64 (b : Int)] 73 (0, 0))
theorem Wt.lt {g v b : Nat} {w : World} (h : Wt g v b w) : g < w.heap.size := by
  obtain ⟨_, _, _, h⟩ := h
  exact (Array.getElem?_eq_some_iff.1 h).1
theorem Wt.c1 {g v b : Nat} {w : World} (h : Wt g v b w) : w.cell? ⟨g, 1, none⟩ = some (.int .i64 (b : Int)) := by
  obtain ⟨_, _, _, h⟩ := h
  rw [Lib.cell_of_heap h]; rfl
theorem Wt.rest {g v b k : Nat} {w w' : World} (h : Wt g v b w) (hr : Rest k w w') (hk : g ≠ k) : Wt g v b w' := by
  obtain ⟨held, h1, h2, h⟩ := h
  exact ⟨held, h1, h2, hr g _ _ hk (by decide) h⟩
theorem Wt.below {g v b B : Nat} {w w' : World} (h : Wt g v b w) (hb : Below B w w') (hg : g < B) : Wt g v b w' := by
  obtain ⟨held, h1, h2, h⟩ := h
  exact ⟨held, h1, h2, (hb.block g hg).trans h⟩
theorem Bld.only {B b g v n : Nat} {p : Value} {l : List Nat} {w w' : World} (h : Bld B b p l w) (ho : Only g w w') (hw : Wt g v n w) (hb : b ≠ g) : Bld B b p l w' := by
  obtain ⟨hB, x, hbk, hown, hne⟩ := h
  obtain ⟨held, _, _, hg⟩ := hw
  refine ⟨hB, x, (ho.block b (Array.getElem?_eq_some_iff.1 hbk).1 hb).trans hbk, ?_, hne⟩
  exact hown.kept (row := some g) ⟨ho.os, ho.tape, ho.output, ho.size, fun k hk hkg => ho.block k hk (fun e => hkg (by rw [e]))⟩ (Or.inr (Lib.ownBlock_ne hown hg (by decide)))
theorem shl_low (held n grp : Nat) (hg : grp < 2 ^ n) (hn : n ≤ 32) : (held * 2 ^ n % 4294967296) ||| grp = (held * 2 ^ n + grp) % 4294967296 := by
  have e : 4294967296 = 2 ^ n * 2 ^ (32 - n) := by
    rw [← Nat.pow_add, show n + (32 - n) = 32 by omega]
  have h1 : held * 2 ^ n % 4294967296 = 2 ^ n * (held % 2 ^ (32 - n)) := by
    rw [e, Nat.mul_comm held, Nat.mul_mod_mul_left]
  have h2 := Nat.two_pow_add_eq_or_of_lt hg (held % 2 ^ (32 - n))
  rw [h1, ← h2]
  have hp : 0 < 2 ^ (32 - n) := Nat.two_pow_pos _
  have hl : 2 ^ n * (held % 2 ^ (32 - n)) + grp < 4294967296 := by
    have h3 : held % 2 ^ (32 - n) + 1 ≤ 2 ^ (32 - n) := Nat.mod_lt _ hp
    have h4 : 2 ^ n * (held % 2 ^ (32 - n) + 1) ≤ 2 ^ n * 2 ^ (32 - n) := Nat.mul_le_mul_left _ h3
    rw [Nat.mul_add, Nat.mul_one] at h4
    omega
  have h5 : (held * 2 ^ n + grp) % 4294967296 = (held * 2 ^ n % 4294967296 + grp) % 4294967296 := by rw [Nat.mod_add_mod]
  rw [h5, h1, Nat.mod_eq_of_lt hl]
theorem put_mod (held b n grp : Nat) (hg : grp < 2 ^ n) (hb : b + n ≤ 32) : (held * 2 ^ n + grp) % 4294967296 % 2 ^ (b + n) = held % 2 ^ b * 2 ^ n + grp := by
  have hd : 2 ^ (b + n) ∣ 4294967296 := ⟨2 ^ (32 - (b + n)), by rw [← Nat.pow_add, show b + n + (32 - (b + n)) = 32 by omega]⟩
  rw [Nat.mod_mod_of_dvd _ hd, Nat.pow_add]
  have h1 : held = 2 ^ b * (held / 2 ^ b) + held % 2 ^ b := (Nat.div_add_mod held (2 ^ b)).symm
  have h2 : held * 2 ^ n + grp = 2 ^ b * 2 ^ n * (held / 2 ^ b) + (held % 2 ^ b * 2 ^ n + grp) := by
    conv => lhs; rw [h1]
    rw [Nat.add_mul, Nat.add_assoc]
    congr 1
    rw [Nat.mul_right_comm]
  have h3 : held % 2 ^ b * 2 ^ n + grp < 2 ^ b * 2 ^ n := by
    have hp : 0 < 2 ^ b := Nat.two_pow_pos _
    have h4 : held % 2 ^ b + 1 ≤ 2 ^ b := Nat.mod_lt _ hp
    have h5 : (held % 2 ^ b + 1) * 2 ^ n ≤ 2 ^ b * 2 ^ n := Nat.mul_le_mul_right _ h4
    rw [Nat.add_mul, Nat.one_mul] at h5
    omega
  rw [h2, Nat.mul_add_mod, Nat.mod_eq_of_lt h3]
theorem put_or (held n grp : Nat) (hg : grp < 2 ^ n) (hn : n ≤ 31) : bits .or .u32 ((held : Int) * 2 ^ n % 4294967296) (grp : Int) = (((held * 2 ^ n + grp) % 4294967296 : Nat) : Int) := by
  rw [show (held : Int) * 2 ^ n % 4294967296 = ((held * 2 ^ n % 4294967296 : Nat) : Int) by simp, u32_or_nat _ _ (by omega) ?_, shl_low held n grp hg (by omega)]
  have : 2 ^ n ≤ 2 ^ 31 := Nat.pow_le_pow_right (by decide) hn
  omega
set_option maxRecDepth 100000 in
set_option maxHeartbeats 1000000 in
theorem put_any (g v b grp n : Nat) (w : World) (h : Wt g v b w) (hn : n = 2 ∨ n = 4 ∨ n = 6 ∨ n = 8) (hb : b ≤ 12) (hg : grp < 2 ^ n) :
    Calls Try.prog 39 #[.pointer (some ⟨g, 0, none⟩), .int .u32 (grp : Int), .int .i64 (n : Int)] w fun e w' => e = .returned (.tuple #[]) ∧ Wt g (v * 2 ^ n + grp) (b + n) w' ∧ Only g w w' := by
  obtain ⟨held, hh, hv, hk⟩ := h
  have hp : Put g 73 [.int .u32 (held : Int), .int .i64 (b : Int)] w w := Put.refl hk
  have c0 : w.cell? ⟨g, 0, none⟩ = some (.int .u32 (held : Int)) := hp.cell _ rfl
  have c1 : w.cell? ⟨g, 1, none⟩ = some (.int .i64 (b : Int)) := hp.cell _ rfl
  have f0 : w.frozen? ⟨g, 0, none⟩ = false := hp.frozen
  have f1 : w.frozen? ⟨g, 1, none⟩ = false := hp.frozen
  have hb2 : (b : Int) ≤ 12 := by omega
  have hh2 : (held : Int) < 4294967296 := by omega
  obtain ⟨r, HRr⟩ : ∃ r, Hid (r = (held * 2 ^ n + grp) % 4294967296) := ⟨_, rfl⟩
  have hor : bits .or .u32 ((held : Int) * 2 ^ n % 4294967296) (grp : Int) = (r : Int) := by rw [HRr.out]; exact put_or held n grp hg (by omega)
  have FIN : Hid (∀ w', w' = (w.setCell ⟨g, 0, none⟩ (.int .u32 (r : Int))).setCell ⟨g, 1, none⟩ (.int .i64 ((b : Int) + (n : Int))) → Wt g (v * 2 ^ n + grp) (b + n) w' ∧ Only g w w') := by
    intro w' hw'
    have P1 := hp.setCell (o := 0) (.int .u32 (r : Int))
    have P2 := P1.setCell (o := 1) (.int .i64 ((b : Int) + (n : Int)))
    rw [hw']
    refine ⟨⟨r, by rw [HRr.out]; exact Nat.mod_lt _ (by decide), ?_, ?_⟩, P2.only⟩
    · rw [HRr.out, put_mod held b n grp hg (by omega), hv]
    · have := P2.row
      exact this
  have HV := Hid.mk' hv
  have HP := Hid.mk' hp
  clear hv hp hk hh hb hg
  rcases hn with rfl | rfl | rfl | rfl
  all_goals
    simp only [Int.reducePow] at hor
    go_enter Try.func39, Try.ntmps39
    go_wp2_with fail
    go_end0
    exact ⟨rfl, FIN.out _ rfl⟩
theorem take_and (held b n d : Nat) (hh : held < 4294967296) (hb : b = d + n) (hn : n ≤ 8) : bits .and .u32 ((held : Int) / 2 ^ d) (2 ^ n - 1) = ((held % 2 ^ b / 2 ^ d : Nat) : Int) := by
  have hp : 2 ^ n ≤ 2 ^ 8 := Nat.pow_le_pow_right (by decide) hn
  have hp1 : 1 ≤ 2 ^ n := Nat.one_le_two_pow
  have hq : held / 2 ^ d ≤ held := Nat.div_le_self _ _
  rw [show (held : Int) / 2 ^ d = ((held / 2 ^ d : Nat) : Int) by simp, show (2 : Int) ^ n - 1 = ((2 ^ n - 1 : Nat) : Int) by rw [Int.ofNat_sub hp1]; simp, u32_and_nat _ _ (by omega) (by omega), Nat.and_two_pow_sub_one_eq_mod, hb, Nat.pow_add, Nat.mod_mul_right_div_self]
set_option maxRecDepth 100000 in
set_option maxHeartbeats 2000000 in
theorem take_any (g v b n d : Nat) (w : World) (h : Wt g v b w) (hn : (n = 6 ∨ n = 8 ∨ n = 2 ∨ n = 4) ∧ (d = 0 ∨ d = 2 ∨ d = 4 ∨ d = 6)) (hb : b = d + n) :
    Calls Try.prog 41 #[.pointer (some ⟨g, 0, none⟩), .int .i64 (n : Int)] w fun e w' => e = .returned (.int .u32 ((v / 2 ^ d : Nat) : Int)) ∧ Wt g (v % 2 ^ d) d w' ∧ Only g w w' := by
  obtain ⟨held, hh, hv, hk⟩ := h
  have hp : Put g 73 [.int .u32 (held : Int), .int .i64 (b : Int)] w w := Put.refl hk
  have c0 : w.cell? ⟨g, 0, none⟩ = some (.int .u32 (held : Int)) := hp.cell _ rfl
  have c1 : w.cell? ⟨g, 1, none⟩ = some (.int .i64 (b : Int)) := hp.cell _ rfl
  have f1 : w.frozen? ⟨g, 1, none⟩ = false := hp.frozen
  have hh2 : (held : Int) < 4294967296 := by omega
  obtain ⟨r, HRr⟩ : ∃ r, Hid (r = v / 2 ^ d) := ⟨_, rfl⟩
  rw [← HRr.out]
  have hand : bits .and .u32 ((held : Int) / 2 ^ d) (2 ^ n - 1) = (r : Int) := by rw [HRr.out, ← hv]; exact take_and held b n d hh hb (by omega)
  have hsub : (b : Int) - (n : Int) = (d : Int) := by omega
  have HV := Hid.mk' hv
  have P1 := hp.setCell (o := 1) (.int .i64 (d : Int))
  obtain ⟨w1, hw1⟩ : ∃ w1, w1 = w.setCell ⟨g, 1, none⟩ (.int .i64 (d : Int)) := ⟨_, rfl⟩
  rw [← hw1] at P1
  have FIN : Hid (∀ m, Wt g (v % 2 ^ d) d (w1.drewN m) ∧ Only g w (w1.drewN m)) := by
    intro m
    refine ⟨⟨held, hh, ?_, P1.row⟩, P1.only.drewN m⟩
    rw [← hv, hb, Nat.pow_add, Nat.mod_mul_right_mod]
  have d0 : w1.cell? ⟨g, 0, none⟩ = some (.int .u32 (held : Int)) := P1.cell _ rfl
  have d1 : w1.cell? ⟨g, 1, none⟩ = some (.int .i64 (d : Int)) := P1.cell _ rfl
  have HW1 := Hid.mk' hw1
  clear hv hp hk hh P1 hw1
  obtain ⟨hn, hd⟩ := hn
  rcases hn with rfl | rfl | rfl | rfl <;> rcases hd with rfl | rfl | rfl | rfl
  all_goals
    subst hb
    simp only [Int.reducePow, Int.reduceSub, Int.pow_zero, Int.ediv_one] at hand
    clear hsub
    go_enter Try.func41, Try.ntmps41
    go_wp2_with fail
    have e := HW1.out
    push_cast at e d1
    rw [← e]
    clear e c0 c1 f1
    go_quiet (fail)
    go_wp2_with fail
    go_ret
    exact ⟨rfl, FIN.out _⟩
end Go.Proofs.Ythmaaeibdcoemaa
