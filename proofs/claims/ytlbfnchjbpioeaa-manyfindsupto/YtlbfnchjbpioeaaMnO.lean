/-
  The laws' shown: the chapter's four words. Conditions: as each says.
-/
import Derived.Test.YtlbfnchjbpioeaaMnN
namespace Mn
def wL : List ByteArray := [⟨#[104, 101]⟩, ⟨#[115, 104, 101]⟩, ⟨#[104, 105, 115]⟩, ⟨#[104, 101, 114, 115]⟩]
def uL : ByteArray := ⟨#[117, 115, 104, 101, 114, 115]⟩
def xL : ByteArray := ⟨#[120, 32, 104, 105, 115]⟩
def yL : ByteArray := ⟨#[104, 105, 32, 115]⟩
theorem wL_bad : ((List.range 4).all fun k => bad false wL k == false) = true := by decide +kernel
theorem wL_good : Good false wL := ⟨by decide, by decide, fun k hk => by
  have h := wL_bad
  rw [List.all_eq_true] at h
  have := h k (by rw [List.mem_range]; exact hk)
  simpa using this⟩
theorem wL_ns : (nsOf (wds false wL)).length = 10 := by decide +kernel
end Mn
namespace Go.Proofs.Ytlbfnchjbpioeaa
open Go.RowKit Go.Shelf
set_option linter.unusedVariables false
theorem wL_has : Mn.hasL (Mn.wds false Mn.wL) (tx false Mn.uL) = [0, 1, 3] := by decide +kernel
theorem wL_fst : Mn.fstF (Mn.nsOf (Mn.wds false Mn.wL)) (Mn.wds false Mn.wL) (tx false Mn.uL) [] 0 0 (-1) = (1, 1) := by decide +kernel
theorem wL_x : (Mn.fstF (Mn.nsOf (Mn.wds false Mn.wL)) (Mn.wds false Mn.wL) (tx false Mn.xL) [] 0 0 (-1)).2 ≠ -1 := by decide +kernel
theorem wL_y : (Mn.fstF (Mn.nsOf (Mn.wds false Mn.wL)) (Mn.wds false Mn.wL) (tx false Mn.yL) [] 0 0 (-1)).2 = -1 := by decide +kernel
theorem states_many (B sb : Nat) (W : List (List Nat)) (fold : Bool) (w : World) (h : ManyM B sb W fold w) :
    Calls Try.prog 12 #[.pointer (some ⟨sb, 0, none⟩)] w fun e w' => e = .returned (.int .i64 ((Mn.nsOf W).length : Int)) ∧ w' = w := by
  obtain ⟨g, cn, g2, cw, h⟩ := h
  exact states_any w h
theorem wL_at (w : World) : StrAt (w.alloc (.cells #[.string ⟨#[104, 101]⟩, .string ⟨#[115, 104, 101]⟩, .string ⟨#[104, 105, 115]⟩, .string ⟨#[104, 101, 114, 115]⟩] 9)) (some ⟨w.heap.size, 0, none⟩) Mn.wL := by
  intro i hi
  have hn := heap_alloc_new w (.cells #[.string ⟨#[104, 101]⟩, .string ⟨#[115, 104, 101]⟩, .string ⟨#[104, 105, 115]⟩, .string ⟨#[104, 101, 114, 115]⟩] 9)
  refine ⟨w.heap.size, 0, rfl, ?_⟩
  simp only [World.cell?, hn]
  have hi4 : i < 4 := hi
  match i, hi4 with
  | 0, _ => rfl
  | 1, _ => rfl
  | 2, _ => rfl
  | 3, _ => rfl
theorem new_shown (w : World) (b : Nat) (hb : w.heap.size = b) :
    Calls Try.prog 9 #[.slice (some ⟨b, 0, none⟩) 4 4, .bool false] (w.alloc (.cells #[.string ⟨#[104, 101]⟩, .string ⟨#[115, 104, 101]⟩, .string ⟨#[104, 105, 115]⟩, .string ⟨#[104, 101, 114, 115]⟩] 9)) fun e w' => ∃ sb, e = .returned (.tuple #[.pointer (some ⟨sb, 0, none⟩), .int .i64 0, .int .i64 0]) ∧ ManyM (b + 1) sb (Mn.wds false Mn.wL) false w' ∧ Below b w w' := by
  subst hb
  refine (new_any (some ⟨w.heap.size, 0, none⟩) 4 Mn.wL false _ (wL_at w) (by decide) (by decide) (by decide) (by decide) (by decide)).mono ?_
  rintro e w' ⟨hB, h⟩
  have hB' : Below w.heap.size w w' := ((Below.refl _ w).alloc (Nat.le_refl _) _).trans ⟨hB.os, hB.tape, hB.output, hB.size, fun k hk => hB.block k (by simp; omega)⟩
  rcases h with ⟨k, hk, h1, _⟩ | ⟨_, sb, rfl, hm⟩
  · rw [Mn.wL_good.none_ k hk] at h1
    cases h1
  · refine ⟨sb, rfl, ?_, hB'⟩
    rw [World.size_alloc] at hm
    exact hm
theorem has_shown (B sb : Nat) (w : World) (h : ManyM B sb (Mn.wds false Mn.wL) false w) :
    Calls Try.prog 23 #[.pointer (some ⟨sb, 0, none⟩), .string ⟨#[117, 115, 104, 101, 114, 115]⟩] w fun e w' => ∃ g cap, e = .returned (.slice (some ⟨g, 0, none⟩) 3 cap) ∧ Hid (∀ k, w'.heap.size ≤ k ∨ True) ∧ w'.cell? ⟨g, 0, none⟩ = some (.int .i64 0) ∧ w'.cell? ⟨g, 1, none⟩ = some (.int .i64 1) ∧ w'.cell? ⟨g, 2, none⟩ = some (.int .i64 3) ∧ Below w.heap.size w w' := by
  refine (has_any B sb _ false Mn.uL w h (Wok.of Mn.wL_good) (by decide)).mono ?_
  rintro e w' ⟨v, rfl, ho, hB⟩
  rw [wL_has] at ho
  obtain ⟨g, cap, rfl⟩ : ∃ g cap, v = .slice (some ⟨g, 0, none⟩) 3 cap := by
    rcases ho.2 with ⟨_, h0⟩ | ⟨g, cap, cur, h1, _⟩
    · cases h0
    · exact ⟨g, cap, h1⟩
  have c := fun k u hk => ho.cells (g := g) rfl k u hk
  simp only [Addr.add_lit, Nat.zero_add] at c
  exact ⟨g, cap, rfl, fun _ => .inr trivial, c 0 _ rfl, c 1 _ rfl, c 2 _ rfl, hB⟩
theorem first_shown (B sb : Nat) (w : World) (h : ManyM B sb (Mn.wds false Mn.wL) false w) :
    Calls Try.prog 18 #[.pointer (some ⟨sb, 0, none⟩), .string ⟨#[117, 115, 104, 101, 114, 115]⟩, .int .i64 0] w fun e w' => e = .returned (.tuple #[.int .i64 1, .int .i64 1, .bool true]) ∧ ∃ n, w' = w.drewN n := by
  refine (firstM_any B sb _ false Mn.uL 0 w h (Wok.of Mn.wL_good) (by decide) (by omega) (by omega)).mono ?_
  rintro e w' ⟨rfl, h⟩
  refine ⟨?_, h⟩
  have e0 : (tx false Mn.uL).drop (0 : Int).toNat = tx false Mn.uL := rfl
  have e1 : (0 : Int).toNat = 0 := rfl
  rw [e0, e1, wL_fst]
  rfl
theorem any_shown1 (B sb : Nat) (w : World) (h : ManyM B sb (Mn.wds false Mn.wL) false w) :
    Calls Try.prog 24 #[.pointer (some ⟨sb, 0, none⟩), .string ⟨#[120, 32, 104, 105, 115]⟩] w fun e w' => e = .returned (.bool true) ∧ ∃ n, w' = w.drewN n := by
  refine (anyOf_any B sb _ false Mn.xL w h (Wok.of Mn.wL_good) (by decide)).mono ?_
  rintro e w' ⟨rfl, h⟩
  refine ⟨?_, h⟩
  rw [decide_eq_true wL_x]
theorem any_shown2 (B sb : Nat) (w : World) (h : ManyM B sb (Mn.wds false Mn.wL) false w) :
    Calls Try.prog 24 #[.pointer (some ⟨sb, 0, none⟩), .string ⟨#[104, 105, 32, 115]⟩] w fun e w' => e = .returned (.bool false) ∧ ∃ n, w' = w.drewN n := by
  refine (anyOf_any B sb _ false Mn.yL w h (Wok.of Mn.wL_good) (by decide)).mono ?_
  rintro e w' ⟨rfl, h⟩
  refine ⟨?_, h⟩
  rw [decide_eq_false (fun h => h wL_y)]
theorem states_shown (B sb : Nat) (w : World) (h : ManyM B sb (Mn.wds false Mn.wL) false w) :
    Calls Try.prog 12 #[.pointer (some ⟨sb, 0, none⟩)] w fun e w' => e = .returned (.int .i64 10) ∧ w' = w := by
  refine (states_many B sb _ false w h).mono ?_
  rintro e w' ⟨rfl, h⟩
  refine ⟨?_, h⟩
  rw [Mn.wL_ns]
  rfl
@[irreducible] def ShM (B sb : Nat) (w : World) : Prop := ManyM B sb (Mn.wds false Mn.wL) false w
theorem ManyM.drewN {B sb : Nat} {W : List (List Nat)} {fold : Bool} {w : World} (h : ManyM B sb W fold w) (n : Nat) : ManyM B sb W fold (w.drewN n) := h.keep ((Below.refl w.heap.size w).drewN' n)
theorem ShM.drewN {B sb : Nat} {w : World} (h : ShM B sb w) (n : Nat) : ShM B sb (w.drewN n) := by
  unfold ShM at *
  exact h.drewN n
theorem ShM.keep {B sb : Nat} {w w' : World} (h : ShM B sb w) (hb : Below w.heap.size w w') : ShM B sb w' := by
  unfold ShM at *
  exact h.keep hb
theorem sh_of {B sb : Nat} {w w' : World} (h : ShM B sb w) (e : ∃ n, w' = w.drewN n) : ShM B sb w' := by
  obtain ⟨n, rfl⟩ := e
  exact h.drewN n
theorem cell_of {w w' : World} {a : Addr} {v : Value} (e : ∃ n, w' = w.drewN n) (h : w.cell? a = some v) : w'.cell? a = some v := by
  obtain ⟨n, rfl⟩ := e
  exact h
theorem sh_new (w : World) (b : Nat) (hb : w.heap.size = b) :
    Calls Try.prog 9 #[.slice (some ⟨b, 0, none⟩) 4 4, .bool false] (w.alloc (.cells #[.string ⟨#[104, 101]⟩, .string ⟨#[115, 104, 101]⟩, .string ⟨#[104, 105, 115]⟩, .string ⟨#[104, 101, 114, 115]⟩] 9)) fun e w' => ∃ sb, e = .returned (.tuple #[.pointer (some ⟨sb, 0, none⟩), .int .i64 0, .int .i64 0]) ∧ ShM (b + 1) sb w' ∧ Below b w w' := by
  unfold ShM
  exact new_shown w b hb
theorem sh_has (B sb : Nat) (w : World) (h : ShM B sb w) :
    Calls Try.prog 23 #[.pointer (some ⟨sb, 0, none⟩), .string ⟨#[117, 115, 104, 101, 114, 115]⟩] w fun e w' => ∃ g cap, e = .returned (.slice (some ⟨g, 0, none⟩) 3 cap) ∧ w'.cell? ⟨g, 0, none⟩ = some (.int .i64 0) ∧ w'.cell? ⟨g, 1, none⟩ = some (.int .i64 1) ∧ w'.cell? ⟨g, 2, none⟩ = some (.int .i64 3) ∧ Below w.heap.size w w' := by
  unfold ShM at h
  refine (has_shown B sb w h).mono ?_
  rintro e w' ⟨g, cap, h1, _, h2⟩
  exact ⟨g, cap, h1, h2⟩
theorem sh_first (B sb : Nat) (w : World) (h : ShM B sb w) :
    Calls Try.prog 18 #[.pointer (some ⟨sb, 0, none⟩), .string ⟨#[117, 115, 104, 101, 114, 115]⟩, .int .i64 0] w fun e w' => e = .returned (.tuple #[.int .i64 1, .int .i64 1, .bool true]) ∧ ∃ n, w' = w.drewN n := by
  unfold ShM at h
  exact first_shown B sb w h
theorem sh_any1 (B sb : Nat) (w : World) (h : ShM B sb w) :
    Calls Try.prog 24 #[.pointer (some ⟨sb, 0, none⟩), .string ⟨#[120, 32, 104, 105, 115]⟩] w fun e w' => e = .returned (.bool true) ∧ ∃ n, w' = w.drewN n := by
  unfold ShM at h
  exact any_shown1 B sb w h
theorem sh_any2 (B sb : Nat) (w : World) (h : ShM B sb w) :
    Calls Try.prog 24 #[.pointer (some ⟨sb, 0, none⟩), .string ⟨#[104, 105, 32, 115]⟩] w fun e w' => e = .returned (.bool false) ∧ ∃ n, w' = w.drewN n := by
  unfold ShM at h
  exact any_shown2 B sb w h
theorem sh_states (B sb : Nat) (w : World) (h : ShM B sb w) :
    Calls Try.prog 12 #[.pointer (some ⟨sb, 0, none⟩)] w fun e w' => e = .returned (.int .i64 10) ∧ w' = w := by
  unfold ShM at h
  exact states_shown B sb w h
set_option maxRecDepth 100000 in
set_option maxHeartbeats 1000000 in
theorem shown_any (w : World) : Calls Try.prog 7 #[] w fun e w' => e = .returned (.bool true) ∧ Below w.heap.size w w' := by
  obtain ⟨b, hb⟩ : ∃ b, w.heap.size = b := ⟨_, rfl⟩
  have HN := Hid.mk' (sh_new w b hb)
  go_enter Try.func7, Try.ntmps7
  go_wp2_with (first
    | (go_at_call 9; refine HN.out.mono ?_; rintro e w1 ⟨sb, rfl, hm1, hb1⟩; have HM1 := Hid.mk' hm1; have HB1 := Hid.mk' hb1; clear hm1 hb1 HN)
    | (go_at_call 23; refine (sh_has (b + 1) sb w1 HM1.out).mono ?_; rintro e w2 ⟨g, cap, rfl, c0, c1, c2, hb2⟩; have HM2 := Hid.mk' (HM1.out.keep hb2); have HB2 := Hid.mk' hb2; clear hb2)
    | (go_at_call 18; refine (sh_first (b + 1) sb w2 HM2.out).mono ?_; rintro e w3 ⟨rfl, hw3⟩; have HW3 := Hid.mk' hw3; have HM3 := Hid.mk' (sh_of HM2.out hw3); have d0 := cell_of hw3 c0; have d1 := cell_of hw3 c1; have d2 := cell_of hw3 c2; clear hw3 c0 c1 c2)
    | (go_at_call 12; refine (sh_states (b + 1) sb _ HM3.out).mono ?_; rintro e w4 ⟨rfl, rfl⟩)
    | (go_at_call 24; refine (sh_any1 (b + 1) sb _ HM3.out).mono ?_; rintro e w5 ⟨rfl, hw5⟩; have HW5 := Hid.mk' hw5; have HM5 := Hid.mk' (sh_of HM3.out hw5); clear hw5 HM3)
    | (go_at_call 24; refine (sh_any2 (b + 1) sb _ HM5.out).mono ?_; rintro e w6 ⟨rfl, hw6⟩; have HW6 := Hid.mk' hw6; clear hw6)
    | fail)
  go_ret
  refine ⟨rfl, ?_⟩
  obtain ⟨n3, rfl⟩ := HW3.out
  obtain ⟨n5, rfl⟩ := HW5.out
  obtain ⟨n6, rfl⟩ := HW6.out
  have h1 := HB1.out
  have h2 := HB2.out
  rw [hb]
  have h3 : Below b w1 w2 := ⟨h2.os, h2.tape, h2.output, h2.size, fun k hk => h2.block k (by have := h1.size; omega)⟩
  exact ((h1.trans h3).drewN' n3).trans (((Below.refl b _).drewN' n5).drewN' n6)
end Go.Proofs.Ytlbfnchjbpioeaa
