/-
  What code.Plain's parts do: the place of a character, no bits taken. Conditions: as each says.
-/
import Derived.Test.YthmaaeibdcoemaaArm
import Derived.Lib.Bytealg
namespace Go.Proofs.Ythmaaeibdcoemaa
open Go.RowKit
set_option linter.unusedVariables false
def numI (c : Nat) : Int := if Code.num c < 64 then (Code.num c : Int) else -1
theorem idxB (args : Array Value) (w : World) : (callFunc 70 args).run Try.prog w = ((Extern.BytealgIndexByte.indexByte args).run Try.prog w).andThen fun v w' => .ok (.value v) w' :=
  run_callFunc_extern Try.func70 (by kernel_rfl) (by kernel_rfl) (by kernel_rfl) (by kernel_rfl) args w
theorem idx_all : ∀ c < 256, Lib.indexByte (⟨#[65, 66, 67, 68, 69, 70, 71, 72, 73, 74, 75, 76, 77, 78, 79, 80, 81, 82, 83, 84, 85, 86, 87, 88, 89, 90, 97, 98, 99, 100, 101, 102, 103, 104, 105, 106, 107, 108, 109, 110, 111, 112, 113, 114, 115, 116, 117, 118, 119, 120, 121, 122, 48, 49, 50, 51, 52, 53, 54, 55, 56, 57, 45, 95]⟩ : ByteArray).data.toList (((c : Nat) : Int).toNat.toUInt8) = numI c := by decide +kernel
theorem index_any (c : Nat) (w : World) (hc : c < 256) :
    Calls Try.prog 43 #[.string ⟨#[65, 66, 67, 68, 69, 70, 71, 72, 73, 74, 75, 76, 77, 78, 79, 80, 81, 82, 83, 84, 85, 86, 87, 88, 89, 90, 97, 98, 99, 100, 101, 102, 103, 104, 105, 106, 107, 108, 109, 110, 111, 112, 113, 114, 115, 116, 117, 118, 119, 120, 121, 122, 48, 49, 50, 51, 52, 53, 54, 55, 56, 57, 45, 95]⟩, .int .u8 (c : Int)] w fun e w' => e = .returned (.int .i64 (numI c)) ∧ w' = w := by
  have hq : (callFunc 70 #[.string ⟨#[65, 66, 67, 68, 69, 70, 71, 72, 73, 74, 75, 76, 77, 78, 79, 80, 81, 82, 83, 84, 85, 86, 87, 88, 89, 90, 97, 98, 99, 100, 101, 102, 103, 104, 105, 106, 107, 108, 109, 110, 111, 112, 113, 114, 115, 116, 117, 118, 119, 120, 121, 122, 48, 49, 50, 51, 52, 53, 54, 55, 56, 57, 45, 95]⟩, .int .u8 (c : Int)]).run Try.prog w = .ok (.value (.int .i64 (numI c))) w := by
    rw [idxB, Lib.run_indexByteString, idx_all c hc]
    rfl
  obtain ⟨x, HX⟩ : ∃ x, Hid (x = numI c) := ⟨_, Hid.mk' rfl⟩
  rw [← HX.out] at hq ⊢
  go_enter Try.func43, Try.ntmps43
  go_wp2
  go_ret
  exact ⟨rfl, rfl⟩
set_option maxRecDepth 100000 in
set_option maxHeartbeats 1000000 in
theorem take_zero (g v : Nat) (w : World) (h : Wt g v 0 w) :
    Calls Try.prog 41 #[.pointer (some ⟨g, 0, none⟩), .int .i64 0] w fun e w' => e = .returned (.int .u32 0) ∧ Only g w w' := by
  obtain ⟨held, hh, hv, hk⟩ := h
  have hp : Put g 73 [.int .u32 (held : Int), .int .i64 ((0 : Nat) : Int)] w w := Put.refl hk
  have c0 : w.cell? ⟨g, 0, none⟩ = some (.int .u32 (held : Int)) := hp.cell _ rfl
  have c1 : w.cell? ⟨g, 1, none⟩ = some (.int .i64 0) := hp.cell _ rfl
  have f1 : w.frozen? ⟨g, 1, none⟩ = false := hp.frozen
  have hh2 : (held : Int) < 4294967296 := by omega
  have hand : bits .and .u32 (held : Int) 0 = 0 := by
    rw [show (0 : Int) = ((0 : Nat) : Int) from rfl, u32_and_nat _ _ hh (by decide), Nat.and_zero]
  have P1 := hp.setCell (o := 1) (.int .i64 0)
  obtain ⟨w1, hw1⟩ : ∃ w1, w1 = w.setCell ⟨g, 1, none⟩ (.int .i64 0) := ⟨_, rfl⟩
  rw [← hw1] at P1
  have FIN : Hid (∀ m, Only g w (w1.drewN m)) := fun m => P1.only.drewN m
  have d0 : w1.cell? ⟨g, 0, none⟩ = some (.int .u32 (held : Int)) := P1.cell _ rfl
  have d1 : w1.cell? ⟨g, 1, none⟩ = some (.int .i64 0) := P1.cell _ rfl
  have HW1 := Hid.mk' hw1
  clear hv hp hk hh P1 hw1
  go_enter Try.func41, Try.ntmps41
  go_wp2_with fail
  rw [← HW1.out]
  clear c0 c1 f1
  go_quiet (fail)
  go_wp2_with fail
  go_ret
  exact ⟨rfl, FIN.out _⟩
theorem put6 (g v b grp : Nat) (w : World) (h : Wt g v b w) (hb : b ≤ 12) (hg : grp < 64) :
    Calls Try.prog 39 #[.pointer (some ⟨g, 0, none⟩), .int .u32 (grp : Int), .int .i64 6] w fun e w' => e = .returned (.tuple #[]) ∧ Wt g (v * 64 + grp) (b + 6) w' ∧ Only g w w' :=
  put_any g v b grp 6 w h (by omega) hb hg
theorem take8 (g v b d : Nat) (w : World) (h : Wt g v b w) (hd : d = 0 ∨ d = 2 ∨ d = 4 ∨ d = 6) (hb : b = d + 8) :
    Calls Try.prog 41 #[.pointer (some ⟨g, 0, none⟩), .int .i64 8] w fun e w' => e = .returned (.int .u32 ((v / 2 ^ d : Nat) : Int)) ∧ Wt g (v % 2 ^ d) d w' ∧ Only g w w' :=
  take_any g v b 8 d w h ⟨by omega, hd⟩ hb
theorem take2 (g v : Nat) (w : World) (h : Wt g v 2 w) :
    Calls Try.prog 41 #[.pointer (some ⟨g, 0, none⟩), .int .i64 2] w fun e w' => e = .returned (.int .u32 (v : Int)) ∧ Only g w w' := by
  have := take_any g v 2 2 0 w h (by omega) (by omega)
  refine this.mono ?_
  rintro e w' ⟨rfl, _, ho⟩
  exact ⟨by rw [Nat.pow_zero, Nat.div_one], ho⟩
theorem take4 (g v : Nat) (w : World) (h : Wt g v 4 w) :
    Calls Try.prog 41 #[.pointer (some ⟨g, 0, none⟩), .int .i64 4] w fun e w' => e = .returned (.int .u32 (v : Int)) ∧ Only g w w' := by
  have := take_any g v 4 4 0 w h (by omega) (by omega)
  refine this.mono ?_
  rintro e w' ⟨rfl, _, ho⟩
  exact ⟨by rw [Nat.pow_zero, Nat.div_one], ho⟩
theorem row_only {B g v n : Nat} {x : Value} {l : List Nat} {w w' : World} (hown : w.ownsRow B 5 1 x l.length (byv l)) (ho : Only g w w') (hw : Wt g v n w) : w'.ownsRow B 5 1 x l.length (byv l) := by
  obtain ⟨held, _, _, hg⟩ := hw
  exact hown.kept (row := some g) ⟨ho.os, ho.tape, ho.output, ho.size, fun k hk hkg => ho.block k hk (fun e => hkg (by rw [e]))⟩ (Or.inr (Lib.ownBlock_ne hown hg (by decide)))
theorem Wt.grown {B g v n m : Nat} {x : Value} {xs : List Value} {o : Obj} {w w' : World} (hw : Wt g v n w) (hown : w.ownsRow B 5 1 x m xs) (hg : (w.alloc o).grownBy w' x.ownBlock) : Wt g v n w' := by
  have hl := hw.lt
  obtain ⟨held, h1, h2, h⟩ := hw
  refine ⟨held, h1, h2, ?_⟩
  rw [hg.block g (by simp; omega) (fun e => Lib.ownBlock_ne hown h (by decide) e.symm), Below.heap_alloc w _ g hl]
  exact h
end Go.Proofs.Ythmaaeibdcoemaa
