/-
  Tables of numbers in memory. Conditions: as each says.
-/
import Derived.Test.YtecoiifmeajicaaDoorSgl
import Derived.Deep.RegionHeld3
namespace Go.Proofs.YtecoiifmeajicaaDoor
open Go.RowKit
set_option linter.unusedVariables false
def TblAt (X base n : Nat) (kd : IntKind) (J : Nat → Nat) (W : World) : Prop := ∀ b, b < n → W.cell? ⟨X, base + b, none⟩ = some (.int kd (J b : Int))
def Thaw (X : Nat) (W : World) : Prop := ∀ o, W.frozen? ⟨X, o, none⟩ = false
def upd (J : Nat → Nat) (b v : Nat) : Nat → Nat := fun x => if x = b then v else J x
theorem TblAt.set {X base n : Nat} {kd : IntKind} {J : Nat → Nat} {W : World} (h : TblAt X base n kd J W) (b v : Nat) (hb : b < n) : TblAt X base n kd (upd J b v) (W.setCell ⟨X, base + b, none⟩ (.int kd (v : Int))) := by
  intro x hx
  unfold upd
  by_cases e : x = b
  · subst e
    rw [if_pos rfl]
    exact World.cell?_setCell_same _ _ _ (h x hx)
  · rw [if_neg e, World.cell?_setCell_other _ _ _ _ (by intro k; injection k; omega)]
    exact h x hx
theorem TblAt.congr {X base n : Nat} {kd : IntKind} {J K : Nat → Nat} {W : World} (h : TblAt X base n kd J W) (e : ∀ b, b < n → J b = K b) : TblAt X base n kd K W := fun b hb => by rw [← e b hb]; exact h b hb
theorem TblAt.below {X base n N : Nat} {kd : IntKind} {J : Nat → Nat} {W W' : World} (h : TblAt X base n kd J W) (hb : Below N W W') (hX : X < N) : TblAt X base n kd J W' := fun b hn => (hb.cell (p := ⟨X, base + b, none⟩) hX).trans (h b hn)
theorem Thaw.below {X N : Nat} {W W' : World} (h : Thaw X W) (hb : Below N W W') (hX : X < N) : Thaw X W' := fun o => (hb.frozen (p := ⟨X, o, none⟩) hX).trans (h o)
theorem Thaw.set {X : Nat} {W : World} (h : Thaw X W) (a : Addr) (v : Value) : Thaw X (W.setCell a v) := fun o => by rw [World.frozen?_setCell]; exact h o
theorem cell_far {W : World} {X o o2 : Nat} {v x : Value} (h : W.cell? ⟨X, o, none⟩ = some x) (ne : o2 ≠ o) : (W.setCell ⟨X, o2, none⟩ v).cell? ⟨X, o, none⟩ = some x := by
  rw [World.cell?_setCell_other _ _ _ _ (by intro k; injection k; omega)]; exact h
theorem idx_byte (q : ByteArray) (i : Nat) (hi : i < q.size) (W : World) : (Instr.index 9 (.string q) (.int .i64 (i : Int))).run Tryd.prog W = .ok (.int .u8 ((Swar.bt q i : Nat) : Int)) W := by
  rw [run_index_string W 9 _ .i64 (i : Int) Tryd.underlying9, dif_pos ⟨by omega, by omega⟩]
  simp only [Int.toNat_natCast]
  rw [Swar.bt_in]
theorem two_0 (x y : Nat) (W : World) : (Instr.index 76 (.agg #[.int .u8 (x : Int), .int .u8 (y : Int)]) (.int .i64 0)).run Tryd.prog W = .ok (.int .u8 (x : Int)) W := by kernel_rfl
theorem two_1 (x y : Nat) (W : World) : (Instr.index 76 (.agg #[.int .u8 (x : Int), .int .u8 (y : Int)]) (.int .i64 1)).run Tryd.prog W = .ok (.int .u8 (y : Int)) W := by kernel_rfl
theorem cells_new (w : World) (cs : Array Value) (t : TypeId) (i : Nat) (v : Value) (h : cs[i]? = some v) : (w.alloc (.cells cs t)).cell? ⟨w.heap.size, i, none⟩ = some v := by
  rw [World.cell?_alloc_new]; exact h
theorem thaw_new (w : World) (cs : Array Value) (t : TypeId) : Thaw w.heap.size (w.alloc (.cells cs t)) := fun o => by simp [go_sem]
end Go.Proofs.YtecoiifmeajicaaDoor
