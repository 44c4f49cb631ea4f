/-
  object: Right of values that are right: isTree, utf8.ValidString of right texts. Conditions: as each says.
-/
import Derived.Test.YtkplbggefiemdaaGreatDoorOqH
import Derived.Test.YtkplbggefiemdaaGreatDoorShM
namespace Go.Proofs.YtkplbggefiemdaaGreatDoor
open Go.RowKit
set_option linter.unusedVariables false
set_option linter.unusedSimpArgs false
/-- the tables of package utf8 -/
def UtT (w : World) : Prop := Lib.Utf8Tabs 3 4 w
theorem cell_ltV {W : World} {g k : Nat} {v : Value} (h : W.cell? ⟨g, k, none⟩ = some v) : g < W.heap.size := by
  rcases Nat.lt_or_ge g W.heap.size with h' | h'
  · exact h'
  · unfold World.cell? at h
    simp [Array.getElem?_eq_none h'] at h
theorem UtT.lt {w : World} (h : UtT w) : 3 < w.heap.size ∧ 4 < w.heap.size := ⟨cell_ltV (h.1 0 (by decide)), cell_ltV (h.2 0 (by decide)).1⟩
theorem UtT.kept {w w' : World} (h : UtT w) (h1 : w'.heap[3]? = w.heap[3]?) (h2 : w'.heap[4]? = w.heap[4]?) : UtT w' :=
  ⟨fun c hc => (World.cell?_of_block (a := ⟨3, c, none⟩) h1).trans (h.1 c hc), fun i hi => ⟨(World.cell?_of_block (a := ⟨4, 2 * i, none⟩) h2).trans (h.2 i hi).1, (World.cell?_of_block (a := ⟨4, 2 * i + 1, none⟩) h2).trans (h.2 i hi).2⟩⟩
theorem UtT.below {B : Nat} {w w' : World} (h : UtT w) (hb : Below B w w') (hB : w.heap.size ≤ B) : UtT w' := h.kept (hb.block _ (Nat.lt_of_lt_of_le h.lt.1 hB)) (hb.block _ (Nat.lt_of_lt_of_le h.lt.2 hB))
theorem UtT.only {g : Nat} {w w' : World} {x : Int} {cs : Array Value} {t : TypeId} {fz : Nat × Nat} (h : UtT w) (hb : Only g w w') (hc : w.heap[g]? = some (.cells cs t fz)) (h0 : cs[0]? = some (.int .i64 x)) : UtT w' := by
  have hn : ∀ k (u : Int), w.cell? ⟨k, 0, none⟩ = some (.int .u8 u) → k ≠ g := by
    rintro k u h1 rfl
    simp only [World.cell?, hc] at h1
    rw [h0] at h1
    cases h1
  exact h.kept (hb.block _ h.lt.1 (hn _ _ (h.1 0 (by decide)))) (hb.block _ h.lt.2 (hn _ _ (h.2 0 (by decide)).1))
theorem valid_ok (T : ByteArray) (w : World) (hs : T.size ≤ 65536) (hv : Lib.validD T.data.toList = true) (hu : UtT w) : Calls Tryz.prog 133 #[.string T] w fun e w' => e = .returned (.bool true) ∧ Below w.heap.size w w' := by
  have h := Any.utf8_ValidString YtkplbggefiemdaaGreatDoor.lays196 T w (by omega) hu
  rw [hv] at h
  exact h
theorem isTree4 (pn pk : Option Addr) (cn ck : Nat) (t : ByteArray) (w : World) : Calls Tryz.prog 97 #[.agg #[.int .i64 4, .string t, .slice pn 0 cn, .slice pk 0 ck]] w fun e w' => e = .returned (.bool true) ∧ Below w.heap.size w w' := by
  have HB : Hid (∀ o : Obj, Below w.heap.size w (w.alloc o)) := Hid.mk' (fun o => (Below.refl _ w).alloc (Nat.le_refl _) o)
  go_enter Tryz.func97, Tryz.ntmps97
  go_wp2_with fail
  go_ret
  exact ⟨rfl, HB.out _⟩
theorem isTree5 (pn pk : Option Addr) (cn ck : Nat) (t : ByteArray) (w : World) : Calls Tryz.prog 97 #[.agg #[.int .i64 5, .string t, .slice pn 0 cn, .slice pk 0 ck]] w fun e w' => e = .returned (.bool true) ∧ Below w.heap.size w w' := by
  have HB : Hid (∀ o : Obj, Below w.heap.size w (w.alloc o)) := Hid.mk' (fun o => (Below.refl _ w).alloc (Nat.le_refl _) o)
  go_enter Tryz.func97, Tryz.ntmps97
  go_wp2_with fail
  go_ret
  exact ⟨rfl, HB.out _⟩
theorem isTree6 (pn pk : Option Addr) (cn ck : Nat) (nk : Nat) (w : World) : Calls Tryz.prog 97 #[.agg #[.int .i64 6, .string ByteArray.empty, .slice pn 0 cn, .slice pk nk ck]] w fun e w' => e = .returned (.bool true) ∧ Below w.heap.size w w' := by
  have HB : Hid (∀ o : Obj, Below w.heap.size w (w.alloc o)) := Hid.mk' (fun o => (Below.refl _ w).alloc (Nat.le_refl _) o)
  go_enter Tryz.func97, Tryz.ntmps97
  go_wp2_with fail
  go_ret
  exact ⟨rfl, HB.out _⟩
theorem isTree7 (pn pk : Option Addr) (cn ck : Nat) (nn : Nat) (w : World) : Calls Tryz.prog 97 #[.agg #[.int .i64 7, .string ByteArray.empty, .slice pn nn cn, .slice pk nn ck]] w fun e w' => e = .returned (.bool true) ∧ Below w.heap.size w w' := by
  have HB : Hid (∀ o : Obj, Below w.heap.size w (w.alloc o)) := Hid.mk' (fun o => (Below.refl _ w).alloc (Nat.le_refl _) o)
  go_enter Tryz.func97, Tryz.ntmps97
  go_wp2_with fail
  go_ret
  exact ⟨rfl, HB.out _⟩
theorem isTree1 (pn pk : Option Addr) (cn ck : Nat) (w : World) : Calls Tryz.prog 97 #[.agg #[.int .i64 1, .string ByteArray.empty, .slice pn 0 cn, .slice pk 0 ck]] w fun e w' => e = .returned (.bool true) ∧ Below w.heap.size w w' := by
  have HB : Hid (∀ o : Obj, Below w.heap.size w (w.alloc o)) := Hid.mk' (fun o => (Below.refl _ w).alloc (Nat.le_refl _) o)
  go_enter Tryz.func97, Tryz.ntmps97
  go_wp2_with fail
  go_ret
  exact ⟨rfl, HB.out _⟩
theorem isTree2 (pn pk : Option Addr) (cn ck : Nat) (w : World) : Calls Tryz.prog 97 #[.agg #[.int .i64 2, .string ByteArray.empty, .slice pn 0 cn, .slice pk 0 ck]] w fun e w' => e = .returned (.bool true) ∧ Below w.heap.size w w' := by
  have HB : Hid (∀ o : Obj, Below w.heap.size w (w.alloc o)) := Hid.mk' (fun o => (Below.refl _ w).alloc (Nat.le_refl _) o)
  go_enter Tryz.func97, Tryz.ntmps97
  go_wp2_with fail
  go_ret
  exact ⟨rfl, HB.out _⟩
theorem isTree3 (pn pk : Option Addr) (cn ck : Nat) (w : World) : Calls Tryz.prog 97 #[.agg #[.int .i64 3, .string ByteArray.empty, .slice pn 0 cn, .slice pk 0 ck]] w fun e w' => e = .returned (.bool true) ∧ Below w.heap.size w w' := by
  have HB : Hid (∀ o : Obj, Below w.heap.size w (w.alloc o)) := Hid.mk' (fun o => (Below.refl _ w).alloc (Nat.le_refl _) o)
  go_enter Tryz.func97, Tryz.ntmps97
  go_wp2_with fail
  go_ret
  exact ⟨rfl, HB.out _⟩
end Go.Proofs.YtkplbggefiemdaaGreatDoor
