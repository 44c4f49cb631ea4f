/-
  What a needle does: its forms of a byte, whether a text is it, how it is made. Conditions: as each says.
-/
import Derived.Test.YtecoiifmeajicaaDoorPlainZ
import Derived.Test.YtecoiifmeajicaaDoorFoldS
import Derived.Test.YtecoiifmeajicaaDoorCloneS
import Derived.Test.YtecoiifmeajicaaDoorSameFold
import Derived.Test.YtecoiifmeajicaaDoorIndexOf
import Derived.Deep.QuietTactic
import Derived.BigQuiet
namespace Go.Proofs.YtecoiifmeajicaaDoor
open Go.RowKit
set_option linter.unusedVariables false
theorem box_two (w : World) (o p : Obj) : Below w.heap.size w ((w.alloc o).alloc p) := ((Below.refl _ _).alloc (Nat.le_refl _) _).alloc (by simp) _
theorem str_beq (s p : ByteArray) : (s.toList == p.toList) = decide (s = p) := by
  rw [Bool.eq_iff_iff, beq_iff_eq, decide_eq_true_iff]
  constructor
  · intro h
    rw [ByteArray.toList_eq, ByteArray.toList_eq] at h
    exact ByteArray.ext (Array.toList_inj.1 h)
  · intro h; rw [h]
theorem cell_kept {W w1 : World} (hb : Below W.heap.size W w1) : (∀ b o, b < W.heap.size → w1.cell? ⟨b, o, none⟩ = W.cell? ⟨b, o, none⟩) ∧ (∀ b o, b < W.heap.size → w1.frozen? ⟨b, o, none⟩ = W.frozen? ⟨b, o, none⟩) :=
  ⟨fun b o h => hb.cell (p := ⟨b, o, none⟩) h, fun b o h => hb.frozen (p := ⟨b, o, none⟩) h⟩
set_option maxHeartbeats 400000 in
theorem forms_any (g : Nat) (fold : Bool) (b : Nat) (w : World) (hb : b < 256) (hc : w.cell? ⟨g, 1, none⟩ = some (.bool fold)) :
    Calls Tryd.prog 50 #[.pointer (some ⟨g, 0, none⟩), .int .u8 (b : Int)] w fun e w' => e = .returned (.agg #[.int .u8 (b : Int), .int .u8 ((Lit.fm2 fold b : Nat) : Int)]) ∧ Below w.heap.size w w' := by
  have hg : g < w.heap.size := World.block_lt_of_cell? w ⟨g, 1, none⟩ hc
  have hbI : (b : Int) < 256 := by omega
  cases fold with
  | false =>
    have he : Hid (((Lit.fm2 false b : Nat) : Int) = (b : Int)) := by simp [Hid, Lit.fm2]
    go_enter Tryd.func50, Tryd.ntmps50
    go_wp2_with fail
    rw [he.out]
    exact bodyPost_ret (v := .agg #[.int .u8 (b : Int), .int .u8 (b : Int)]) (by simp [results, Tryd.results50, go_sem]) rfl ⟨rfl, (Below.refl _ _).alloc (Nat.le_refl _) _⟩
  | true =>
    by_cases h : 97 ≤ b ∧ b ≤ 122
    · have he : Hid (((Lit.fm2 true b : Nat) : Int) = (b : Int) - 97 + 65) := by
        show _ = _
        unfold Lit.fm2
        rw [if_pos ⟨rfl, h⟩]
        omega
      have h1 : decide ((97 : Int) ≤ (b : Int)) = true := decide_eq_true (by omega)
      have h2 : decide ((b : Int) ≤ (122 : Int)) = true := decide_eq_true (by omega)
      have h3 : (97 : Int) ≤ (b : Int) := by omega
      have h4 : (b : Int) ≤ 122 := by omega
      clear h
      go_enter Tryd.func50, Tryd.ntmps50
      go_wp2_with fail
      rw [he.out]
      exact bodyPost_ret (v := .agg #[.int .u8 (b : Int), .int .u8 ((b : Int) - 97 + 65)]) (by simp [results, Tryd.results50, go_sem]) rfl ⟨rfl, (Below.refl _ _).alloc (Nat.le_refl _) _⟩
    · have he : Hid (((Lit.fm2 true b : Nat) : Int) = (b : Int)) := by
        show _ = _
        unfold Lit.fm2
        rw [if_neg (fun k => h k.2)]
      by_cases h5 : 97 ≤ b
      · have h1 : decide ((97 : Int) ≤ (b : Int)) = true := decide_eq_true (by omega)
        have h2 : decide ((b : Int) ≤ (122 : Int)) = false := decide_eq_false (by omega)
        have h3 : (97 : Int) ≤ (b : Int) := by omega
        have h4 : ¬ (b : Int) ≤ 122 := by omega
        clear h h5
        go_enter Tryd.func50, Tryd.ntmps50
        go_wp2_with fail
        rw [he.out]
        exact bodyPost_ret (v := .agg #[.int .u8 (b : Int), .int .u8 (b : Int)]) (by simp [results, Tryd.results50, go_sem]) rfl ⟨rfl, (Below.refl _ _).alloc (Nat.le_refl _) _⟩
      · have h1 : decide ((97 : Int) ≤ (b : Int)) = false := decide_eq_false (by omega)
        have h3 : ¬ (97 : Int) ≤ (b : Int) := by omega
        clear h h5
        go_enter Tryd.func50, Tryd.ntmps50
        go_wp2_with fail
        rw [he.out]
        exact bodyPost_ret (v := .agg #[.int .u8 (b : Int), .int .u8 (b : Int)]) (by simp [results, Tryd.results50, go_sem]) rfl ⟨rfl, (Below.refl _ _).alloc (Nat.le_refl _) _⟩
set_option maxHeartbeats 400000 in
theorem is_any (g : Nat) (fold : Bool) (p s : ByteArray) (w : World) (hp : p.size ≤ 1125899906842624) (hs : s.size ≤ 1125899906842624) (h0 : w.cell? ⟨g, 0, none⟩ = some (.string p)) (h1 : w.cell? ⟨g, 1, none⟩ = some (.bool fold)) :
    Calls Tryd.prog 57 #[.pointer (some ⟨g, 0, none⟩), .string s] w fun e w' => e = .returned (.bool (Lit.isL fold p s)) ∧ ∃ n, w' = w.drewN n := by
  cases fold with
  | false =>
    go_enter Tryd.func57, Tryd.ntmps57
    go_wp2_with fail
    go_ret
    refine ⟨?_, 0, rfl⟩
    rw [str_beq]
    unfold Lit.isL
    rfl
  | true =>
    go_enter Tryd.func57, Tryd.ntmps57
    go_wp2_with fail
    refine (sameFold_any s p _ hs hp).mono ?_
    rintro e w' ⟨rfl, n, rfl⟩
    go_wp2_with fail
    go_ret
    exact ⟨by unfold Lit.isL; rfl, n, rfl⟩
set_option maxHeartbeats 400000 in
theorem newNeedle_any (p : ByteArray) (fold : Bool) (w : World) (hp : p.size ≤ 140737488351232) :
    Calls Tryd.prog 33 #[.string p, .bool fold] w fun e w' => e = .returned (.agg #[.string (Lit.ndl fold p), .bool fold]) ∧ Below w.heap.size w w' := by
  cases fold with
  | false =>
    go_enter Tryd.func33, Tryd.ntmps33
    go_wp2_with fail
    refine (clone_any p _ (by omega)).mono ?_
    rintro e w' ⟨rfl, hb⟩
    obtain ⟨hcl, hfz⟩ := cell_kept hb
    have HB := Hid.mk' hb
    clear hb
    go_wp2_with fail
    exact bodyPost_ret (v := .agg #[.string (p), .bool false]) (by simp [results, Tryd.results33, go_sem, hcl]) rfl ⟨rfl, ((((Below.refl _ _).alloc (Nat.le_refl _) _).trans (HB.out.mono (by simp))).setCell (p := ⟨w.heap.size, 0, none⟩) (Nat.le_refl _) _).setCell (p := ⟨w.heap.size, 1, none⟩) (Nat.le_refl _) _⟩
  | true =>
    go_enter Tryd.func33, Tryd.ntmps33
    go_wp2_with fail
    refine (fold_any p _ hp).mono ?_
    rintro e w' ⟨rfl, hb⟩
    obtain ⟨hcl, hfz⟩ := cell_kept hb
    have HB := Hid.mk' hb
    clear hb
    go_wp2_with fail
    exact bodyPost_ret (v := .agg #[.string (Swar.foldL p), .bool true]) (by simp [results, Tryd.results33, go_sem, hcl]) rfl ⟨rfl, ((((Below.refl _ _).alloc (Nat.le_refl _) _).trans (HB.out.mono (by simp))).setCell (p := ⟨w.heap.size, 0, none⟩) (Nat.le_refl _) _).setCell (p := ⟨w.heap.size, 1, none⟩) (Nat.le_refl _) _⟩
end Go.Proofs.YtecoiifmeajicaaDoor
