/-
  What swar.Index does: it returns where the byte stands first, from the place on, or -1. Conditions: the text is no longer than any text that is read can be, the place is an int, the byte a byte, the table of package math/bits lies as its text lays it.
-/
import Derived.Test.YtlejfeapnnioeaaDoorKern
import Derived.Test.YtlejfeapnnioeaaDoorWordsD
import Derived.Lib.MinMax
namespace Go.Proofs.YtlejfeapnnioeaaDoor
open Go.RowKit
set_option linter.unusedVariables false
theorem cell_later' {w w' : World} (h : Below w.heap.size w w') {a : Addr} {v : Value} (hc : w.cell? a = some v) : w'.cell? a = some v := by
  by_cases hb : a.block < w.heap.size
  · rw [h.cell hb]; exact hc
  · exfalso
    unfold World.cell? at hc
    simp [show w.heap[a.block]? = none by simp; omega] at hc
theorem Tab.below {w w' : World} (h : Below w.heap.size w w') (t : Tab w) : Tab w' := fun i hi => cell_later' h (t i hi)
theorem Tab.drewN {w : World} (t : Tab w) (n : Nat) : Tab (w.drewN n) := fun i hi => t i hi
theorem max_zero (f : Int) : max f 0 = ((f.toNat : Nat) : Int) := by omega
set_option maxHeartbeats 400000 in
theorem index_any (s : ByteArray) (c : Nat) (f : Int) (w : World) (hs : s.size ≤ 1125899906842624) (hc : c < 256) (hl : -9223372036854775808 ≤ f) (hh : f ≤ 9223372036854775807) (ht : Tab w) :
    Calls Tryd.prog 27 #[.string s, .int .u8 (c : Int), .int .i64 f] w fun e w' => e = .returned (.int .i64 (Swar.idxL s c f.toNat)) ∧ ∃ n, w' = w.drewN n := by
  have hsp := Swar.spreadL_lt c hc
  go_enter Tryd.func27, Tryd.ntmps27
  go_wp2_with fail
  refine (spread_any c _ hc).mono ?_
  rintro e w' ⟨rfl, rfl⟩
  go_wp2_with fail
  go_loopw [8] (fun i wr => ∃ a n : Nat, a ≤ 9223372036854775807 ∧ i = .int .i64 (a : Int) ∧ Hid (Swar.idxL s c f.toNat = Swar.idxL s c a) ∧ wr = w'.drewN n) (fun i _ => s.size + 8 - (intOf i).toNat)
  case atStart => exact ⟨f.toNat, 0, by omega, by rw [max_zero], rfl, rfl⟩
  case round =>
    obtain ⟨a, n, ha, rfl, HI, rfl⟩ := hrel
    by_cases hlt : a < s.size
    · have hq := Swar.hit_le s c a
      have hel := Swar.equalL_lt (Swar.ldL s a) (Swar.spreadL c)
      have hld := Swar.ldL_lt s a
      by_cases hf : Swar.hitL s c a < 8 ∧ a + Swar.hitL s c a < s.size
      · obtain ⟨f1, f2⟩ := hf
        have HF : Hid (Swar.idxL s c a = ((a + Swar.hitL s c a : Nat) : Int)) := Swar.idx_found s c a hc f1 f2
        go_wp2_with fail
        refine (load_any s a _ hs (by omega) (by omega)).mono ?_
        rintro e w1 ⟨rfl, n1, rfl⟩
        go_wp2_with fail
        refine (equal_any _ _ _ hld hsp).mono ?_
        rintro e w1 ⟨rfl, rfl⟩
        go_wp2_with fail
        refine (first_any _ _ hel (ht.drewN _)).mono ?_
        rintro e w1 ⟨rfl, rfl⟩
        rw [show Swar.firstL (Swar.equalL (Swar.ldL s ↑a) (Swar.spreadL c)) = Swar.hitL s c a from rfl]
        generalize Swar.hitL s c a = h at *
        have hm : (h : Int) < min 8 ((s.size : Int) - (a : Int)) := by omega
        go_wp2_with fail
        go_ret
        exact ⟨ret_i64 (by rw [HI.out, HF.out]; omega), n + n1, rfl⟩
      · have HF : Hid (Swar.idxL s c a = Swar.idxL s c (a + 8)) := Swar.idx_next s c a hc hlt hf
        go_wp2_with fail
        refine (load_any s a _ hs (by omega) (by omega)).mono ?_
        rintro e w1 ⟨rfl, n1, rfl⟩
        go_wp2_with fail
        refine (equal_any _ _ _ hld hsp).mono ?_
        rintro e w1 ⟨rfl, rfl⟩
        go_wp2_with fail
        refine (first_any _ _ hel (ht.drewN _)).mono ?_
        rintro e w1 ⟨rfl, rfl⟩
        rw [show Swar.firstL (Swar.equalL (Swar.ldL s ↑a) (Swar.spreadL c)) = Swar.hitL s c a from rfl]
        generalize Swar.hitL s c a = h at *
        have hm : decide ((h : Int) < min 8 ((s.size : Int) - (a : Int))) = false := decide_eq_false (by omega)
        clear hf
        go_wp2_with fail
        go_roundw
        case rel => exact ⟨a + 8, n + n1, by omega, by go_num, by show _ = _; rw [HI.out, HF.out], rfl⟩
        case measure => simp [intOf]; omega
    · have HF : Hid (Swar.idxL s c a = -1) := Swar.idx_out s c a (by omega)
      have hlt' : ¬ (a : Int) < (s.size : Int) := by omega
      go_wp2_with fail
      go_ret
      exact ⟨ret_i64 (by rw [HI.out, HF.out]), n, rfl⟩
end Go.Proofs.YtlejfeapnnioeaaDoor
