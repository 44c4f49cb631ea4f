/-
  Small facts on texts: a text of one byte, two texts one behind the other. Conditions: a byte is a byte.
-/
import Derived.Test.YthiabdpihnjkcaaDoorKern
import Derived.Test.YthiabdpihnjkcaaDoorWordsD
namespace Go.Proofs.YthiabdpihnjkcaaDoor
open Go.RowKit
theorem conv_one (c : Nat) (hc : c < 256) : ∃ t : ByteArray, t.size = 1 ∧ Swar.bt t 0 = c ∧ ∀ (n : Nat) (w : World),
    (convert 29 9 (.slice (some ⟨w.heap.size, 0, none⟩) 1 1)).run Tryd.prog ((w.drewN n).alloc (.cells #[.int .u8 (c : Int)] 5)) = .ok (.string t) ((w.drewN n).alloc (.cells #[.int .u8 (c : Int)] 5)) := by
  refine ⟨strOfNums [(c : Int)], strOfNums_size _, ?_, fun n w => ?_⟩
  · have h : 0 < (strOfNums [(c : Int)]).size := by rw [strOfNums_size]; simp
    rw [Swar.bt_in h]
    show (UInt8.ofNat ((c : Int).toNat)).toNat = c
    rw [Int.toNat_natCast]
    exact UInt8.toNat_ofNat_of_lt hc
  · refine run_convert_bytes_arg _ 29 5 Tryd.underlying29 Tryd.underlying5 _ 0 1 1 [(c : Int)] rfl (fun i hi => ?_) 9 Tryd.underlying9
    obtain rfl : i = 0 := by omega
    exact World.cell?_alloc_at _ _ _ _ rfl
theorem bt_append (s t : ByteArray) (i : Nat) : Swar.bt (s ++ t) i = if i < s.size then Swar.bt s i else Swar.bt t (i - s.size) := by
  split
  · rename_i h
    rw [Swar.bt_in (i := i) (by simp; omega), Swar.bt_in h, ByteArray.getElem_append_left h]
  · rename_i h
    by_cases h2 : i - s.size < t.size
    · rw [Swar.bt_in (i := i) (by simp; omega), Swar.bt_in h2, ByteArray.getElem_append_right (by omega)]
    · rw [Swar.bt_out (by simp; omega), Swar.bt_out (by omega)]
theorem idx_append_one (s t : ByteArray) (c : Nat) (h1 : t.size = 1) (hb : Swar.bt t 0 = c) : Swar.idxL (s ++ t) c s.size = (s.size : Int) := by
  unfold Swar.idxL
  refine Swar.fnd_hit _ _ _ (by simp; omega) ?_
  simp only [bt_append, Nat.lt_irrefl, if_false, Nat.sub_self, hb, beq_self_eq_true]
end Go.Proofs.YthiabdpihnjkcaaDoor
