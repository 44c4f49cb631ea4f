/-
  The walk of the law SwarPairs: whatever it is given it returns true, and of what was there nothing turns. Conditions: the text is no longer than any text that is read can be, numbers are ints, bytes are bytes, the table of package math/bits lies as its text lays it.
-/
import Derived.Test.YthiabdpihnjkcaaDoorPair
import Derived.Test.YthiabdpihnjkcaaDoorCount
import Derived.Test.YthiabdpihnjkcaaDoorRefPair
import Derived.Test.YthiabdpihnjkcaaDoorPick
namespace Go.Proofs.YthiabdpihnjkcaaDoor
open Go.RowKit
set_option linter.unusedVariables false
theorem Tab.drew2 {w : World} (t : Tab w) (n m : Nat) : Tab ((w.drewN n).drewN m) := fun i hi => t i hi
theorem banana : Swar.cntL ⟨#[98, 97, 110, 97, 110, 97]⟩ 97 (ByteArray.size ⟨#[98, 97, 110, 97, 110, 97]⟩) = 3 := by decide +kernel
theorem count_i (s : ByteArray) (c : Int) (w : World) (hs : s.size ≤ 1125899906842624) (h0 : 0 ≤ c) (hc : c < 256) :
    Calls Tryd.prog 32 #[.string s, .int .u8 c] w fun e w' => e = .returned (.int .i64 (Swar.cntL s c.toNat s.size : Nat)) ∧ ∃ n, w' = w.drewN n := by
  obtain ⟨k, rfl⟩ := Int.eq_ofNat_of_zero_le h0
  exact count_any s k w hs (by omega)
theorem pair_i (s : ByteArray) (x y : Nat) (g f : Int) (w : World) (hs : s.size ≤ 1125899906842624) (hx : x < 256) (hy : y < 256) (hg : g ≤ 9223372036854775807) (hl : -9223372036854775808 ≤ f) (hh : f ≤ 9223372036854775807) (ht : Tab w) :
    Calls Tryd.prog 34 #[.string s, .int .u8 (x : Int), .int .u8 (y : Int), .int .i64 g, .int .i64 f] w fun e w' => e = .returned (.int .i64 (pairI s x y g f)) ∧ ∃ n, w' = w.drewN n := by
  unfold pairI
  by_cases hn : g < 0
  · rw [if_pos hn]
    exact (pair_neg s x y g f w hn).mono fun e w' ⟨he, hw⟩ => ⟨he, 0, hw⟩
  · rw [if_neg hn]
    obtain ⟨k, rfl⟩ := Int.eq_ofNat_of_zero_le (show 0 ≤ g by omega)
    rw [Int.toNat_natCast]
    exact pair_any s x y k f w hs hx hy (by omega) hl hh ht
set_option maxHeartbeats 1000000 in
theorem swarPairs_any (s : ByteArray) (x y : Nat) (g f a : Int) (w : World) (hs : s.size ≤ 140737488351232) (hx : x < 256) (hy : y < 256) (hg0 : -9223372036854775808 ≤ g) (hg : g ≤ 9223372036854775807) (hl : -9223372036854775808 ≤ f) (hh : f ≤ 9223372036854775807) (ha0 : -9223372036854775808 ≤ a) (ha : a ≤ 9223372036854775807) (ht : Tab w) :
    Calls Tryd.prog 5 #[.string s, .int .u8 (x : Int), .int .u8 (y : Int), .int .i64 g, .int .i64 f, .int .i64 a] w fun e w' => e = .returned (.bool true) ∧ Below w.heap.size w w' := by
  go_enter Tryd.func5, Tryd.ntmps5
  go_wp2_with fail
  refine (count_i ⟨#[98, 97, 110, 97, 110, 97]⟩ 97 _ (by decide) (by omega) (by omega)).mono ?_
  rintro e w' ⟨rfl, n1, rfl⟩
  rw [show Int.toNat 97 = 97 from rfl, banana]
  go_wp2_with fail
  refine (count_any s x _ (by omega) hx).mono ?_
  rintro e w' ⟨rfl, n2, rfl⟩
  go_wp2_with fail
  refine (refCount_any s x _ (by omega) hx).mono ?_
  rintro e w' ⟨rfl, rfl⟩
  go_wp2_with fail
  refine (pair_i s x y g f _ (by omega) hx hy hg hl hh (ht.drewN _)).mono ?_
  rintro e w' ⟨rfl, n3, rfl⟩
  go_wp2_with fail
  refine (refPair_any s x y g f _ (by omega) hx hy hg0 hg hl hh).mono ?_
  rintro e w' ⟨rfl, rfl⟩
  by_cases h0 : s.size = 0
  · go_wp2_with fail
    go_ret
    exact ⟨rfl, below_drewN (Below.refl _ _) _⟩
  · have h0' : ((s.size : Int) == 0) = false := beq_eq_false_iff_ne.2 (by omega)
    go_wp2_with fail
    refine (pick_any a (s.size : Int) _ (by omega) (by omega) ha0 ha).mono ?_
    rintro e w' ⟨⟨p, hp, rfl⟩, rfl⟩
    go_wp2_with fail
    refine (pick_any g ((s.size : Int) - (p : Int)) _ (by omega) (by omega) hg0 hg).mono ?_
    rintro e w' ⟨⟨q, hq, rfl⟩, rfl⟩
    have p1 : p < s.size := by omega
    have p2 : (p : Int) + (q : Int) < (s.size : Int) := by omega
    have p3 : p + q < s.size := by omega
    have p4 : (0 : Int) ≤ (p : Int) + (q : Int) := by omega
    have hb : Below w.heap.size w (w.drewN (n1 + n2 + n3)) := below_drewN (Below.refl _ _) _
    have ht2 : Tab (w.drewN (n1 + n2 + n3)) := ht.drewN _
    go_wp2_with fail
    generalize w.drewN (n1 + n2 + n3) = W at *
    go_quiet ((go_at_call 34; exact Calls.quiet_of (pair_i s _ _ (q : Int) f _ (by omega) (UInt8.toNat_lt _) (UInt8.toNat_lt _) (by omega) hl hh (ht2.drewN _))))
    go_wp2_with fail
    have hb2 : Below w.heap.size w (W.drewN nq) := below_drewN hb nq
    have ht3 : Tab (W.drewN nq) := ht2.drewN _
    generalize W.drewN nq = V at *
    go_quiet ((first | (go_at_call 35; exact Calls.quiet_of_same (refPair_any s _ _ (q : Int) f _ (by omega) (UInt8.toNat_lt _) (UInt8.toNat_lt _) (by omega) (by omega) hl hh)) | (go_at_call 32; exact Calls.quiet_of (count_any s _ _ (by omega) (UInt8.toNat_lt _))) | (go_at_call 33; exact Calls.quiet_of_same (refCount_any s _ _ (by omega) (UInt8.toNat_lt _)))))
    go_wp2_with fail
    go_ret
    exact ⟨rfl, below_drewN hb2 _⟩
end Go.Proofs.YthiabdpihnjkcaaDoor
