/-
  moment: the taker: counted. Conditions: the taker lies in a block of its own.
-/
import Derived.Test.YthmpokndffbkdaaDoorMoS
namespace Go.Proofs.YthmpokndffbkdaaDoor
open Go.RowKit
set_option linter.unusedVariables false
def cnL (l : List Nat) : List Nat := if endF (numL 10 l) = true then numL 10 l else numL 3 (numL 10 l)
def cnB (l : List Nat) : Bool := numB 10 l || (!endF (numL 10 l) && numB 3 (numL 10 l))
def cnN (l : List Nat) : Nat := if endF (numL 10 l) = true then numN 10 0 l * 1000 else numN 10 0 l * 1000 + numN 3 0 (numL 10 l)
set_option maxHeartbeats 2000000 in
theorem counted_any (g : Nat) (l : List Nat) (b : Bool) (w : World) (h : Tk g l b w) :
    Calls Tryd.prog 72 #[.pointer (some ⟨g, 0, none⟩)] w fun e w' => e = .returned (.int .i64 ((cnN l : Nat) : Int)) ∧ Tk g (cnL l) (b || cnB l) w' ∧ Only g w w' := by
  have HX := Hid.mk' h
  have hb10 := numN_lt 10 0 l
  obtain ⟨n, hn⟩ : ∃ n, numN 10 0 l = n := ⟨_, rfl⟩
  have HN := Hid.mk' (number_any g 10 l b w h (by decide))
  unfold cnL cnB cnN
  rw [hn] at HN hb10 ⊢
  have hb : n < 10000000000 := by simpa using hb10
  clear hb10 hn h
  cases hd : endF (numL 10 l)
  · rw [if_neg (by decide), if_neg (by decide), Bool.not_false, Bool.true_and]
    have HD := Hid.mk' hd
    have hk := numN_lt 3 0 (numL 10 l)
    obtain ⟨k, hkk⟩ : ∃ k, numN 3 0 (numL 10 l) = k := ⟨_, rfl⟩
    rw [hkk] at hk ⊢
    have hkb : k < 1000 := by simpa using hk
    have HKK := Hid.mk' hkk
    clear hd hk hkk
    go_enter Tryd.func72, Tryd.ntmps72
    go_wp2_with fail
    refine HN.out.mono ?_
    rintro e a1 ⟨rfl, ht, ho⟩
    have HT := Hid.mk' ht
    have HO := Hid.mk' ho
    clear ht ho HX HN
    go_wp2_with fail
    refine (ended_any g _ _ _ HT.out).mono ?_
    rintro e a2 ⟨rfl, hw⟩
    have hw2 := hw.symm
    subst hw2
    clear hw
    rw [HD.out]
    go_wp2_with fail
    refine (number_any g 3 _ _ _ HT.out (by decide)).mono ?_
    rintro e a3 ⟨rfl, ht, ho⟩
    have HT3 := Hid.mk' ht
    have HO3 := Hid.mk' (HO.out.trans ho)
    rw [HKK.out]
    clear ht ho HT HO
    go_wp2_with fail
    go_ret
    refine ⟨ret_i64 (by omega), ?_, HO3.out⟩
    have := HT3.out
    simpa [Bool.or_assoc] using this
  · rw [if_pos rfl, if_pos rfl, Bool.not_true, Bool.false_and, Bool.or_false]
    have HD := Hid.mk' hd
    clear hd
    go_enter Tryd.func72, Tryd.ntmps72
    go_wp2_with fail
    refine HN.out.mono ?_
    rintro e a1 ⟨rfl, ht, ho⟩
    have HT := Hid.mk' ht
    have HO := Hid.mk' ho
    clear ht ho HX HN
    go_wp2_with fail
    refine (ended_any g _ _ _ HT.out).mono ?_
    rintro e a2 ⟨rfl, hw⟩
    have hw2 := hw.symm
    subst hw2
    clear hw
    rw [HD.out]
    go_wp2_with fail
    go_ret
    exact ⟨ret_i64 (by omega), HT.out, HO.out⟩
end Go.Proofs.YthmpokndffbkdaaDoor
