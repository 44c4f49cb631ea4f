/-
  The law MomentBuckets is true. Conditions: ints; the tables lie as the programs' texts lay them.
-/
import Derived.Test.YtpkhjfoeemhhoabDoorPk12
namespace Go.Proofs.YtpkhjfoeemhhoabDoor
open Go.RowKit
set_option linter.unusedVariables false
theorem bucketN (n k : Nat) (w : World) (h1 : n ≤ 253402300799999) (h2 : 1 ≤ k) (h3 : k ≤ 253402300799999) : Calls Tryd.prog 16 #[.int .i64 (n : Int), .int .i64 (k : Int)] w fun e w' => e = .returned (.tuple #[.int .i64 ((n - n % k : Nat) : Int), .int .i64 0]) ∧ w' = w := by
  have := bucket_any (n : Int) (k : Int) w
  unfold bucketR at this
  rw [if_neg (by omega), if_neg (by omega)] at this
  have hle := Nat.mod_le n k
  have e : (n : Int) - (n : Int) % (k : Int) = ((n - n % k : Nat) : Int) := by
    rw [show (n : Int) % (k : Int) = ((n % k : Nat) : Int) by simp]
    omega
  rw [e] at this
  exact this
set_option maxRecDepth 100000 in
set_option maxHeartbeats 4000000 in
theorem momentBuckets_any (stamp width : Int) (w : World) (hs0 : -9223372036854775808 ≤ stamp) (hs1 : stamp ≤ 9223372036854775807) (hw0 : -9223372036854775808 ≤ width) (hw1 : width ≤ 9223372036854775807) (hu : UnT w) (hp : Pow w) :
    Calls Tryd.prog 6 #[.int .i64 stamp, .int .i64 width] w fun e w' => e = .returned (.bool true) ∧ Below w.heap.size w w' := by
  have HK := Hid.mk' (known_any w hu hp)
  have P1 := Hid.mk' (fun w => pick_any stamp 253402300800000 w hs0 hs1 (by decide) (by decide))
  have P2 := Hid.mk' (fun w => pick_any width 253402300799999 w hw0 hw1 (by decide) (by decide))
  clear hu hp hs0 hs1 hw0 hw1
  go_enter Tryd.func6, Tryd.ntmps6
  go_wp2_with fail
  refine HK.out.mono ?_
  rintro e w1 ⟨rfl, hlw⟩
  have HB := Hid.mk' hlw.bel
  clear hlw HK
  go_wp2_with fail
  refine (P1.out _).mono ?_
  rintro e w2 ⟨⟨n, hn, rfl⟩, hw⟩
  have hw2 := hw.symm
  subst hw2
  clear hw P1
  go_wp2_with fail
  refine (P2.out _).mono ?_
  rintro e w3 ⟨⟨v, hv, rfl⟩, hw⟩
  have hw2 := hw.symm
  subst hw2
  clear hw P2
  obtain ⟨k, hk⟩ : ∃ k, 1 + v = k := ⟨_, rfl⟩
  have hkI : (1 : Int) + (v : Int) = (k : Int) := by omega
  have hk1 : 1 ≤ k := by omega
  have hk2 : k ≤ 253402300799999 := by omega
  have hk3 : (k : Int) ≤ 253402300799999 := by omega
  have hk4 : 1 ≤ (k : Int) := by omega
  have hk5 : ¬ (k : Int) = 0 := by omega
  clear hk
  have BA := Hid.mk' (fun w => bucketN n k w (by omega) hk1 hk2)
  obtain ⟨b, hb⟩ : ∃ b, n - n % k = b := ⟨_, rfl⟩
  have hbn : b ≤ n := by rw [← hb]; exact Nat.sub_le _ _
  have hml := Nat.mod_lt n (show 0 < k by omega)
  have hmle := Nat.mod_le n k
  have hdiv : b % k = 0 := by
    rw [← hb]
    have h := Nat.div_add_mod n k
    have : n - n % k = k * (n / k) := by omega
    rw [this]
    exact Nat.mul_mod_right k _
  have hnb : n - b < k := by rw [← hb]; omega
  rw [hb] at BA
  have BB : Hid (∀ w, Calls Tryd.prog 16 #[.int .i64 (b : Int), .int .i64 (k : Int)] w fun e w' => e = .returned (.tuple #[.int .i64 (b : Int), .int .i64 0]) ∧ w' = w) := fun w => by
    have := bucketN b k w (by omega) hk1 hk2
    rw [hdiv, Nat.sub_zero] at this
    exact this
  have hdI : (b : Int) % (k : Int) = 0 := by
    rw [show (b : Int) % (k : Int) = ((b % k : Nat) : Int) by simp, hdiv]; rfl
  have t1 : ¬ (n : Int) < (b : Int) := by omega
  have t1b : decide ((n : Int) < (b : Int)) = false := by simp; omega
  have t2 : ¬ (k : Int) ≤ (n : Int) - (b : Int) := by omega
  have t2b : decide ((k : Int) ≤ (n : Int) - (b : Int)) = false := by simp; omega
  have hnB : n ≤ 253402300799999 := by omega
  have HH := Hid.mk' (And.intro hdiv (And.intro hbn hb))
  clear hb hml hmle hnb hdiv
  go_wp2_with fail
  refine (BA.out _).mono ?_
  rintro e w4 ⟨rfl, hw⟩
  have hw2 := hw.symm
  subst hw2
  clear hw BA
  go_wp2_with fail
  refine (BB.out _).mono ?_
  rintro e w5 ⟨rfl, hw⟩
  have hw2 := hw.symm
  subst hw2
  clear hw BB
  obtain ⟨q, hq⟩ : ∃ q, b + k = q := ⟨_, rfl⟩
  have hqI : (b : Int) + (k : Int) = (q : Int) := by omega
  have hqk : q % k = 0 := by rw [← hq, Nat.add_mod_right]; exact HH.out.1
  have HQ := Hid.mk' hqk
  have hqb : q ≤ 600000000000000 := by omega
  clear hq hqk
  by_cases hc : 253402300799999 < q
  · have hcI : (253402300799999 : Int) < (q : Int) := by omega
    clear hc
    go_wp2_with fail
    go_ret
    exact ⟨rfl, HB.out⟩
  · have hcI : ¬ (253402300799999 : Int) < (q : Int) := by omega
    have BC : Hid (∀ w, Calls Tryd.prog 16 #[.int .i64 (q : Int), .int .i64 (k : Int)] w fun e w' => e = .returned (.tuple #[.int .i64 (q : Int), .int .i64 0]) ∧ w' = w) := fun w => by
      have := bucketN q k w (by omega) hk1 hk2
      rw [HQ.out, Nat.sub_zero] at this
      exact this
    clear hc
    go_wp2_with fail
    refine (BC.out _).mono ?_
    rintro e w6 ⟨rfl, hw⟩
    have hw2 := hw.symm
    subst hw2
    clear hw BC
    go_wp2_with fail
    go_ret
    exact ⟨rfl, HB.out⟩
end Go.Proofs.YtpkhjfoeemhhoabDoor
