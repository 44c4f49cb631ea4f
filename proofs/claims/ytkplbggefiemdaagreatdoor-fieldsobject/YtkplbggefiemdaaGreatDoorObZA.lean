/-
  object: Right of values that are right. Conditions: as each says.
-/
import Derived.Test.YtkplbggefiemdaaGreatDoorObZJ
import Derived.Test.YtkplbggefiemdaaGreatDoorObZ4
import Derived.Test.YtkplbggefiemdaaGreatDoorObZ5
import Derived.Test.YtkplbggefiemdaaGreatDoorObZ6
import Derived.Test.YtkplbggefiemdaaGreatDoorObZ7
namespace Go.Proofs.YtkplbggefiemdaaGreatDoor
open Go.RowKit Go.Maps
set_option linter.unusedVariables false
set_option linter.unusedSimpArgs false
mutual
def szV : Vl → Nat
  | .mk k t ns ks => szVL ks + 1
def szVL : List Vl → Nat
  | [] => 0
  | v :: vs => szV v + szVL vs
end
theorem szVL_get : ∀ (l : List Vl) (i : Nat) (v : Vl), l[i]? = some v → szV v ≤ szVL l
  | [], i, v, h => by simp at h
  | a :: l, 0, v, h => by
    simp at h
    subst h
    rw [szVL]
    omega
  | a :: l, i + 1, v, h => by
    have := szVL_get l i v (by simpa using h)
    rw [szVL]
    omega
theorem okL_get : ∀ (n : Nat) (l : List Vl) (i : Nat) (v : Vl), okL n l = true → l[i]? = some v → okV n v = true
  | n, [], i, v, _, h => by simp at h
  | n, a :: l, 0, v, h0, h => by
    simp at h
    subst h
    rw [okL] at h0
    simp at h0
    exact h0.1
  | n, a :: l, i + 1, v, h0, h => by
    rw [okL] at h0
    simp at h0
    exact okL_get n l i v h0.2 (by simpa using h)
theorem bl_empty {t : ByteArray} (h : Sums.bl t = []) : t = ByteArray.empty := Sums.bl_inj (h.trans rfl)
theorem numT_ok {t : ByteArray} (h : numT t = true) : t.size ≤ 65536 ∧ nmP (Sums.bl t) 0 = .ok t.size := by
  unfold numT at h
  rw [Bool.and_eq_true, decide_eq_true_eq] at h
  refine ⟨h.1, ?_⟩
  have h2 := h.2
  cases hn : nmP (Sums.bl t) 0 with
  | ok q =>
    rw [hn] at h2
    have : q = t.size := by simpa using h2
    rw [this]
  | no c q => rw [hn] at h2; cases h2
theorem shT_ok {t : ByteArray} (h : shT t = true) : t.size ≤ 65536 ∧ Lib.validD t.data.toList = true := by
  unfold shT at h
  rw [Bool.and_eq_true, decide_eq_true_eq] at h
  exact h
theorem check_ok (h : Nat) (F : Nat → Prop) (hF : ¬ F h) : ∀ (m : Nat) (v : Vl), szV v ≤ m → ∀ (n d a s : Nat) (cs : Array Value) (w : World), d + n = 41 → okV n v = true → w.heap[h]? = some (.cells #[.int .i64 (a : Int), .int .i64 (s : Int)] 88 (0, 0)) → VlAt F w v cs → (accV v (a, s)).1 ≤ 65536 → (accV v (a, s)).2 ≤ 65536 → UtT w →
    Calls Tryz.prog 68 #[.pointer (some ⟨h, 0, none⟩), .agg cs, .int .i64 (d : Int)] w fun e Y => e = .returned (.int .i64 0) ∧ Y.heap[h]? = some (.cells #[.int .i64 ((accV v (a, s)).1 : Int), .int .i64 ((accV v (a, s)).2 : Int)] 88 (0, 0)) ∧ Only h w Y
  | 0, .mk k t ns ks, hm => by rw [szV] at hm; omega
  | m + 1, .mk k t ns ks, hm => by
    intro n d a s cs w hdn hok hc hv h1 h2 hut
    rw [szV] at hm
    have hkid : okL (n - 1) ks = true → 0 < n → ∀ (i : Nat) (u : Vl), ks[i]? = some u → ∀ (a s : Nat) (cs : Array Value) (X : World), X.heap[h]? = some (.cells #[.int .i64 (a : Int), .int .i64 (s : Int)] 88 (0, 0)) → VlAt F X u cs → (accV u (a, s)).1 ≤ 65536 → (accV u (a, s)).2 ≤ 65536 → UtT X → Calls Tryz.prog 68 #[.pointer (some ⟨h, 0, none⟩), .agg cs, .int .i64 ((d : Int) + 1)] X fun e Y => e = .returned (.int .i64 0) ∧ Y.heap[h]? = some (.cells #[.int .i64 ((accV u (a, s)).1 : Int), .int .i64 ((accV u (a, s)).2 : Int)] 88 (0, 0)) ∧ Only h X Y := fun hol hn i u hu a s cs X q1 q2 q3 q4 q5 => by
      have hs := szVL_get ks i u hu
      have := check_ok h F hF m u (by omega) (n - 1) (d + 1) a s cs X (by omega) (okL_get _ _ _ _ hol hu) q1 q2 q3 q4 q5
      simpa using this
    rw [okV] at hok
    simp only [Bool.or_eq_true, Bool.and_eq_true, decide_eq_true_eq, List.isEmpty_iff, List.all_eq_true] at hok
    rcases hok with (((⟨⟨⟨⟨k1, k3⟩, x1⟩, rfl⟩, rfl⟩ | ⟨⟨⟨rfl, x1⟩, rfl⟩, rfl⟩) | ⟨⟨⟨rfl, x1⟩, rfl⟩, rfl⟩) | ⟨⟨⟨⟨⟨rfl, x1⟩, rfl⟩, x3⟩, x4⟩, x5⟩) | ⟨⟨⟨⟨⟨⟨⟨rfl, x1⟩, x2⟩, x6⟩, x7⟩, x3⟩, x4⟩, x5⟩
    · obtain rfl := bl_empty x1
      rcases (show k = 1 ∨ k = 2 ∨ k = 3 by omega) with rfl | rfl | rfl
      · exact check1 h F d a s cs w hc hv hF (by omega) hut h1 h2
      · exact check2 h F d a s cs w hc hv hF (by omega) hut h1 h2
      · exact check3 h F d a s cs w hc hv hF (by omega) hut h1 h2
    · exact check4 h t F d a s cs w hc hv hF (by omega) (numT_ok x1).1 (numT_ok x1).2 h1 h2
    · exact check5 h t F d a s cs w hc hv hF (by omega) (shT_ok x1).1 (shT_ok x1).2 hut h1 h2
    · obtain rfl := bl_empty x1
      exact check6 h ks F d a s cs w hc hv hF (by omega) hut x4 h1 h2 (hkid x5 x3)
    · obtain rfl := bl_empty x1
      have hdd : ((ns.map keyL).foldl addKey []).length = ns.length := by
        unfold dstN at x7
        simpa using x7
      exact check7 h ns ks F d a s cs w hc hv hF (by omega) hut x4 x2 (fun t ht => shT_ok (x6 t ht)) hdd h1 h2 (hkid x5 x3)
set_option maxRecDepth 100000 in
set_option maxHeartbeats 2000000 in
theorem right_ok (v : Vl) (F : Nat → Prop) (cs : Array Value) (w : World) (hok : okV 40 v = true) (hv : VlAt F w v cs) (hF : ∀ k, F k → k < w.heap.size) (h1 : (accV v (0, 0)).1 ≤ 65536) (h2 : (accV v (0, 0)).2 ≤ 65536) (hut : UtT w) :
    Calls Tryz.prog 37 #[.agg cs] w fun e w' => e = .returned (.int .i64 0) ∧ Below w.heap.size w w' := by
  obtain ⟨xk, xt, p1, n1, c1, p2, n2, c2, rfl⟩ := hv.form
  have HC : Hid (∀ X, X = (w.alloc (.cells #[.int .i64 xk, .string xt, .slice p1 n1 c1, .slice p2 n2 c2] 41)).alloc (.cells #[.int .i64 0, .int .i64 0] 88) → Calls Tryz.prog 68 #[.pointer (some ⟨w.heap.size + 1, 0, none⟩), .agg #[.int .i64 xk, .string xt, .slice p1 n1 c1, .slice p2 n2 c2], .int .i64 ((1 : Nat) : Int)] X fun e Y => e = .returned (.int .i64 0) ∧ Y.heap[w.heap.size + 1]? = some (.cells #[.int .i64 ((accV v (0, 0)).1 : Int), .int .i64 ((accV v (0, 0)).2 : Int)] 88 (0, 0)) ∧ Below w.heap.size w Y) := Hid.mk' (fun X hX => by
    subst hX
    have s1 : (w.alloc (.cells #[.int .i64 xk, .string xt, .slice p1 n1 c1, .slice p2 n2 c2] 41)).heap.size = w.heap.size + 1 := World.size_alloc _ _
    have b1 := (Below.refl _ w).alloc (Nat.le_refl _) (.cells #[.int .i64 xk, .string xt, .slice p1 n1 c1, .slice p2 n2 c2] 41)
    have b2 := b1.alloc (by omega) (.cells #[.int .i64 0, .int .i64 0] 88)
    have hn2 := heap_alloc_new (w.alloc (.cells #[.int .i64 xk, .string xt, .slice p1 n1 c1, .slice p2 n2 c2] 41)) (.cells #[.int .i64 0, .int .i64 0] 88)
    rw [s1] at hn2
    have hvx := VlAt.keep (F := F) (G := F) (X := w) (fun _ x => x) (fun j hj hl => b2.block j hl) b2.size _ _ hv
    refine (check_ok (w.heap.size + 1) F (fun hf => by have := hF _ hf; omega) (szV v) v (Nat.le_refl _) 40 1 0 0 _ _ rfl hok hn2 hvx h1 h2 (hut.below b2 (by omega))).mono ?_
    rintro e Y ⟨rfl, q1, q2⟩
    have hs2 : ((w.alloc (.cells #[.int .i64 xk, .string xt, .slice p1 n1 c1, .slice p2 n2 c2] 41)).alloc (.cells #[.int .i64 0, .int .i64 0] 88)).heap.size = w.heap.size + 1 + 1 := by rw [World.size_alloc, s1]
    refine ⟨rfl, q1, ⟨q2.os.trans b2.os, q2.tape.trans b2.tape, q2.output.trans b2.output, Nat.le_trans b2.size q2.size, fun k hk => (q2.block k (by omega) (by omega)).trans (b2.block k hk)⟩⟩)
  obtain ⟨z1, hz1⟩ : ∃ z, (accV v (0, 0)).1 = z := ⟨_, rfl⟩
  obtain ⟨z2, hz2⟩ : ∃ z, (accV v (0, 0)).2 = z := ⟨_, rfl⟩
  rw [hz1, hz2] at HC
  have hzI : ¬ (65536 : Int) < (z2 : Int) := by omega
  have hzd : decide ((65536 : Int) < (z2 : Int)) = false := decide_eq_false hzI
  have hzn : decide (65536 < z2) = false := decide_eq_false (by omega)
  clear hok hv hF h1 h2 hz1 hz2
  go_enter Tryz.func37, Tryz.ntmps37
  go_wp2_with fail
  refine (HC.out _ rfl).mono ?_
  rintro e Y ⟨rfl, q1, q2⟩
  have a1 : Y.cell? ⟨w.heap.size + 1, 1, none⟩ = some (.int .i64 (z2 : Int)) := by simp [World.cell?, q1]
  have HB := Hid.mk' q2
  clear q1 q2 HC
  go_wp2_with fail
  go_ret
  exact ⟨rfl, HB.out⟩
end Go.Proofs.YtkplbggefiemdaaGreatDoor
